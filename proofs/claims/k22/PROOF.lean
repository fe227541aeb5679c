import PyProof.Rows.All
import Wide.All
import OpenK.AllK
import Wide.FinOn
import PyProof.EqAt
import PyProof.EqKinds
import PyProof.TupleCall
import PyProof.AttrMiss
import PyProof.IsiH_list
import PyProof.Rows.SetFrom
import KE.KDictOf
import KE.KTab
import PyProof.AutoListH
import KE.KSortTup
import KE.KItemsList
import KE.KEqDict
import KE.KIntText
import Lean
import PyProof.RulesRaise
import PyProof.RulesTry
import KE.KTryDeep
import KE.KTryMore
import KE.KTryOn
import KE.TryInHelper
import KE.TryLedger
import PyProof.ExcArgsOwn
import PyProof.ExcAttrAll.ValueError
import KE.KIsAll
import PyProof.ExcBaseAll.ValueError
import PyProof.InstStoreFacts
import PyProof.ExcInit
import PyProof.SeqI3
import PyProof.ConsumeWalk
import PySem.Challenge.RW_callboard_k22_where_it_could_ring
set_option Elab.async false
set_option linter.all false
set_option maxRecDepth 100000
set_option maxHeartbeats 4000000
open List renaming length_map->cR,getElem?_eq_getElem->cT,length_append->cU,getElem?_eq_some_iff->cV,mem_cons->c9,mem_singleton->dg,size_toArray->dh,mem_map->dz,getElem?_map->dA,not_mem_nil->dB,mem_cons_of_mem->dC,length_nil->dD,length_singleton->dH,map_append->dJ,mem_cons_self->dO,nodup_cons->dP,map_cons->dR,mem_append->dU,nil_append->dW,length_cons->dY,map_map->dZ,mem_append_right->eA,length_range->eD,getElem?_append_right->eE,replicate_succ->eF,nodup_nil->eG,getElem?_append_left->eI,getElem?_set_self->eK,lookup_cons->eL,append_nil->eM,getElem?_set_ne->eP,take_length->eW,all_eq_true->eX,append_assoc->fi,mem_append_left->fj,length_pos_iff->fu,mem_filter->fz,length_take->fB,cons_ne_nil->fC,mem_of_find?_eq_some->fD,getElem_of_mem->fE,find?_cons->fH,exists_cons_of_ne_nil->fL,flatten_cons->fM,nodup_append->fN,length_filter_le->fP,mem_of_getElem?->fQ,filter_cons_of_pos->fR,filter_cons_of_neg->fS,foldl_cons->fV,filterMap_cons->fY,filter_sublist->fZ,any_cons->gc,length_drop->gf,length_modify->gi,filter_nil->gk,all_cons->gp,length_eq_zero_iff->gq,mem_range->gu,any_eq_true->gw,find?_eq_none->gz,filter_append->gA,getElem?_eq_none->gC,getD_eq_getElem?_getD->gD,take_add_one->gH,drop_eq_getElem_cons->gK,getLast?_eq_none_iff->gL,getElem_mem->gN,filter_cons->gO,map_congr_left->gQ,filter_map->gX,take_of_length_le->gZ,findIdx?_map->hJ,map_nil->hU,length_set->ii,getLastD_eq_getLast?->ij,contains_cons->iq,getElem?_cons_zero->iw,findIdx?_eq_some_iff_getElem->iz,length_replicate->iC,getElem?_toArray->iD,set_set->iK,mem_of_mem_take->iL,mem_of_mem_drop->iM,mem_of_getLast?->iN,dropLast_subset->iO,getElem?_modify->iP,find?_some->iQ,drop_zero->iX,map_id->iZ,sublist_append_right->jq,pairwise_iff_getElem->jr,getLast?_eq_getElem?->js,findIdx?_eq_none_iff->jt,drop_length->jA,any_map->jD,eq_of_mem_replicate->jE,getElem?_replicate->jF,of_mem_zip->jI,forIn_cons->jJ,range_succ->jN,forIn_nil->jT,set_append_right->j3,map_drop->ko,getElem?_range->kt,filter_eq_self->kz,modify_eq_self->kA,mem_filterMap->kF,getElem_range->kS,set_cons_succ->kT,any_eq_false->kX,foldl_append->k9,getElem_inj->lA,zipIdx_cons->lK,getElem_map->lO,zipIdx_nil->lT,any_append->lU,map_take->lX,all_map->l8,map_set->me
open PySem renaming wpAny_bind->cS,wpAny_pure->cZ,sizeLine_eq->dN,wpAny_mono->d9,wpAny_holding->eC,wpAny_field->e9,wpAny_truthy_bool->fh,wpAny_callSpecial?_slot->fK,wpAny_newObj_type->fT,wpAny_call_entry->gg,wpAny_Call_Name_kw->gh,codeAny_mono->gj,wpAny_seqItems->gv,wpAny_setField_rec->gy,wpAny_passesOwn->gB,wpAny_pyIter_list->gG,mem_of_lookup->gP,wpAny_standAt->gR,wpAny_execs_nil->gT,codeAny_builtin->gU,wpAny_loadPart_at->hG,wpAny_setField->hZ,wpAny_call->ia,codeAny_call_builtin->ic,wpAny_pyIter_tuple->ip,wpAny_onRaise->iA,plainObj_wpAny_Assign_Attribute->iE,wpAny_specialOf->iH,wpAny_updateSeq_pair->iI,isSubtype_type->iW,tupleKind_room_in1->jb,slot_dict_contains->jd,wpAny_sequenceKey->jj,call_meets->jo,wpAny_execs_cons->ju,wpAny_typeOf->jx,wpAny_comprehension_free->jz,codeAny_of_tree->jL,wpAny_pyNext_list_item->jP,wpAny_pyNext_list_end->jS,builtinLookup_eq_fast->jU,weight_type_call_type->jV,getitemInPython_of_ne->jW,wpAny_rule->j6,wpAny_letTemporaryGo->j8,plainId_quiet->kh,wpAny_attempt->kl,wpAny_isSubtype_exc->ky,concat_meets->kH,seqIndex_neg->kK,wpAny_assign_Name->kU,wpAny_Assign_Name->kW,slot_list_getitem->kZ,slot_dict_getitem->lh,wpAny_pyIter_enum->lj,seqIndex_of->lw,wpAny_letGo->ly,wpAny_pyHash_str->lz,wpAny_lookBehind->lB,pastItsLine_dict->lC,noFill_tuple_add->lE,check_set_init_1->lJ,wpAny_pyIter_zip->lM,wpAny_Name->lP,typeIs_int->lQ
def cW:=@if_neg
def cY:=@if_pos
def dQ:=@decide_eq_true
def eB:=@decide_eq_true_eq
def eO:=@decide_eq_false
def eQ:=@congrArg
def eU:=@or_false
def fg:=@beq_self_eq_true
def fk:=@beq_iff_eq
def fJ:=@not_or
def fO:=@of_decide_eq_true
def fX:=@beq_eq_false_iff_ne
def iV:=@if_true
def j5:=@if_false
open PySem.Heap renaming get?_push_of_some->cX,lt_size->dv,get?_push_size->dF,size_push->fm,get?_update_self->fG,get?_update_other->gb,get?_none_of_le->gJ,get?_update_ne->kx
open Nat renaming le_refl->de,ne_of_lt->dG,lt_of_lt_of_le->dI,le_trans->dX,lt_irrefl->eY,zero_le->eZ,lt_succ_self->fA,ne_of_gt->gM,le_succ->gY,lt_succ_of_lt->g9,sub_self->h9,succ_le_succ->ie,lt_of_le_of_lt->iu,le_add_right->iB,le_succ_of_le->jm,lt_trans->jy,mul_le_mul->jX,le_of_lt->kE,sub_zero->kN,min_eq_left->lV,le_of_eq->lZ,succ_mul->l0,zero_add->ma,succ_pos->mf
open Option.some renaming inj->df,injEq->jl
open Bool renaming false_ne_true->dw,eq_false_iff->dE,and_eq_true->dS,true_and->eJ,false_and->eS,false_or->fF,eq_iff_iff->fW,not_eq_true'->gI,or_eq_true->gW,true_or->hW,not_eq_false->jn,or_false->kg,beq_comm->km,or_true->kP,false_eq_true->kQ
open Ne renaming symm->dM
open Int renaming eq_ofNat_of_zero_le->d6,emod_lt_of_pos->eN,emod_nonneg->eR,mul_le_mul_of_nonneg_left->iR,toNat_natCast->ji,emod_add_mul_ediv->jZ,zero_add->mh
open PySem.PassesOwn renaming never->eV
open PySem.F renaming called_set->ft,slot_tuple_iterator_next->gF,slot_list_getattribute->ik,slot_zip_next->iJ,args_tuple_iterator_next_1->iY,entry_tuple_iterator_next->je,slot_dict_getitem->jp,args_tuple_add_2->jw,store_ValueError->jC,entry_tuple_add->jG,slot_tuple_add->jQ,attrBase_ValueError->jY,excBase_ValueError->j9,entry_type_call->lb,args_zip_next_1->ls,typeCall_set_1->lG,entry_set_init->lH,entry_zip_next->lL,slot_int_rmul->lR
open PyProof.Rows renaming slot_tuple_getitem->fv,callWith_type1->fU,SetOf_congr->im,callWith_builtin1->iG,setObjOf_fresh->jc,subscriptTail_builtinR->jR,entry_tuple_getitem->kr,args_tuple_getitem->kI
open PySem.W renaming kia_one->gm,callWith_K->iF,looks_findIn->iU,methodCall_KW->jM,plainGet_of->kc,looks_clsIn->ke,kitx_list->lu,cellsFrom_some->lD
open PyProof.Rows.F renaming plain_set_update_loop->gx,entry_set_update_loop->il
open List.cons renaming inj->gS
open PySem.Around renaming under_plainId->ib,under_plain->kM
open Array renaming getElem?_setIfInBounds_self_of_lt->ig,length_toList->iS,toList_append->iT,size_setIfInBounds->jB,mem_toList_iff->j4,append_assoc->kD,find?_toList->kG
open PySem.Code renaming quiet_builtin->io
open List.Nodup renaming sublist->ir
open Option renaming map_eq_some_iff->iy,isSome_map->jk,isSome_iff_exists->jv,map_some->jK,getD_none->lF,bind_some->lN
open PySem.Calls renaming spliced_cons->ja,Name_function_global->jg,spliced_nil->jh
open PySem.Paired renaming length->jf,snoc->mj
open Sum.inr renaming inj->jO
open PySem.Walks renaming list->j7
open PySem.Heap.SameBut renaming update->ku
open PySem.SeqAt.EqAt renaming int_str->kB,str_int->kC
open PySem.Obj renaming data_mapFields->kO
open PySem.Heap.Ns1 renaming of_empty->kY
open Eq renaming symm->lW
open PySem.W.Looks renaming here->lY
open PySem.Heap.FunFrames renaming of_keeps->mi
open PySem.Moved renaming trans->mo
open PySem.Heap.IsSliceOf renaming new->mq
abbrev pU:=PySem.W.Frag
local macro_rules | `(tactic| walk_at "l") => `(tactic| (intro _ _ _ h; repeat (first | (obtain ⟨e, _⟩ := h; subst e; rfl; done) | (cases h; rename_i h))))
local macro_rules | `(tactic| walk_at "m") => `(tactic| (intro _ _ _ _ h; repeat (first | (obtain ⟨e, _⟩ := h; subst e; rfl; done) | (cases h; rename_i h))))
abbrev Vl:=PySem.Value
abbrev Sd:=PySem.Shared
abbrev Pg:=PySem.Program
abbrev Ar:=PySem.Around
abbrev Wo:=PySem.World
namespace L2
open PySem PySem.Spec PyProof.Rows
def x5{α:Sort u}{β:Sort v}{p q r:α->β->Prop}{C:Prop}(h:∃a b,p a b/\q a b/\r a b)(f:∀a b,p a b->q a b->r a b->C):C:=by obtain⟨a,b,h1,h2,h3⟩:=h;exact f a b h1 h2 h3
abbrev qK:=Sum Int Str
def Dd:qK->Vl->Bool
 | .inl k,v=>Value.isInt k v
 | .inr x,v=>Value.isStrOf x v
def Uy(w:Wo):qK->Int
 | .inl k=>hashInt k
 | .inr x=>hashStr w x
def rP:∀{k:qK} {v:Vl},Dd k v=true->(∃i t,k=Sum.inl i/\v=Value.int i t)\/(∃x t,k=Sum.inr x/\v=Value.str x t)
 | .inl i,v,h=>by obtain⟨t,e⟩:=Value.isInt_shape (k:=i) (v:=v) h;exact .inl ⟨i,t,rfl,e⟩
 | .inr x,v,h=>by obtain⟨t,e⟩:=Value.isStrOf_shape (x:=x) (v:=v) h;exact .inr ⟨x,t,rfl,e⟩
def I0(i:Int)(t:Tok):Dd (.inl i) (.int i t)=true:=by simp[Dd,Value.isInt]
def Jw(x:Str)(t:Tok):Dd (.inr x) (.str x t)=true:=by simp[Dd,Value.isStrOf]
def QQ(a b:Int):decide ((Sum.inl a:qK)=Sum.inl b)=(a==b):=by
 by_cases e:a=b
 .subst e;simp
 .have h:¬(Sum.inl a:qK)=Sum.inl b:=λq=>e (Sum.inl.inj q);rw[eO h];exact(fX.mpr e).symm
def QI(a b:Str):decide ((Sum.inr a:qK)=Sum.inr b)=decide (a=b):=by
 by_cases e:a=b
 .subst e;simp
 .have h:¬(Sum.inr a:qK)=Sum.inr b:=λq=>e (jO q);rw[eO h,eO e]
def RH(a:Int)(b:Str):decide ((Sum.inl a:qK)=Sum.inr b)=false:=eO (λq=>nomatch q)
def QS(a:Str)(b:Int):decide ((Sum.inr a:qK)=Sum.inl b)=false:=eO (λq=>nomatch q)
def qZ(prog:Pg)(w:Wo):PySem.KeyKind prog w qK where
 is:=Dd
 hash:=Uy w
 inj:=λv a b ha hb=>by
  rcases rP ha with⟨i,t,rfl,rfl⟩|⟨x,t,rfl,rfl⟩
  .rcases rP hb with⟨j,u,rfl,e⟩|⟨y,u,rfl,e⟩
   .injection e with e1 _;rw[e1]
   .exact nomatch e
  .rcases rP hb with⟨j,u,rfl,e⟩|⟨y,u,rfl,e⟩
   .exact nomatch e
   .injection e with e1 _;rw[e1]
 byValue:=λk v h=>by rcases rP h with⟨i,t,rfl,rfl⟩|⟨x,t,rfl,rfl⟩<;>rfl
 pyHash:=λhv h=>by
  rcases rP hv with⟨i,t,rfl,rfl⟩|⟨x,t,rfl,rfl⟩
  .exact wpAny_pyHash_int h
  .exact lz h
 eqBool:=λhu hv h=>by
  rcases rP hu with⟨i,t,rfl,rfl⟩|⟨x,t,rfl,rfl⟩
  .rcases rP hv with⟨j,u,rfl,rfl⟩|⟨y,u,rfl,rfl⟩
   .rw[QQ]at h;exact wpAny_eqBool_int h
   .rw[RH]at h;exact kB i t y u _ _ _ _ h
  .rcases rP hv with⟨j,u,rfl,rfl⟩|⟨y,u,rfl,rfl⟩
   .rw[QS]at h;exact kC x t j u _ _ _ _ h
   .rw[QI]at h;exact wpAny_eqBool_str h
 «strs»:=λk x t v h=>by
  rcases rP h with⟨i,u,rfl,e⟩|⟨y,u,rfl,e⟩
  .exact nomatch e
  .injection e with e1 _
   subst e1;cases v<;>rfl
def Fs(prog:Pg)(w:Wo)(i:Int)(t:Tok):(qZ prog w).is (.inl i) (.int i t)=true:=I0 i t
def zT(prog:Pg)(w:Wo)(x:Str)(t:Tok):(qZ prog w).is (.inr x) (.str x t)=true:=Jw x t
inductive V where
 | mC|bl (b:Bool)|int (i:Int)|str (x:Str)|byt (b:Array UInt8)|flt (b:UInt64)|ref (a:Addr)|ty (n:String)
 deriving DecidableEq
def qp:V->Vl->Prop
 | .mC,u=>u=Value.none
 | .bl b,u=>u=Value.bool b
 | .int i,u=>∃t,u=Value.int i t
 | .str x,u=>∃t,u=Value.str x t
 | .byt b,u=>∃t,u=Value.bytes b t
 | .flt b,u=>∃t,u=Value.float b t
 | .ref a,u=>u=Value.ref a
 | .ty n,u=>u=Value.type n
abbrev qh:List V->List Vl->Prop:=Paired qp
def qh.length{xs:List V}{us:List Vl}(r:qh xs us):xs.length=us.length:=jf r
theorem qh.get:∀{xs:List V} {us:List Vl} {i:Nat} {x:V},qh xs us->xs[i]?=some x->∃u,us[i]?=some u/\qp x u
 | _,_,_,_,.nil,e=>by simp at e
 | _,_,0,_,.cons r _,e=>by simp at e;subst e;exact⟨_,rfl,r⟩
 | _,_,i+1,x,.cons _ t,e=>by obtain⟨u,h1,h2⟩:=qh.get (i:=i) (x:=x) t (by simpa using e);exact⟨u,by simpa using h1,h2⟩
theorem qh.set{x:V}{u:Vl}(r:qp x u):∀{xs:List V} {us:List Vl} (i:Nat),qh xs us->qh (xs.set i x) (us.set i u)
 | _,_,_,.nil=>.nil
 | _,_,0,.cons _ t=>.cons r t
 | _,_,i+1,.cons q t=>.cons q (qh.set r i t)
theorem qh.append:∀{xs ys:List V} {us ws:List Vl},qh xs us->qh ys ws->qh (xs++ys) (us++ws)
 | _,_,_,_,.nil,s=>s
 | _,_,_,_,.cons r t,s=>.cons r (qh.append t s)
theorem qh.take:∀{xs:List V} {us:List Vl} (n:Nat),qh xs us->qh (xs.take n) (us.take n)
 | _,_,0,_=>.nil
 | _,_,_+1,.nil=>.nil
 | _,_,n+1,.cons r t=>.cons r (qh.take n t)
theorem qh.drop:∀{xs:List V} {us:List Vl} (n:Nat),qh xs us->qh (xs.drop n) (us.drop n)
 | _,_,0,r=>r
 | _,_,_+1,.nil=>.nil
 | _,_,n+1,.cons _ t=>qh.drop n t
def xQ:Option V->Option Vl->Prop
 | some v,some u=>qp v u
 | none,none=>True
 | _,_=>False
def KV{κ:Type}:List (κ×V)->List (κ×Vl)->Prop:=Paired λ(p:κ×V) (q:κ×Vl)=>p.1=q.1/\qp p.2 q.2
def kV:qK->V
 | .inl i=>.int i
 | .inr x=>.str x
inductive HO where
 | lst (xs:List V)
 | tup (xs:List V)
 | dK (kvs:List (qK×V))|dT (kvs:List (List qK×V))
 | set (S:Int->Bool) (n:Nat)
 | ins (C dx:Addr) (fs:List (Str×V))
 | own (x:Addr)
 | xd (fs:List (Str×V))
 | met (f x:Addr)
 | rng (lo hi:Int)
 | frz (o:Obj) (u:HO)
 | tbl (ps:Array Vl)
 | ext (φ:Heap->Prop)
abbrev Hp:=Addr->Option HO
def upd(H:Hp)(a:Addr)(o:HO):Hp:=λb=>if b=a then some o else H b
def pM{H:Hp}{a:Addr}{o:HO}:upd H a o a=some o:=by unfold upd;rw[cY rfl]
def pF{H:Hp}{a b:Addr}{o:HO}(h:b≠a):upd H a o b=H b:=by unfold upd;rw[cW h]
def Os{H:Hp}{a:Addr}{o u:HO}:upd (upd H a o) a u=upd H a u:=by funext b;unfold upd;split<;>rfl
def Sr{H:Hp}{a b:Addr}{o u:HO}(h:H a=some o)(h':H b=some u)(d:o≠u):a≠b:=by intro e;subst e;rw[h]at h';exact d (df h')
def qz{H:Hp}{a b:Addr}{o:HO}(h:H a=some o)(h':H b=none):a≠b:=by intro e;subst e;rw[h]at h';cases h'
section
variable (P:Pg)(w:Wo)
def DR(h:Heap)(a:Addr)(its:Array Vl):Prop:=∃o,h.get? a=some o/\o.cls=.type "tuple"/\(∃n,o.data=.seq its n)/\o.dict=none
def rK(H:Hp)(h:Heap)(a:Addr):HO->Prop
 | .lst xs=>xs.length<=sizeLine/\∃(its:List Vl) (n:Nat),qh xs its/\h.get? a=some {cls:=.type "list",data:=.seq its.toArray n}
 | .tup xs=>xs.length<=sizeLine/\∃its:List Vl,qh xs its/\DR h a its.toArray
 | .dK kvs=>kvs.length<=sizeLine/\(a==sysModules)=false/\∃vs,KV kvs vs/\h.DictOf (qZ P w) a vs
 | .dT kvs=>kvs.length<=sizeLine/\(a==sysModules)=false/\∃xs:List (List qK×Addr×Vl),Paired (λ(p:List qK×V) (q:List qK×Addr×Vl)=>p.1=q.1/\H q.2.1=some (.tup (p.1.map kV))/\qp p.2 q.2.2) kvs xs/\
   ∃o es ep,h.get? a=some o/\o.ExactDict/\o.data=.dict es ep/\es.toList=xs.map (entryOfKey (tupleKind (qZ P w)))/\(xs.map (·.1)).Nodup
 | .set S n=>h.SetOf (intKind P w) a S n
 | .ins C dx fs=>H dx=some (.own a)/\fs.length<=1000/\dx≠a/\h.get? a=some (W.instObj C dx)/\
   ∃mA,h.Ns1 dx mA/\(∀f,xQ (fs.lookup f) (mA f))/\PySem.Within mA (fs.map (·.1))
 | .own _=>∃o,h.get? a=some o
 | .xd fs=>∃mA,h.Ns1 a mA/\∀f,xQ (fs.lookup f) (mA f)
 | .rng lo hi=>∃t u v,h.get? a=some {cls:=.type "range",data:=.fields #[.int lo t,.int hi u,.int 1 v]}
 | .frz o u=>h.get? a=some o/\rK H h a u
 | .tbl ps=>h.get? a=some {cls:=.none,data:=.fields ps}
 | .met f x=>h.get? a=some (W.methodObj (.ref f) (.ref x))
 | .ext φ=>φ h/\(∃o,h.get? a=some o)/\∀h1 h2:Heap,φ h1->(∀o,h1.get? a=some o->h2.get? a=some o)->φ h2
def xN(H:Hp)(h:Heap):Prop:=∀a o,H a=some o->rK P w H h a o
end
variable {H H':Hp}{h h':Heap}
section
variable {P:Pg}{w:Wo}{a:Addr}{o:HO}
def DR.is{its:Array Vl}(x:DR h a its):IsTup h a its:=let⟨o,e,c,d,_⟩:=x;⟨o,e,c,d⟩
def DR.new(h:Heap)(VM:Array Vl):DR (h.push {cls:=.type "tuple",data:=.seq VM}) h.objs.size VM:=⟨_,dF _ rfl,rfl,⟨_,rfl⟩,rfl⟩
def rK.lt(x:rK P w H h a o):a<h.objs.size:=by
 cases o with
 | lst xs=>obtain⟨_,_,_,_,e⟩:=x;exact dv e
 | tup xs=>obtain⟨_,_,_,_,e,_⟩:=x;exact dv e
 | dK kvs=>obtain⟨_,_,_,_,o,_,_,e,_⟩:=x;exact dv e
 | dT kvs=>obtain⟨_,_,_,_,o,_,_,e,_⟩:=x;exact dv e
 | set S n=>obtain⟨o,_,_,_,e,_⟩:=x;exact dv e
 | ins C dx fs=>obtain⟨_,_,_,e,_⟩:=x;exact dv e
 | own y=>obtain⟨_,e⟩:=x;exact dv e
 | xd fs=>obtain⟨_,⟨_,_,_,e,_⟩,_⟩:=x;exact dv e
 | rng lo hi=>obtain⟨_,_,_,e⟩:=x;exact dv e
 | frz ob u=>obtain⟨e,_⟩:=x;exact dv e
 | tbl ps=>exact dv (show h.get? a=some _ from x)
 | met f y=>exact dv (show h.get? a=some _ from x)
 | ext φ=>obtain⟨_,⟨_,e⟩,_⟩:=x;exact dv e
theorem Paired.nY{α β:Type}{F G:α->β->Prop}:∀{l₁:List α} {l₂:List β},Paired F l₁ l₂->(∀a b,F a b->G a b)->Paired G l₁ l₂
 | _,_,.nil,_=>.nil
 | _,_,.cons r t,f=>.cons (f _ _ r) (Paired.nY t f)
def rK.mV(x:rK P w H h a o)(k:∀b u,(b=a\/H b=some (.own a))->h.get? b=some u->h'.get? b=some u) (ho:∀b,H b=some (.own a)->H' b=some (.own a)) (ht:∀b xs,H b=some (.tup xs)->H' b=some (.tup xs)):rK P w H' h' a o:=by
 induction o with
 | lst xs=>obtain⟨z,its,n,r,e⟩:=x;exact⟨z,its,n,r,k _ _ (.inl rfl) e⟩
 | tup xs=>obtain⟨z,its,r,ob,e,c⟩:=x;exact⟨z,its,r,ob,k _ _ (.inl rfl) e,c⟩
 | dK kvs=>obtain⟨z,y,vs,r,ob,es,ep,e,c⟩:=x;exact⟨z,y,vs,r,ob,es,ep,k _ _ (.inl rfl) e,c⟩
 | dT kvs=>obtain⟨z,y,xs,r,ob,es,ep,e,c⟩:=x;exact⟨z,y,xs,Paired.nY r λp q z=>⟨z.1,ht _ _ z.2.1,z.2.2⟩,ob,es,ep,k _ _ (.inl rfl) e,c⟩
 | set S n=>obtain⟨ob,es,ep,t,e,c⟩:=x;exact⟨ob,es,ep,t,k _ _ (.inl rfl) e,c⟩
 | ins C dx fs=>obtain⟨d,z,ne,e,mA,⟨od,es,ep,e2,c⟩,r⟩:=x;exact⟨ho _ d,z,ne,k _ _ (.inl rfl) e,mA,⟨od,es,ep,k _ _ (.inr d) e2,c⟩,r⟩
 | own y=>obtain⟨ob,e⟩:=x;exact⟨ob,k _ _ (.inl rfl) e⟩
 | xd fs=>obtain⟨mA,⟨od,es,ep,e,c⟩,r⟩:=x;exact⟨mA,⟨od,es,ep,k _ _ (.inl rfl) e,c⟩,r⟩
 | rng lo hi=>obtain⟨t,u,v,e⟩:=x;exact⟨t,u,v,k _ _ (.inl rfl) e⟩
 | frz ob u ih=>obtain⟨e,q⟩:=x;exact⟨k _ _ (.inl rfl) e,ih q⟩
 | tbl ps=>have e:h.get? a=some {cls:=.none,data:=.fields ps}:=x;show h'.get? a=some {cls:=.none,data:=.fields ps};exact k a _ (.inl rfl) e
 | met f y=>have e:h.get? a=some (W.methodObj (.ref f) (.ref y)):=x;show h'.get? a=some (W.methodObj (.ref f) (.ref y));exact k a _ (.inl rfl) e
 | ext φ=>obtain⟨p,⟨o,e⟩,st⟩:=x;exact⟨st _ _ p λo q=>k _ _ (.inl rfl) q,⟨o,k _ _ (.inl rfl) e⟩,st⟩
def xN.lt(x:xN P w H h)(e:H a=some o):a<h.objs.size:=(x a o e).lt
def xN.fresh(x:xN P w H h)(e:h.objs.size<=a):H a=none:=by
 cases q:H a with
 | none=>rfl
 | some u=>exact absurd (dI (x.lt q) e) (eY _)
def xN.kept(x:xN P w H h)(k:∀b u,h.get? b=some u->h'.get? b=some u):xN P w H h':=λa o e=>(x a o e).mV (λb u _ q=>k b u q) (λ_ q=>q) λ_ _ q=>q
def xN.laid(x:xN P w H h)(k:∀b u,h.get? b=some u->h'.get? b=some u)(hp:h.objs.size<=a)(new:rK P w (upd H a o) h' a o):xN P w (upd H a o) h':=λb u e=>by
 have hn:=x.fresh hp;by_cases hb:b=a
 .subst hb;rw[pM]at e;cases e;exact new
 .rw[pF hb]at e;exact(x b u e).mV (λc v _ q=>k c v q) (λc q=>by rw[pF (qz q hn)];exact q) λc xs q=>by rw[pF (qz q hn)];exact q
end
def Rd(H:Hp)(a:Addr)(u:HO):Prop:=H a=some u\/∃o,H a=some (.frz o u)
def Rd.ok{P:Pg}{w:Wo}{H:Hp}{h:Heap}{a:Addr}{u:HO}(r:Rd H a u)(x:xN P w H h):rK P w H h a u:=by
 rcases r with r|⟨o,r⟩
 .exact x a u r
 .obtain⟨_,q⟩:=x a _ r;exact q
def SN:Option HO->Prop
 | some (.lst _)=>True
 | some (.dK _)=>True
 | some (.dT _)=>True
 | some (.set _ _)=>True
 | some (.ins _ _ _)=>True
 | some (.ext _)=>True
 | _=>False
variable {o':HO}
section
variable {P:Pg}{w:Wo}{x e:Addr}
def xN.write(ok:xN P w H h)(mu:SN (H x))(he:e=x\/H e=some (.own x))(k:∀b u,b≠e->h.get? b=some u->h'.get? b=some u)(heo:∃u,h'.get? e=some u) (new:rK P w (upd H x o') h' x o'):xN P w (upd H x o') h':=λb u q=>by
 have nown:∀c y,H c=some (.own y)->c≠x:=λc y r z=>by subst z;rw[r]at mu;exact mu
 have ntup:∀c xs,H c=some (.tup xs)->c≠x:=λc xs r z=>by subst z;rw[r]at mu;exact mu
 by_cases hb:b=x
 .subst hb;rw[pM]at q;cases q;exact new
 .rw[pF hb]at q;by_cases hbe:b=e
  .have q':H b=some (.own x):=by
    rcases he with z|z
    .exact absurd (hbe.trans z) hb
    .rw[hbe];exact z
   rw[q]at q';cases q';obtain⟨v,hv⟩:=heo;exact⟨v,by rw[hbe];exact hv⟩
  .refine(ok b u q).mV (λc v hc r=>k c v ?_ r) (λc r=>by rw[pF (nown c b r)];exact r) λc xs r=>by rw[pF (ntup c xs r)];exact r
   rcases hc with rfl|hc
   .exact hbe
   .rintro rfl
    rcases he with z|z
    .exact nown c b hc z
    .rw[hc]at z;cases z;exact hb rfl
end
structure Un(fs ex:List Addr)(H H':Hp)(h h':Heap):Prop where
 keep:∀b o,h.get? b=some o->H b=none->b∉fs->b∉ex->h'.get? b=some o
 slot:∀b o,h.get? b=some o->H b=none->b∈fs->b∉ex->∃sl,h'.get? b=some {o with slots:=sl}
 free:∀b o,h.get? b=some o->H b=none->b∉ex->H' b=none
 there:∀b o,h.get? b=some o->b∉ex->∃o',h'.get? b=some o'
 m7:∀b xs,H b=some (.tup xs)->H' b=some (.tup xs)
 mX:∀b o u,H b=some (.frz o u)->H' b=some (.frz o u)
 nj:∀b ps,H b=some (.tbl ps)->∃more,H' b=some (.tbl (ps++more))
variable {ex ex':List Addr}{H1 H2:Hp}{h1 h2:Heap}
section
variable {fs fs':List Addr}{a x e:Addr}{o:HO}
def Un.any(u:Un fs ex H H1 h h1){b:Addr}{ob:Obj}(q:h.get? b=some ob)(n:H b=none)(hx:b∉ex):∃sl,h1.get? b=some {ob with slots:=sl}:=by
 by_cases hb:b∈fs
 .exact u.slot b ob q n hb hx
 .exact⟨ob.slots,u.keep b ob q n hb hx⟩
def Un.trans(a:Un fs ex H H1 h h1)(b:Un fs ex H1 H2 h1 h2):Un fs ex H H2 h h2 where
 keep:=λc ob q n hc hx=>b.keep c ob (a.keep c ob q n hc hx) (a.free c ob q n hx) hc hx
 slot:=λc ob q n hc hx=>by obtain⟨sl,e1⟩:=a.slot c ob q n hc hx;obtain⟨Xh,e2⟩:=b.slot c _ e1 (a.free c ob q n hx) hc hx;exact⟨Xh,e2⟩
 free:=λc ob q n hx=>by obtain⟨o',e1⟩:=a.there c ob q hx;exact b.free c o' e1 (a.free c ob q n hx) hx
 there:=λc ob q hx=>by obtain⟨o',e1⟩:=a.there c ob q hx;exact b.there c o' e1 hx
 m7:=λc xs q=>b.m7 c xs (a.m7 c xs q)
 mX:=λc ob xs q=>b.mX c ob xs (a.mX c ob xs q)
 nj:=λc ps q=>by obtain⟨m1,e1⟩:=a.nj c ps q;obtain⟨m2,e2⟩:=b.nj c _ e1;exact⟨m1++m2,by rw[e2,kD]⟩
def Un.kept(k:∀b u,h.get? b=some u->h'.get? b=some u):Un fs ex H H h h':=
 ⟨λb ob q _ _ _=>k b ob q,λb ob q _ _ _=>⟨ob.slots,k b ob q⟩,λ_ _ _ n _=>n,λb ob q _=>⟨ob,k b ob q⟩,λ_ _ q=>q,λ_ _ _ q=>q,λ_ ps q=>⟨#[],by rw[q];simp⟩⟩
def Un.refl:Un fs ex H H h h:=Un.kept λ_ _ q=>q
def Un.laid(k:∀b u,h.get? b=some u->h'.get? b=some u)(hp:h.objs.size<=a)(hn:H a=none):Un fs ex H (upd H a o) h h' where
 keep:=λb u q _ _ _=>k b u q
 slot:=λb u q _ _ _=>⟨u.slots,k b u q⟩
 free:=λb u q n _=>by rw[pF (dG (dI (dv q) hp))];exact n
 there:=λb u q _=>⟨u,k b u q⟩
 m7:=λb xs q=>by rw[pF (qz q hn)];exact q
 mX:=λb u xs q=>by rw[pF (qz q hn)];exact q
 nj:=λb ps q=>⟨#[],by rw[pF (qz q hn),q];simp⟩
def Un.write(mu:SN (H x))(he:e=x\/H e=some (.own x))(k:∀b u,b≠e->h.get? b=some u->h'.get? b=some u)(heo:∃u,h'.get? e=some u):Un fs ex H (upd H x o) h h':=by
 have hx:∀b,H b=none->b≠x:=λb n z=>by subst z;rw[n]at mu;exact mu
 have hb:∀b,H b=none->b≠e:=λb n z=>by
  subst z;rcases he with r|r
  .exact hx b n r
  .rw[n]at r;cases r
 have hm:∀b u,H b=some u->¬SN (some u)->b≠x:=λb u q nm z=>by subst z;rw[q]at mu;exact nm mu
 refine⟨λb u q n _ _=>k b u (hb b n) q,λb u q n _ _=>⟨u.slots,k b u (hb b n) q⟩,λb u q n _=>by rw[pF (hx b n)];exact n,λb u q _=>?_,λb xs q=>by rw[pF (hm b _ q λz=>z)];exact q,λb u xs q=>by rw[pF (hm b _ q λz=>z)];exact q,λb ps q=>⟨#[],by rw[pF (hm b _ q λz=>z),q];simp⟩⟩
 by_cases hbe:b=e
 .subst hbe;exact heo
 .exact⟨u,k b u hbe q⟩
end
def TV(h:Heap)(H:Hp):List Addr:=(List.range h.objs.size).filter λa=>(H a).isSome
def DH(h:Heap)(H:Hp):Heap:=W.hideAll h (TV h H)
def JB(h:Heap)(H:Hp):(DH h H).objs.size=h.objs.size:=W.hideAll_size _ _
def Kk{h:Heap}{H:Hp}{b:Addr}{o:Obj}(e:h.get? b=some o)(n:H b=none):(DH h H).get? b=some o:=
 W.hideAll_get _ e λhm=>by have q:(H b).isSome=true:=(fz.mp hm).2;rw[n]at q;simp at q
def OJ{h:Heap}{H:Hp}{b:Addr}{o:Obj}(e:(DH h H).get? b=some o):h.get? b=some o/\H b=none:=by
 have e':h.get? b=some o:=W.of_hideAll (TV h H) e;refine⟨e',?_⟩;cases q:H b with
 | none=>rfl
 | some x=>have hm:b∈TV h H:=fz.mpr ⟨gu.mpr (dv e'),by simp[q]⟩;have z:(DH h H).get? b=none:=W.hideAll_none (TV h H) hm;rw[z]at e;cases e
structure Mod(K:pU)(mg:Str->Option Vl)(base:Heap):Prop where
 oh:K.In base
 glob:base.Ns mainGlobals mg
 blt:∃mb,base.Ns builtinsNs mb/\∀x:Str,x≠"__name__"->mb x=bootBuiltins x
 nolimit:base.NoLimit
structure Cx where
 prog:Pg
 w:Wo
 K:pU
 mg:Str->Option Vl
 base:Heap
 A:Ar
 N:List Str
 s₀:Sd
 H₀:Hp
 env:Env
 outer:List Env
 stack:List Env
 ex:List Addr
 fn:Str->Bool
 calm:Bool
 pn:List (Addr×Obj)
 xe:Vl->Sd->Prop
abbrev Az(X:Cx)(e:Expr)(es:List Expr):Prop:=starEach (e::es) X.env=(false,eval e X.env)::starEach es X.env
abbrev B0(X:Cx)(p:Pos)(es:List Expr):Prop:=(backTo p (starEach es X.env)).any (·.1)=false
abbrev yb(x:Str):Prop:=(x==("__debug__":Str))=false
abbrev JW(X:Cx)(x:Str):Prop:=X.fn x=true\/X.env.scope.names.lookup x=some .local
def vC(l:List Env):List Addr:=l.filterMap (·.frame)
abbrev Cx.fs(X:Cx):List Addr:=vC X.outer
def Qk(sc:Scope)(x:Str):Prop:=sc.names.lookup x=some .local\/sc.names.lookup x=some .cell\/sc.names.lookup x=some .free
def JV(sc:Scope)(x:Str):Prop:=sc.names.lookup x=some .local\/sc.names.lookup x=some .cell
def Tv(env:Env)(h:Heap)(m:Str->Option Vl)(x:Str)(u:Vl):Prop:=
 (env.kindOf x=some .local/\m x=some u)\/((env.kindOf x=some .cell\/env.kindOf x=some .free)/\∃c,env.cells.lookup x=some c/\h.IsCell c (some u))
structure Cx.Ok(X:Cx):Prop where
 mod:Mod X.K X.mg X.base
 kind:X.env.scope.kind=.function
 glob:X.env.globals=mainGlobals
 blt:X.env.builtins=builtinsNs
 above:X.s₀.heap.objs.size<=X.env.locals
 inj:∀x y c,X.env.cells.lookup x=some c->X.env.cells.lookup y=some c->x=y
 has:∀x,(X.env.kindOf x=some .cell\/X.env.kindOf x=some .free)->∃c,X.env.cells.lookup x=some c
 oj:∀x c,X.fn x=true->X.env.cells.lookup x=some c->X.s₀.heap.objs.size<=c
 hd:X.calm=true->X.A.handled=none
 frames:X.A.frames=some X.stack
 om:X.stack=X.outer\/(X.stack=X.env::X.outer/\X.env.frame=some X.env.locals)
 oG:∀b∈X.ex,b≠X.env.locals/\∀x c,X.env.cells.lookup x=some c->c≠b
 bs:∀b o,X.base.get? b=some o->X.s₀.heap.get? b=some o/\X.H₀ b=none
 nN:X.base.objs.size<=X.s₀.heap.objs.size
 nF:∀b o,X.base.get? b=some o->b∉X.ex
 nJ:∀b∈X.ex,b∉X.fs
 mZ:X.s₀.heap.FunFrames X.base X.outer
 nS:∀b∈X.fs,X.H₀ b=none
structure Inv(X:Cx)(VL:List (Addr×Obj))(σ:List (Option V))(H:Hp)(s:Sd):Prop where
 ok:X.Ok
 os:s.os=X.s₀.os
 bare:AllBare s.gens
 base:Un X.fs X.ex X.H₀ H X.s₀.heap s.heap
 loc:∃m,s.heap.Ns X.env.locals m/\∀(i:Nat) (x:Str) (v:V),X.N[i]?=some x->σ[i]?=some (some v)->Qk X.env.scope x->∃u,qp v u/\Tv X.env s.heap m x u
 cell:∀x c,X.env.cells.lookup x=some c->∃v,s.heap.IsCell c v
 free:H X.env.locals=none
 mM:∀x c,X.env.cells.lookup x=some c->H c=none
 pin:∀p∈X.pn++VL,s.heap.get? p.1=some p.2/\H p.1=none/\p.1≠X.env.locals/\p.1∉X.fs/\∀v,p.2.data≠.cell v
 mG:xN X.prog X.w H s.heap
 len:σ.length=X.N.length
variable {X:Cx}{VL:List (Addr × Obj)}{s:Sd}
section
variable {σ:List (Option V)}
def Cx.Ok.nofr(ok:X.Ok){b:Addr}{o:Obj}(e:X.base.get? b=some o):b∉X.fs:=λhb=>by have:=(ok.mZ.mem hb).1;rw[e]at this;cases this
def Inv.bs(I:Inv X VL σ H s):∀b o,X.base.get? b=some o->s.heap.get? b=some o/\H b=none:=λb o e=>⟨I.base.keep b o (I.ok.bs b o e).1 (I.ok.bs b o e).2 (I.ok.nofr e) (I.ok.nF b o e),I.base.free b o (I.ok.bs b o e).1 (I.ok.bs b o e).2 (I.ok.nF b o e)⟩
def Inv.bk(I:Inv X VL σ H s):∀b o,X.base.get? b=some o->s.heap.get? b=some o:=λb o e=>(I.bs b o e).1
def Inv.mod(I:Inv X VL σ H s):Mod X.K X.mg X.base:=I.ok.mod
def Inv.mR(I:Inv X VL σ H s):X.K.In s.heap:=I.ok.mod.oh.keeps I.bk
def Inv.lt(I:Inv X VL σ H s):X.env.locals<s.heap.objs.size:=let⟨_,hn,_⟩:=I.loc;hn.lt
def Inv.sz(I:Inv X VL σ H s):X.s₀.heap.objs.size<=s.heap.objs.size:=dX I.ok.above (kE I.lt)
def Inv.oB(I:Inv X VL σ H s){a:Addr}(h:s.heap.objs.size<=a):a∉X.fs:=λhb=>by obtain⟨_,o,ho,_⟩:=I.ok.mZ.mem hb;exact absurd (dI (dv ho) (dX I.sz h)) (eY _)
def Inv.oH(I:Inv X VL σ H s):∀x c,X.env.cells.lookup x=some c->c≠X.env.locals:=λx c e z=>by obtain⟨v,o,ho,hd⟩:=I.cell x c e;obtain⟨m,⟨o',es,ep,Wu,hd',_⟩,_⟩:=I.loc;rw[z,Wu]at ho;cases ho;rw[hd']at hd;cases hd
def Inv.mZ(I:Inv X VL σ H s):s.heap.FunFrames X.base X.outer:=by
 have all:∀(l:List Env),(∀b∈vC l,b∈X.fs)->X.s₀.heap.FunFrames X.base l->s.heap.FunFrames X.base l:=by
  intro l;induction l with
  | nil=>intro _ _;trivial
  | cons env r ih=>intro hs hl;obtain⟨hk,⟨L,o,hf,hn,ho,hd⟩,hr⟩:=hl;have hL:L∈X.fs:=hs L (by unfold vC;rw[fY,hf];exact dO);obtain⟨sl,e⟩:=I.base.slot L o ho (I.ok.nS L hL) hL λz=>I.ok.nJ L z hL;exact⟨hk,⟨L,_,hf,hn,e,hd⟩,ih (λb hb=>hs b (by unfold vC;rw[fY,hf];exact dC _ hb)) hr⟩
 exact all X.outer (λ_ hb=>hb) I.ok.mZ
def Inv.stack(I:Inv X VL σ H s):s.heap.FunFrames X.base X.stack:=by
 rcases I.ok.om with e|⟨e,hf⟩
 .rw[e];exact I.mZ
 .rw[e];obtain⟨m,hn,_⟩:=I.loc;refine .cons (by rw[I.ok.kind];decide) hf hn ?_ I.mZ;exact gJ (dX I.ok.nN I.ok.above)
def Inv.ng(I:Inv X VL σ H s):∀b∈vC X.stack,b∈X.env.locals::X.fs:=λb hb=>by
 rcases I.ok.om with e|⟨e,hf⟩
 .rw[e]at hb;exact dC _ hb
 .rw[e]at hb;unfold vC at hb;rw[fY,hf]at hb;exact hb
def Inv.nq(I:Inv X VL σ H s):∀b∈vC X.stack,H b=none:=λb hb=>by
 rcases c9.mp (I.ng b hb)with e|hb
 .rw[e];exact I.free
 .obtain⟨_,o,ho,_⟩:=I.ok.mZ.mem hb;exact I.base.free b o ho (I.ok.nS b hb) λz=>I.ok.nJ b z hb
def Inv.step{g':Array GenState}{t':Nat}{d':Drawn}{ch:List Addr}(I:Inv X VL σ H s) (WM:∀b∈ch,(b∈X.ex\/X.s₀.heap.objs.size<=b)/\b≠X.env.locals/\(∀x c,X.env.cells.lookup x=some c->c≠b)/\∀p∈X.pn++VL,p.1≠b) (keep:∀b o,b≠X.env.locals->b∉X.fs->b∉ch->s.heap.get? b=some o->H b=none->h'.get? b=some o) (slot:∀b o,b≠X.env.locals->b∈X.fs->b∉ch->s.heap.get? b=some o->H b=none->∃sl,h'.get? b=some {o with slots:=sl}) (free:∀b o,b∉ch->s.heap.get? b=some o->H b=none->H' b=none)
  (there:∀b o,b∉ch->s.heap.get? b=some o->∃o',h'.get? b=some o')
  (m7:∀b xs,H b=some (.tup xs)->H' b=some (.tup xs)) (mX:∀b o u,H b=some (.frz o u)->H' b=some (.frz o u)) (nj:∀b ps,H b=some (.tbl ps)->∃more,H' b=some (.tbl (ps++more)))
  (ns:∀m,s.heap.Ns X.env.locals m->h'.Ns X.env.locals m) (mG:xN X.prog X.w H' h') (hg:AllBare g'):
  Inv X VL σ H' {s with heap:=h',gens:=g',drawn:=d',toks:=t'}:=by
 have neL:∀b o,X.s₀.heap.get? b=some o->b≠X.env.locals:=λb o e=>dG (dI (dv e) I.ok.above);have neC:∀b o,X.s₀.heap.get? b=some o->b∉X.ex->b∉ch:=λb o e hx hb=>by
  rcases(WM b hb).1 with z|z
  .exact hx z
  .exact absurd (dI (dv e) z) (eY _)
 have Yk:∀x c,X.env.cells.lookup x=some c->∀v,s.heap.IsCell c v->h'.IsCell c v:=λx c e v ⟨o,ho,hd⟩=>by
  have nch:c∉ch:=λz=>(WM c z).2.2.1 x c e rfl;by_cases hc:c∈X.fs
  .obtain⟨sl,q⟩:=slot c o (I.oH x c e) hc nch ho (I.mM x c e);exact⟨_,q,hd⟩
  .exact⟨o,keep c o (I.oH x c e) hc nch ho (I.mM x c e),hd⟩
 refine⟨I.ok,I.os,hg,⟨λb o e n hb hx=>?_,λb o e n hb hx=>?_,λb o e n hx=>?_,λb o e hx=>?_,λb xs e=>m7 b xs (I.base.m7 b xs e),λb o xs e=>mX b o xs (I.base.mX b o xs e),λb ps e=>?_⟩,?_,λx c e=>?_,?_,λx c e=>?_,λp hp=>?_,mG,I.len⟩
 .exact keep b o (neL b o e) hb (neC b o e hx) (I.base.keep b o e n hb hx) (I.base.free b o e n hx)
 .obtain⟨sl,e1⟩:=I.base.slot b o e n hb hx;obtain⟨Xh,e2⟩:=slot b _ (neL b o e) hb (neC b o e hx) e1 (I.base.free b o e n hx);exact⟨Xh,e2⟩
 .obtain⟨o',e1⟩:=I.base.there b o e hx;exact free b o' (neC b o e hx) e1 (I.base.free b o e n hx)
 .obtain⟨o',e1⟩:=I.base.there b o e hx;exact there b o' (neC b o e hx) e1
 .obtain⟨m1,e1⟩:=I.base.nj b ps e;obtain⟨m2,e2⟩:=nj b _ e1;exact⟨m1++m2,by rw[e2,kD]⟩
 .obtain⟨m,hn,hl⟩:=I.loc;refine⟨m,ns m hn,λi x v e1 e2 e3=>?_⟩;obtain⟨u,r,l⟩:=hl i x v e1 e2 e3;refine⟨u,r,?_⟩;rcases l with l|⟨k,c,e,z⟩
  .exact .inl l
  .exact .inr ⟨k,c,e,Yk x c e _ z⟩
 .obtain⟨v,z⟩:=I.cell x c e;exact⟨v,Yk x c e v z⟩
 .obtain⟨m,⟨o,_,_,ho,_⟩,_⟩:=I.loc;exact free _ o (λz=>(WM _ z).2.1 rfl) ho I.free
 .obtain⟨v,o,ho,hd⟩:=I.cell x c e;exact free c o (λz=>(WM c z).2.2.1 x c e rfl) ho (I.mM x c e)
 .obtain⟨e,n,ne,nf,d⟩:=I.pin p hp;have nch:p.1∉ch:=λz=>(WM p.1 z).2.2.2 p hp rfl;exact⟨keep p.1 p.2 ne nf nch e n,free p.1 p.2 nch e n,ne,nf,d⟩
def Inv.un{t':Nat}(I:Inv X VL σ H s)(u:Un X.fs [] H H' s.heap h')(mG:xN X.prog X.w H' h'):Inv X VL σ H' {s with heap:=h',toks:=t'}:=by
 obtain⟨m,⟨o,es,ep,ho,r⟩,_⟩:=id I.loc;obtain⟨sl,hL⟩:=u.any ho I.free (by simp);exact I.step (g':=s.gens) (d':=s.drawn) (ch:=[]) (λ_ z=>nomatch z) (λb o _ hb _ e n=>u.keep b o e n hb (by simp)) (λb o _ hb _ e n=>u.slot b o e n hb (by simp)) (λb o _ e n=>u.free b o e n (by simp)) (λb o _ e=>u.there b o e (by simp)) u.m7 u.mX u.nj (λm' hm=>by
  obtain⟨o',es',ep',Wu,r'⟩:=hm;rw[ho]at Wu;cases Wu;exact⟨_,es',ep',hL,r'⟩) mG I.bare
def Inv.call{g':Array GenState}{t':Nat}{d':Drawn}{ch:List Addr}(I:Inv X VL σ H s)(u:Un (vC X.stack) ch H H' s.heap h')(mG:xN X.prog X.w H' h')(hg:AllBare g') (WM:∀b∈ch,(b∈X.ex\/X.s₀.heap.objs.size<=b)/\b≠X.env.locals/\(∀x c,X.env.cells.lookup x=some c->c≠b)/\∀p∈X.pn++VL,p.1≠b):
  Inv X VL σ H' {s with heap:=h',gens:=g',drawn:=d',toks:=t'}:=by
 obtain⟨m,⟨o,es,ep,ho,r⟩,_⟩:=id I.loc;obtain⟨sl,hL⟩:=u.any ho I.free λz=>(WM _ z).2.1 rfl;exact I.step (ch:=ch) WM (λb o hL hb hc e n=>u.keep b o e n (λz=>(c9.mp (I.ng b z)).elim hL hb) hc) (λb o _ _ hc e n=>u.any e n hc) (λb o hc e n=>u.free b o e n hc) (λb o hc e=>u.there b o e hc) u.m7 u.mX u.nj (λm' hm=>by
  obtain⟨o',es',ep',Wu,r'⟩:=hm;rw[ho]at Wu;cases Wu;exact⟨_,es',ep',hL,r'⟩) mG hg
def Inv.turned{t':Nat}{it:Addr}(I:Inv X VL σ H s)(k:∀b o,b≠it->s.heap.get? b=some o->h'.get? b=some o)(hn:H it=none)(hL:it≠X.env.locals) (h1:it∈X.ex\/X.s₀.heap.objs.size<=it) (h2:∀x c,X.env.cells.lookup x=some c->c≠it) (h3:∀p∈X.pn++VL,p.1≠it):Inv X VL σ H {s with heap:=h',toks:=t'}:=by
 have nit:∀b u,H b=some u->b≠it:=λb u e z=>by rw[z,hn]at e;cases e
 refine I.step (g':=s.gens) (d':=s.drawn) (ch:=[it]) (λb hb=>?_) (λb o _ _ hc e _=>k b o (λz=>hc (by simp[z])) e) (λb o _ _ hc e _=>⟨o.slots,k b o (λz=>hc (by simp[z])) e⟩) (λ_ _ _ _ n=>n)
  (λb o hc e=>⟨o,k b o (λz=>hc (by simp[z])) e⟩) (λ_ _ e=>e) (λ_ _ _ e=>e) (λb ps e=>⟨#[],by rw[e];simp⟩) (λm hm=>?_) (λb u e=>?_) I.bare
 .have e:b=it:=by simpa using hb
  subst e;exact⟨h1,hL,h2,h3⟩
 .obtain⟨o,es,ep,ho,r⟩:=hm;exact⟨o,es,ep,k _ o (dM hL) ho,r⟩
 .refine(I.mG b u e).mV (λc v hc q=>k c v ?_ q) (λ_ q=>q) λ_ _ q=>q;rcases hc with z|z
  .rw[z];exact nit b u e
  .exact nit c _ z
def Inv.tok(I:Inv X VL σ H s)(t:Nat):Inv X VL σ H {s with toks:=t}:=I.un (h':=s.heap) (t':=t) Un.refl I.mG
def Inv.kept{t':Nat}(I:Inv X VL σ H s)(k:∀b u,s.heap.get? b=some u->h'.get? b=some u):Inv X VL σ H {s with heap:=h',toks:=t'}:=I.un (Un.kept k) (I.mG.kept k)
def Inv.laid{a:Addr}{o:HO}{t':Nat}(I:Inv X VL σ H s)(k:∀b u,s.heap.get? b=some u->h'.get? b=some u)(hp:s.heap.objs.size<=a)(new:rK X.prog X.w (upd H a o) h' a o):
  Inv X VL σ (upd H a o) {s with heap:=h',toks:=t'}:=I.un (Un.laid k hp (I.mG.fresh hp)) (I.mG.laid k hp new)
def Inv.write{x e:Addr}{o:HO}{t':Nat}(I:Inv X VL σ H s)(mu:SN (H x))(he:e=x\/H e=some (.own x))(k:∀b u,b≠e->s.heap.get? b=some u->h'.get? b=some u)(heo:∃u,h'.get? e=some u) (new:rK X.prog X.w (upd H x o) h' x o):Inv X VL σ (upd H x o) {s with heap:=h',toks:=t'}:=I.un (Un.write mu he k heo) (I.mG.write mu he k heo new)
def Inv.nA{WN:List (Addr×Obj)}(I:Inv X VL σ H s)(h:∀p∈WN,s.heap.get? p.1=some p.2/\H p.1=none/\p.1≠X.env.locals/\p.1∉X.fs/\∀v,p.2.data≠.cell v):Inv X WN σ H s:=
 ⟨I.ok,I.os,I.bare,I.base,I.loc,I.cell,I.free,I.mM,λp hp=>(dU.mp hp).elim (λz=>I.pin p (fj _ z)) (h p),I.mG,I.len⟩
def BZ{N:List Str}(hN:N.Nodup){i j:Nat}{x:Str}(a:N[i]?=some x)(b:N[j]?=some x):i=j:=by obtain⟨h1,e1⟩:=cV.mp a;obtain⟨h2,e2⟩:=cV.mp b;exact(lA hN).mp (e1.trans e2.symm)
def Dg{M:Model}{A:Ar}{E:Vl->Sd->Prop}{i:Nat}{x:Str}{v:V}{u:Vl}{Q:Unit->Sd->Prop}(I:Inv X VL σ H s)(hN:X.N.Nodup)(hi:X.N[i]?=some x)(hx:JV X.env.scope x)(r:qp v u) (h:∀s',Inv X VL (σ.set i (some v)) H s'->(∃a,Heap.SameBut a s.heap s'.heap/\(a=X.env.locals\/X.env.cells.lookup x=some a))->Q () s') (hf:JW X x:=by first|exact .inl rfl|exact .inr rfl|assumption):wpAny M A (storeName X.env x u) Q E s:=by
 obtain⟨m,hn,hl⟩:=id I.loc;have YA:(X.env.scope.kind==.class||(X.env.scope.kind==.module&&X.env.locals != X.env.globals))=false:=by rw[I.ok.kind];rfl
 have hiσ:i<σ.length:=by rw[I.len];exact(cV.mp hi).1
 have oH:=I.oH;have VZ:∀{a:Addr} {h':Heap},(∃o,s.heap.get? a=some o/\H a=none)->Heap.SameBut a s.heap h'->xN X.prog X.w H h':=λ{a h'} ha hs b ob e=>by
  obtain⟨_,_,WA⟩:=ha;refine(I.mG b ob e).mV (λc w' hc q=>(hs.2 c ?_).trans q) (λ_ q=>q) λ_ _ q=>q
  rintro rfl
  rcases hc with rfl|hc
  .rw[WA]at e;cases e
  .rw[WA]at hc;cases hc
 rcases hx with hk|hk
 .refine wpAny_storeName_local hk hn (λh' Xp hs=>?_) YA;obtain⟨oL,_,_,hoL,_⟩:=id hn;refine h _ ⟨I.ok,I.os,I.bare,⟨λb o e n hb hx=>?_,λb o e n hb hx=>?_,I.base.free,λb o e hx=>?_,I.base.m7,I.base.mX,I.base.nj⟩,⟨_,Xp,λj y v' e1 e2 e3=>?_⟩,λy c e=>?_,I.free,I.mM,λp hp=>?_,VZ ⟨oL,hoL,I.free⟩ hs,by simpa using I.len⟩ ⟨_,hs,.inl rfl⟩
  .exact(hs.2 b (dG (dI (dv e) I.ok.above))).trans (I.base.keep b o e n hb hx)
  .obtain⟨sl,e1⟩:=I.base.slot b o e n hb hx;exact⟨sl,(hs.2 b (dG (dI (dv e) I.ok.above))).trans e1⟩
  .obtain⟨o',e1⟩:=I.base.there b o e hx;exact⟨o',(hs.2 b (dG (dI (dv e) I.ok.above))).trans e1⟩
  .by_cases hj:j=i
   .subst hj;rw[hi]at e1;cases e1;rw[eK hiσ]at e2;cases e2;exact⟨u,r,.inl ⟨hk,by simp⟩⟩
   .rw[eP (dM hj)]at e2;obtain⟨u',r',q⟩:=hl j y v' e1 e2 e3;refine⟨u',r',?_⟩;rcases q with⟨k,e⟩|⟨k,c,e,z⟩
    .refine .inl ⟨k,?_⟩;have:y≠x:=λe=>hj (BZ hN e1 (e ▸ hi));simp[this,e]
    .exact .inr ⟨k,c,e,z.sameBut hs (oH y c e)⟩
  .obtain⟨w',z⟩:=I.cell y c e;exact⟨w',z.sameBut hs (oH y c e)⟩
  .obtain⟨e,n,ne,nf,d⟩:=I.pin p hp;exact⟨(hs.2 p.1 ne).trans e,n,ne,nf,d⟩
 .have hfn:X.fn x=true:=by
   rcases hf with z|z
   .exact z
   .rw[z]at hk;cases hk
  obtain⟨c,hc⟩:=I.ok.has x (.inl hk);obtain⟨w',z⟩:=I.cell x c hc;refine wpAny_storeName_cell I.ok.kind hk hc z (λh' hc' hs=>?_);obtain⟨oc,hoc,hocd⟩:=id z;refine h {s with heap:=h'} ⟨I.ok,I.os,I.bare,⟨λb o e n hb hx=>?_,λb o e n hb hx=>?_,I.base.free,λb o e hx=>?_,I.base.m7,I.base.mX,I.base.nj⟩,⟨m,hn.sameBut hs (dM (oH x c hc)),λj y v' e1 e2 e3=>?_⟩,λy c' e=>?_,I.free,I.mM,λp hp=>?_,VZ ⟨oc,hoc,I.mM x c hc⟩ hs,by simpa using I.len⟩ ⟨c,hs,.inr hc⟩
  .exact(hs.2 b (dG (dI (dv e) (I.ok.oj x c hfn hc)))).trans (I.base.keep b o e n hb hx)
  .obtain⟨sl,e1⟩:=I.base.slot b o e n hb hx;exact⟨sl,(hs.2 b (dG (dI (dv e) (I.ok.oj x c hfn hc)))).trans e1⟩
  .obtain⟨o',e1⟩:=I.base.there b o e hx;exact⟨o',(hs.2 b (dG (dI (dv e) (I.ok.oj x c hfn hc)))).trans e1⟩
  .by_cases hj:j=i
   .subst hj;rw[hi]at e1;cases e1;rw[eK hiσ]at e2;cases e2;exact⟨u,r,.inr ⟨.inl hk,c,hc,hc'⟩⟩
   .rw[eP (dM hj)]at e2;obtain⟨u',r',q⟩:=hl j y v' e1 e2 e3;refine⟨u',r',?_⟩;rcases q with q|⟨k,c',e,z'⟩
    .exact .inl q
    .refine .inr ⟨k,c',e,z'.sameBut hs ?_⟩
     rintro rfl
     exact hj (BZ hN e1 (I.ok.inj _ _ _ e hc ▸ hi))
  .by_cases Yl:c'=c
   .subst Yl;exact⟨_,hc'⟩
   .obtain⟨w2,z2⟩:=I.cell y c' e;exact⟨w2,z2.sameBut hs Yl⟩
  .obtain⟨e,n,ne,nf,d⟩:=I.pin p hp;refine⟨(hs.2 p.1 ?_).trans e,n,ne,nf,d⟩;intro q;rw[q,hoc]at e;have q':oc=p.2:=df e;exact d w' (by rw[<-q'];exact hocd)
def wI{M:Model}{A:Ar}{E:Vl->Sd->Prop}{i:Nat}{x:Str}{v:V}{u:Vl}{Q:Unit->Sd->Prop}(I:Inv X VL σ H s)(hN:X.N.Nodup)(hi:X.N[i]?=some x)(hx:JV X.env.scope x)(r:qp v u) (h:∀s',Inv X VL (σ.set i (some v)) H s'->Q () s') (hf:JW X x:=by first|exact .inl rfl|exact .inr rfl|assumption):wpAny M A (storeName X.env x u) Q E s:=
 Dg I hN hi hx r (λs' I' _=>h s' I') hf
def Inv.oC{s':Sd}{ch:List Addr}(I:Inv X VL σ H s)(ho:s'.os=s.os)(u:Un (vC X.stack) ch H H' s.heap s'.heap)(mG:xN X.prog X.w H' s'.heap)(hg:AllBare s'.gens) (WM:∀b∈ch,(b∈X.ex\/X.s₀.heap.objs.size<=b)/\b≠X.env.locals/\(∀x c,X.env.cells.lookup x=some c->c≠b)/\∀p∈X.pn++VL,p.1≠b):Inv X VL σ H' s':=by
 obtain⟨h',g',d',t',o'⟩:=s';have e:o'=s.os:=ho;subst e;exact I.call (g':=g') (t':=t') (d':=d') u mG hg WM
end
abbrev XK:=Vl->Option Addr->Hp->Prop
abbrev St:=List (Option V)
abbrev VK:=V->Hp->Prop
abbrev TE:=St->Hp->VK->Prop
abbrev TT:=St->Hp->(Bool->Hp->Prop)->Prop
abbrev TA:=St->Hp->(List V->Hp->Prop)->Prop
structure D0 where
 nx:St->Hp->Prop
 rt:VK
 bk:St->Hp->Prop:=λ_ _=>False
 ct:St->Hp->Prop:=λ_ _=>False
abbrev TS:=D0->St->Hp->Prop
def EP(X:Cx)(VL:List (Addr×Obj))(σ:St)(Q:VK)(u:Vl)(s':Sd):Prop:=∃v H',Inv X VL σ H' s'/\qp v u/\Q v H'
def TP(X:Cx)(VL:List (Addr×Obj))(σ:St)(Q:Bool->Hp->Prop)(b:Bool)(s':Sd):Prop:=∃H',Inv X VL σ H' s'/\Q b H'
def AP(X:Cx)(VL:List (Addr×Obj))(σ:St)(Q:List V->Hp->Prop)(us:List Vl)(s':Sd):Prop:=∃vs H',Inv X VL σ H' s'/\qh vs us/\Q vs H'
def SP(X:Cx)(VL:List (Addr×Obj))(D:D0)(f:Flow)(s':Sd):Prop:=
 match f with
 | .next=>∃σ' H',Inv X VL σ' H' s'/\D.nx σ' H'
 | .brk=>∃σ' H',Inv X VL σ' H' s'/\D.bk σ' H'
 | .cont=>∃σ' H',Inv X VL σ' H' s'/\D.ct σ' H'
 | .ret u=>∃v σ' H',Inv X VL σ' H' s'/\qp v u/\D.rt v H'
def PE(X:Cx)(e:Expr)(t:TE):Prop:=
 ∀(VL:List (Addr×Obj)) (s:Sd) (σ:St) (H:Hp) (Q:VK),Inv X VL σ H s->t σ H Q->wpAny (model X.prog X.w) X.A (eval e X.env) (EP X VL σ Q) X.xe s
def PT(X:Cx)(e:Expr)(t:TT):Prop:=
 ∀(VL:List (Addr×Obj)) (s:Sd) (σ:St) (H:Hp) (Q:Bool->Hp->Prop),Inv X VL σ H s->t σ H Q->wpAny (model X.prog X.w) X.A (isTrue e X.env (eval e X.env)) (TP X VL σ Q) X.xe s
def PW(X:Cx)(e:Expr)(t:TT):Prop:=
 ∀(Wm:Sem Vl) (VL:List (Addr×Obj)) (s:Sd) (σ:St) (H:Hp) (Q:Bool->Hp->Prop),Inv X VL σ H s->t σ H Q->wpAny (model X.prog X.w) X.A (isTrue e X.env Wm) (TP X VL σ Q) X.xe s
def PW.pt{X:Cx}{e:Expr}{t:TT}(h:PW X e t):PT X e t:=h _
def PA(X:Cx)(es:List Expr)(t:TA):Prop:=
 ∀(pos:Pos) (VL:List (Addr×Obj)) (s:Sd) (σ:St) (H:Hp) (Q:List V->Hp->Prop),Inv X VL σ H s->t σ H Q->wpAny (model X.prog X.w) X.A (spliced (backTo pos (starEach es X.env))) (AP X VL σ Q) X.xe s
def PS(X:Cx)(st:Stmt)(t:TS):Prop:=
 ∀(VL:List (Addr×Obj)) (s:Sd) (σ:St) (H:Hp) (D:D0),Inv X VL σ H s->t D σ H->wpAny (model X.prog X.w) X.A (exec st X.env) (SP X VL D) X.xe s
def AK(X:Cx)(st:List Stmt)(t:TS):Prop:=
 ∀(VL:List (Addr×Obj)) (s:Sd) (σ:St) (H:Hp) (D:D0),Inv X VL σ H s->t D σ H->wpAny (model X.prog X.w) X.A (execs st X.env) (SP X VL D) X.xe s
def rR{α:Type}{t:Sem α}{Q Q':α->Sd->Prop}{M:Model}{A:Ar}{E:Vl->Sd->Prop}{s:Sd}(h:wpAny M A t Q E s)(hQ:∀a s,Q a s->Q' a s):wpAny M A t Q' E s:=d9 h hQ λ_ _ x=>x
variable {tA tB':TT}{ta tb:TE}{pos:Pos}
section
def ES(i:Nat):TE:=λσ H Q=>∃v,σ[i]?=some (some v)/\Q v H
def tC(v:V):TE:=λ_ H Q=>Q v H
def Mo{i:Nat}{x:Str}{pos:Pos}(hN:X.N[i]?=some x)(hv:Qk X.env.scope x)(hd:yb x:=by decide)(WO:(x==("__classdict__":Str))=false:=by decide):PE X (.Name x pos) (ES i):=by
 intro VL s σ H Q I h;obtain⟨v,e,h⟩:=h;obtain⟨m,hn,hl⟩:=I.loc;obtain⟨u,r,l⟩:=hl i x v hN e hv;have VP:EP X VL σ Q u s:=⟨v,H,I,r,h⟩;rcases l with⟨hk,hm⟩|⟨hk,c,hc,hcell⟩
 .exact lP (wpAny_loadName_local I.ok.kind hk hn hm VP) hd
 .rcases hk with hk|hk
  .exact lP (wpAny_loadName_cell I.ok.kind hk hc hcell VP) hd
  .exact lP (wpAny_loadName_free I.ok.kind hk hc hcell VP WO) hd
def Rp{i j pos}:PE X (.Constant (.int i) j pos) (tC (.int i)):=λ_ _ _ H _ I h=>wpAny_Constant_int ⟨.int i,H,I.tok _,⟨_,rfl⟩,h⟩
def Tn{b j pos}:PE X (.Constant (.bool b) j pos) (tC (.bl b)):=λ_ _ _ H _ I h=>Constant_bool ⟨.bl b,H,I,rfl,h⟩
def P6{j pos}:PE X (.Constant .none j pos) (tC .mC):=λ_ _ _ H _ I h=>Constant_none ⟨.mC,H,I,rfl,h⟩
def RC{x j pos}:PE X (.Constant (.str x) j pos) (tC (.str x)):=λ_ _ _ H _ I h=>Calls.Constant_str ⟨.str x,H,I.tok _,⟨_,rfl⟩,h⟩
def Gl(X:Cx)(x:Str):Prop:=X.env.kindOf x=some .globalImplicit
def vQ{E:Vl->Sd->Prop}{VL:List (Addr×Obj)}{s:Sd}{σ:St}{H:Hp}{x:Str}{u:Vl}{pos:Pos}{Q:Vl->Sd->Prop}(I:Inv X VL σ H s)(hg:Gl X x)(hm:X.mg x=some u)(h:Q u s) (hd:yb x:=by decide):wpAny (model X.prog X.w) X.A (eval (.Name x pos) X.env) Q E s:=
 jg I.ok.kind hg (Calls.loadGlobal_global (by rw[I.ok.glob];exact I.mod.glob.keeps I.bk) hm h) hd
def xg{E:Vl->Sd->Prop}{VL:List (Addr×Obj)}{s:Sd}{σ:St}{H:Hp}{x:Str}{u:Vl}{pos:Pos}{Q:Vl->Sd->Prop}(I:Inv X VL σ H s)(hg:Gl X x)(hm:X.mg x=none)(hv:bootBuiltins x=some u)(h:Q u s) (hn:x≠"__name__":=by decide) (hd:yb x:=by decide):wpAny (model X.prog X.w) X.A (eval (.Name x pos) X.env) Q E s:=by
 obtain⟨mb,h1,h2⟩:=I.mod.blt;exact jg I.ok.kind hg (Calls.loadGlobal_builtin (by rw[I.ok.glob];exact I.mod.glob.keeps I.bk) hm (by rw[I.ok.blt];exact h1.keeps I.bk) ((h2 x hn).trans hv) h) hd
def EE{x:Str}{v:V}{u:Vl}{pos:Pos}(hg:Gl X x)(hm:X.mg x=some u)(r:qp v u)(hd:yb x:=by decide):PE X (.Name x pos) (tC v):=
 λ_ _ _ H _ I h=>vQ I hg hm ⟨v,H,I,r,h⟩ hd
def Oy{x:Str}{v:V}{u:Vl}{pos:Pos}(hg:Gl X x)(hm:X.mg x=none)(hv:bootBuiltins x=some u)(r:qp v u)(hn:x≠"__name__":=by decide)(hd:yb x:=by decide):PE X (.Name x pos) (tC v):=
 λ_ _ _ H _ I h=>xg I hg hm hv ⟨v,H,I,r,h⟩ hn hd
variable {a b:Expr}
def tB(t:TE):TT:=λσ H Q=>t σ H λx H1=>∃c,x=.bl c/\Q c H1
def RL{e:Expr}{t:TE}(h:PE X e t)(he:∀Wm,isTrue e X.env Wm=(do let v<-Wm;standAt e.pos;holding [v] (truthy v)):=by intro _;rfl):PT X e (tB t):=by intro VL s σ H Q I hw;refine isTrue_plain (rR (h VL s σ H _ I hw) λv s1 zz=>x5 zz λx H1 I1 r1 q1=>?_) (he _);obtain⟨d,rfl,q⟩:=q1;cases r1;exact fh ⟨H1,I1,q⟩
variable {rest:List Expr}
def UD(t u:TT):TT:=λσ H Q=>t σ H λc H1=>if c=true then u σ H1 Q else Q false H1
def Vy(t u:TT):TT:=λσ H Q=>t σ H λc H1=>if c=true then Q true H1 else u σ H1 Q
def U6(t:TT):TT:=λσ H Q=>t σ H λc H1=>Q (!c) H1
def Ob(ha:PT X a tA):PW X (.BoolOp .And [a] pos) tA:=by
 intro wh VL s σ H Q I h;refine isTrue_and (rR (ha VL s σ H Q I h) λc s1 e=>?_);cases c with
 | true=>exact isTrue_and_nil e
 | false=>exact e
def Qf(ha:PT X a tA):PW X (.BoolOp .Or [a] pos) tA:=by
 intro wh VL s σ H Q I h;refine isTrue_or (rR (ha VL s σ H Q I h) λc s1 e=>?_);cases c with
 | false=>exact isTrue_or_nil e
 | true=>exact e
def QP(ha:PT X a tA)(hb:PW X (.BoolOp .And (b::rest) pos) tB'):PW X (.BoolOp .And (a::b::rest) pos) (UD tA tB'):=by
 intro wh VL s σ H Q I h;refine isTrue_and (rR (ha VL s σ H _ I h) λc s1 ⟨H1,I1,q1⟩=>?_);cases c with
 | true=>exact hb wh VL s1 σ H1 Q I1 q1
 | false=>exact⟨H1,I1,q1⟩
def S4(ha:PT X a tA)(hb:PW X (.BoolOp .Or (b::rest) pos) tB'):PW X (.BoolOp .Or (a::b::rest) pos) (Vy tA tB'):=by
 intro wh VL s σ H Q I h;refine isTrue_or (rR (ha VL s σ H _ I h) λc s1 ⟨H1,I1,q1⟩=>?_);cases c with
 | true=>exact⟨H1,I1,q1⟩
 | false=>exact hb wh VL s1 σ H1 Q I1 q1
def Qh(ha:PT X a tA):PT X (.UnaryOp .Not a pos) (U6 tA):=by intro VL s σ H Q I h;exact isTrue_not (ha VL s σ H (λc H1=>Q (!c) H1) I h)
def Sg(ta tb:TE):TE:=λσ H Q=>ta σ H λx H1=>∃c,x=.bl c/\if c=true then tb σ H1 Q else Q (.bl false) H1
def U8(ta tb:TE):TE:=λσ H Q=>ta σ H λx H1=>∃c,x=.bl c/\if c=true then Q (.bl true) H1 else tb σ H1 Q
def Sm(ta:TE):TE:=λσ H Q=>ta σ H λx H1=>∃c,x=.bl c/\Q (.bl (!c)) H1
def Qb{op}{t:TE}(h:PE X a t):PE X (.BoolOp op [a] pos) t:=λVL s σ H Q I hw=>BoolOp_one (h VL s σ H Q I hw)
def QJ(ha:PE X a ta)(hb:PE X (.BoolOp .And (b::rest) pos) tb):PE X (.BoolOp .And (a::b::rest) pos) (Sg ta tb):=by
 intro VL s σ H Q I h;refine BoolOp_and (rR (ha VL s σ H _ I h) λv s1 zz=>x5 zz λx H1 I1 r1 q1=>?_);obtain⟨c,rfl,q1⟩:=q1;cases r1;refine fh ?_;cases c with
 | true=>exact hb VL s1 σ H1 Q I1 q1
 | false=>exact⟨.bl false,H1,I1,rfl,q1⟩
def R6(ha:PE X a ta)(hb:PE X (.BoolOp .Or (b::rest) pos) tb):PE X (.BoolOp .Or (a::b::rest) pos) (U8 ta tb):=by
 intro VL s σ H Q I h;refine BoolOp_or (rR (ha VL s σ H _ I h) λv s1 zz=>x5 zz λx H1 I1 r1 q1=>?_);obtain⟨c,rfl,q1⟩:=q1;cases r1;refine fh ?_;cases c with
 | false=>exact hb VL s1 σ H1 Q I1 q1
 | true=>exact⟨.bl true,H1,I1,rfl,q1⟩
def Rr(ha:PE X a ta):PE X (.UnaryOp .Not a pos) (Sm ta):=by intro VL s σ H Q I h;refine UnaryOp_ (rR (ha VL s σ H _ I h) λv s1 zz=>x5 zz λx H1 I1 r1 q1=>?_);obtain⟨c,rfl,q1⟩:=q1;cases r1;exact not_of (fh ⟨.bl (!c),H1,I1,rfl,q1⟩)
def VA(t:TT)(ta tb:TE):TE:=λσ H Q=>t σ H λc H1=>if c=true then ta σ H1 Q else tb σ H1 Q
def Mm{c:Expr}(hc:PT X c tA)(ha:PE X a ta)(hb:PE X b tb):PE X (.IfExp c a b pos) (VA tA ta tb):=by
 intro VL s σ H Q I h;refine wpAny_IfExp (rR (hc VL s σ H _ I h) λd s1 ⟨H1,I1,q1⟩=>?_);cases d with
 | true=>exact ha VL s1 σ H1 Q I1 q1
 | false=>exact hb VL s1 σ H1 Q I1 q1
end
def yu(K:pU)(H:Hp)(a:Addr)(xs:List V):Prop:=
 Rd H a (.lst xs)\/
  ∃(o:Obj) (its:Array Vl) (n:Nat),K.lookup a=some o/\o.cls=.type "list"/\o.dict=none/\o.data=.seq its n/\its.size<=sizeLine/\qh xs its.toList
def uG(K:pU)(H:Hp)(a:Addr)(xs:List V):Prop:=
 Rd H a (.tup xs)\/
  ∃(o:Obj) (its:Array Vl) (n:Nat),K.lookup a=some o/\o.cls=.type "tuple"/\o.dict=none/\o.data=.seq its n/\its.size<=sizeLine/\qh xs its.toList
def Ut:Vl->Option V
 | .none=>some .mC
 | .bool b=>some (.bl b)
 | .int i _=>some (.int i)
 | .str x _=>some (.str x)
 | .bytes b _=>some (.byt b)
 | .float b _=>some (.flt b)
 | .ref a=>some (.ref a)
 | .type n=>some (.ty n)
 | _=>none
def qp.abs{x:V}{u:Vl}(r:qp x u):Ut u=some x:=by
 cases x with
 | mC=>cases r;rfl
 | bl _=>cases r;rfl
 | int _=>obtain⟨t,rfl⟩:=r;rfl
 | str _=>obtain⟨t,rfl⟩:=r;rfl
 | byt _=>obtain⟨t,rfl⟩:=r;rfl
 | flt _=>obtain⟨t,rfl⟩:=r;rfl
 | ref _=>cases r;rfl
 | ty _=>cases r;rfl
def qp.inj{x y:V}{u:Vl}(r:qp x u)(q:qp y u):x=y:=df (r.abs.symm.trans q.abs)
theorem qh.inj:∀{xs ys:List V} {us:List Vl},qh xs us->qh ys us->xs=ys
 | _,_,_,.nil,.nil=>rfl
 | _,_,_,.cons r t,.cons r' t'=>by rw[r.inj r',qh.inj t t']
variable {xs ys:List V}
section
variable {σ:St}{a:Addr}
def uG.of{K:pU}(h:H a=some (.tup xs)):uG K H a xs:=.inl (.inl h)
def Inv.list(I:Inv X VL σ H s)(h:yu X.K H a xs):∃its:List Vl,qh xs its/\PlainL s.heap a its.toArray/\xs.length<=sizeLine:=by
 rcases h with h|⟨o,its,n,hk,hc,hd,hs,hz,r⟩
 .obtain⟨z,its,n,r,e⟩:=h.ok I.mG;exact⟨its,r,⟨_,n,e,rfl,rfl,rfl⟩,z⟩
 .refine⟨its.toList,r,⟨o,n,I.mR a o hk,hc,hd,by simpa using hs⟩,?_⟩;have e:=r.length;simp only[iS]at e;omega
def Inv.tuple(I:Inv X VL σ H s)(h:uG X.K H a xs):∃its:List Vl,qh xs its/\IsTup s.heap a its.toArray/\xs.length<=sizeLine:=by
 rcases h with h|⟨o,its,n,hk,hc,hd,hs,hz,r⟩
 .obtain⟨z,its,r,p⟩:=h.ok I.mG;exact⟨its,r,p.is,z⟩
 .refine⟨its.toList,r,⟨o,I.mR a o hk,hc,n,by simpa using hs⟩,?_⟩;have e:=r.length;simp only[iS]at e;omega
def Inv.nC(I:Inv X VL σ H s)(h:yu X.K H a xs)(h':yu X.K H a ys):xs=ys:=by
 obtain⟨its,r,⟨o,n,e,_,_,d⟩,_⟩:=I.list h;obtain⟨its',r',⟨o',n',e',_,_,d'⟩,_⟩:=I.list h';rw[e]at e';cases e';rw[d]at d';injection d' with d1 _
 have:its=its':=by simpa using eQ Array.toList d1
 subst this;exact r.inj r'
def Inv.mU(I:Inv X VL σ H s)(h:uG X.K H a xs)(h':uG X.K H a ys):xs=ys:=by
 obtain⟨its,r,⟨o,e,_,n,d⟩,_⟩:=I.tuple h;obtain⟨its',r',⟨o',e',_,n',d'⟩,_⟩:=I.tuple h';rw[e]at e';cases e';rw[d]at d';injection d' with d1 _
 have:its=its':=by simpa using eQ Array.toList d1
 subst this;exact r.inj r'
end
abbrev Cx.ny(X:Cx)(E:Vl->Sd->Prop):Cx:={X with xe:=E}
abbrev Cx.nX(X:Cx):Cx:=X.ny λ_ _=>False
def Cx.Ok.ny{X:Cx}(ok:X.Ok)(E:Vl->Sd->Prop):(X.ny E).Ok:=
 ⟨ok.mod,ok.kind,ok.glob,ok.blt,ok.above,ok.inj,ok.has,ok.oj,ok.hd,ok.frames,ok.om,ok.oG,ok.bs,ok.nN,ok.nF,ok.nJ,ok.mZ,ok.nS⟩
def Cx.Ok.mT{X:Cx}{E:Vl->Sd->Prop}(ok:(X.ny E).Ok):X.Ok:=
 ⟨ok.mod,ok.kind,ok.glob,ok.blt,ok.above,ok.inj,ok.has,ok.oj,ok.hd,ok.frames,ok.om,ok.oG,ok.bs,ok.nN,ok.nF,ok.nJ,ok.mZ,ok.nS⟩
section
variable {σ:St}{E:Vl→Sd→Prop}
def Inv.ny(I:Inv X VL σ H s)(E:Vl->Sd->Prop):Inv (X.ny E) VL σ H s:=⟨I.ok.ny E,I.os,I.bare,I.base,I.loc,I.cell,I.free,I.mM,I.pin,I.mG,I.len⟩
def Inv.mT(I:Inv (X.ny E) VL σ H s):Inv X VL σ H s:=⟨I.ok.mT,I.os,I.bare,I.base,I.loc,I.cell,I.free,I.mM,I.pin,I.mG,I.len⟩
def SP.mT{D:D0}{f:Flow}{s':Sd}(h:SP (X.ny E) VL D f s'):SP X VL D f s':=by
 cases f with
 | next=>obtain⟨σ',H',I,q⟩:=h;exact⟨σ',H',I.mT,q⟩
 | brk=>obtain⟨σ',H',I,q⟩:=h;exact⟨σ',H',I.mT,q⟩
 | cont=>obtain⟨σ',H',I,q⟩:=h;exact⟨σ',H',I.mT,q⟩
 | ret u=>obtain⟨v,σ',H',I,r,q⟩:=h;exact⟨v,σ',H',I.mT,r,q⟩
def AK.nX{st:List Stmt}{t:TS}(h:AK X.nX st t):AK X st t:=λVL s σ H D I hw=>d9 (h VL s σ H D (I.ny _) hw) (λ_ _ q=>q.mT) λ_ _ z=>False.elim z
end
variable {st:Stmt}{u:TS}{te:TE}
section
variable {rest:List Stmt}{t:TS}{e:Expr}
def R8:TS:=λD σ H=>D.nx σ H
def Ur(t u:TS):TS:=λD σ H=>t {D with nx:=u D} σ H
def OD:AK X [] R8:=λ_ _ σ H _ I h=>gT ⟨σ,H,I,h⟩
def KJ(h1:PS X st t)(h2:AK X rest u):AK X (st::rest) (Ur t u):=by
 intro VL s σ H D I h;refine ju (rR (h1 VL s σ H {D with nx:=u D} I h) λf s1 q=>?_);cases f with
 | next=>obtain⟨σ',H',I',q⟩:=q;exact h2 VL s1 σ' H' D I' q
 | ret v=>exact q
 | brk=>exact q
 | cont=>exact q
def DN(h1:PS X st t):AK X [st] t:=by
 intro VL s σ H D I h;refine ju (rR (h1 VL s σ H D I h) λf s1 q=>?_);cases f with
 | next=>exact gT q
 | ret v=>exact q
 | brk=>exact q
 | cont=>exact q
def Inv.quiet{VL:List (Addr×Obj)}{σ:St}{H:Hp}{s:Sd}(I:Inv X VL σ H s):interactive X.env=false:=by simp[interactive,I.ok.kind]
def TN(te:TE):TS:=λD σ H=>te σ H λ_ H1=>D.nx σ H1
def Nm(he:PE X e te)(hs:swapsWith e none pos.line X.env=pure false:=by rfl):PS X (.Expr e pos) (TN te):=by intro VL s σ H D I h;exact wpAny_Expr_any (rR (he VL s σ H _ I h) λv s1 zz=>x5 zz λx H1 I1 r1 q1=>⟨σ,H1,I1,q1⟩) I.quiet hs
def Uc(te:TE):TS:=λD σ H=>te σ H D.rt
def RT(he:PE X e te):PS X (.Return (some e) pos) (Uc te):=by intro VL s σ H D I h;exact wpAny_Return_some (rR (he VL s σ H _ I h) λv s1 zz=>x5 zz λx H1 I1 r1 q1=>⟨x,σ,H1,I1,r1,q1⟩)
def US(c:TT)(t u:TS):TS:=λD σ H=>c σ H λb H1=>if b=true then t D σ H1 else u D σ H1
def S9{c:Expr}{a b:List Stmt}{tc:TT}(hc:PT X c tc)(ha:AK X a t)(hb:AK X b u):PS X (.If c a b pos) (US tc t u):=by
 intro VL s σ H D I h;refine wpAny_If (rR (hc VL s σ H _ I h) λd s1 ⟨H1,I1,q1⟩=>?_);cases d with
 | true=>exact ha VL s1 σ H1 D I1 q1
 | false=>exact hb VL s1 σ H1 D I1 q1
def Ra:TS:=λ_ _ _=>False
def Mb:PS X st Ra:=λ_ _ _ _ _ _ h=>h.elim
end
abbrev TG:=V->St->Hp->(St->Hp->Prop)->Prop
abbrev OH:=List V->St->Hp->(St->Hp->Prop)->Prop
def PG(X:Cx)(Wk:Expr)(t:TG):Prop:=
 ∀(VL:List (Addr×Obj)) (s:Sd) (σ:St) (H:Hp) (v:V) (u:Vl) (Q:St->Hp->Prop),Inv X VL σ H s->qp v u->t v σ H Q->
  wpAny (model X.prog X.w) X.A (assign Wk X.env u) (λ_ s'=>∃σ' H',Inv X VL σ' H' s'/\Q σ' H') X.xe s
def MJ(X:Cx)(ts:List Expr)(t:OH):Prop:=
 ∀(VL:List (Addr×Obj)) (s:Sd) (σ:St) (H:Hp) (vs:List V) (us:List Vl) (Q:St->Hp->Prop),Inv X VL σ H s->qh vs us->t vs σ H Q->
  wpAny (model X.prog X.w) X.A (assignInOrder ((assignEach ts X.env).map (·.2)) us) (λ_ s'=>∃σ' H',Inv X VL σ' H' s'/\Q σ' H') X.xe s
abbrev Rw:=V->V->V->Hp->(Hp->Prop)->Prop
def SR(X:Cx)(t:Rw):Prop:=
 ∀(VL:List (Addr×Obj)) (s:Sd) (σ:St) (H:Hp) (o i v:V) (ov iv u:Vl) (Q:Hp->Prop),Inv X VL σ H s->qp o ov->qp i iv->qp v u->t o i v H Q->
  wpAny (model X.prog X.w) X.A (setItem ov iv u) (λ_ s'=>∃H',Inv X VL σ H' s'/\Q H') X.xe s
def Iq(i:Nat):TG:=λv σ H Q=>Q (σ.set i (some v)) H
def O9{i:Nat}{x:Str}(hN:X.N.Nodup)(hi:X.N[i]?=some x)(hx:JV X.env.scope x)(hf:JW X x:=by first|exact .inl rfl|exact .inr rfl|assumption):PG X (.Name x pos) (Iq i):=by intro VL s σ H v u Q I r h;exact kU (wI I hN hi hx r (λs' I'=>⟨_,H,I',h⟩) hf)
def U0:OH:=λvs σ H Q=>vs=[]/\Q σ H
def SX(t:TG)(u:OH):OH:=λvs σ H Q=>∃v r,vs=v::r/\t v σ H λσ' H'=>u r σ' H' Q
def Nn:MJ X [] U0:=by intro VL s σ H vs us Q I r h;obtain⟨e,h⟩:=h;subst e;cases r;exact assignInOrder_nil ⟨σ,H,I,h⟩
def Mc{e:Expr}{es:List Expr}{t:TG}{u:OH}(h1:PG X e t)(h2:MJ X es u) (hs:(assignEach (e::es) X.env).map (·.2)=assign e X.env::(assignEach es X.env).map (·.2):=by rfl):MJ X (e::es) (SX t u):=by
 intro VL s σ H vs us Q I r h;obtain⟨v,vr,e1,h⟩:=h;subst e1;cases r with
 | cons r rr=>rw[hs];refine assignInOrder_cons (rR (h1 VL s σ H _ _ _ I r h) λ_ s1 ⟨σ1,H1,I1,q1⟩=>?_);exact h2 VL s1 σ1 H1 _ _ Q I1 rr q1
def Ua(K:pU)(n:Nat)(t:OH):TG:=λv σ H Q=>∃a xs,v=.ref a/\uG K H a xs/\xs.length=n/\t xs σ H Q
def QD{es:List Expr}{k:Nat}{t:OH}{n:Nat}(hc:X.calm=true)(h:MJ X es t) (hn:(assignEach es X.env).length=n:=by rfl) (V9:(assignEach es X.env).findIdx? (·.1)=none:=by rfl):PG X (.Tuple es k pos) (Ua X.K n t):=by
 intro VL s σ H v u Q I r hw;obtain⟨a,xs,e1,hq,hl,hw⟩:=hw;subst e1;cases r;obtain⟨its,rv,ht,hz⟩:=I.tuple hq;refine assign_Tuple_tuple (I.ok.hd hc) ht (by simp[hn,<-hl,rv.length]) V9 λh' hx=>?_;have I1:Inv X VL σ H {s with heap:=h'}:=I.kept (t':=s.toks) λb o e=>hx b o (dG (dv e)) e;exact h VL _ σ H xs _ Q I1 (by simpa using rv) hw
def UN(to ti:TE)(t:Rw):TG:=λv σ H Q=>to σ H λo H1=>ti σ H1 λi H2=>t o i v H2 λH3=>Q σ H3
def Rt{o i:Expr}{to ti:TE}{t:Rw}(ho:PE X o to)(hi:PE X i ti)(hs:SR X t) (ha:∀v,assign (.Subscript o i pos) X.env v=(do
   let ov<-holding [v] (eval o X.env);let iv<-holding [v,ov] (eval i X.env)
   standAt pos
   holding [v,ov,iv] (setItem ov iv v)
   release [v,ov,iv] []):=by intro _;rfl):PG X (.Subscript o i pos) (UN to ti t):=by
 intro VL s σ H v u Q I r h;rw[ha];refine cS (eC (rR (ho VL s σ H _ I h) λov s1 zz=>x5 zz λx H1 I1 r1 q1=>?_));refine cS (eC (rR (hi VL s1 σ H1 _ I1 q1) λiv s2 zz=>x5 zz λy H2 I2 r2 q2=>?_));refine cS (gR (cS (eC (rR (hs VL s2 σ H2 x y v ov iv u _ I2 r1 r2 r q2) λ_ s3 ⟨H3,I3,q3⟩=>?_))));exact wpAny_release ⟨σ,H3,I3,q3⟩
def N0(te:TE)(g:TG):TS:=λD σ H=>te σ H λx H1=>g x σ H1 D.nx
def RA{tg e:Expr}{te:TE}{g:TG}(he:PE X e te)(hg:PG X tg g)(hs:swapsWithSole [tg] e pos.line X.env=pure false:=by rfl)(hw:swappedStores [tg] e X.env=pure none:=by rfl)
  (h1:(assignEach [tg] X.env).map (·.2)=[assign tg X.env]:=by rfl):PS X (.Assign [tg] e pos) (N0 te g):=by
 intro VL s σ H D I h;refine wpAny_Assign_stores (rR (he VL s σ H _ I h) λv s1 zz=>x5 zz λx H1 I1 r1 q1=>?_) hs hw;rw[h1];exact rR (hg VL s1 σ H1 x v _ I1 r1 q1) λ_ s2 q=>q
def Ma{i:Nat}{x:Str}{e:Expr}{te:TE}{VU:Pos}(hN:X.N.Nodup)(hi:X.N[i]?=some x)(hx:JV X.env.scope x)(he:PE X e te)(hs:swapsWith e (some (.Name x VU)) pos.line X.env=pure false:=by rfl)(hf:JW X x:=by first|exact .inl rfl|exact .inr rfl|assumption):
  PS X (.Assign [.Name x VU] e pos) (N0 te (Iq i)):=by
 intro VL s σ H D I h;refine kW (rR (he VL s σ H _ I h) λv s1 zz=>x5 zz λy H1 I1 r1 q1=>?_) hs;exact wI I1 hN hi hx r1 (λs2 I2=>⟨_,H1,I2,q1⟩) hf
def Ry(c:TT)(tb:TS):TS:=λD σ H=>∃W:Nat->St->Hp->Prop,(∃m,W m σ H)/\∀m σ H,W m σ H->
 c σ H λb H1=>if b=true then ∃N:St->Hp->Prop,(∀σ' H',N σ' H'->∃m',m'<m/\W m' σ' H')/\tb {D with nx:=N,ct:=N,bk:=D.nx} σ H1 else D.nx σ H1
def Lw{c:Expr}{body:List Stmt}{tc:TT}{tb:TS}(hp:PassesOwn (model X.prog X.w) X.A X.env X.xe)(hc:PT X c tc)(hb:AK X body tb):PS X (.While c body [] pos) (Ry tc tb):=by
 intro VL s σ H D I h;obtain⟨W,⟨m0,w0⟩,turn⟩:=h;refine wpAny_While (codeAny_whileLoop (λn s'=>∃σ' H',Inv X VL σ' H' s'/\W n σ' H') ?_ m0 ⟨σ,H,I,w0⟩)
 rintro n s1 ⟨σ1,H1,I1,w1⟩
 refine gB hp (rR (hc VL s1 σ1 H1 _ I1 (turn n σ1 H1 w1)) λb s2 ⟨H2,I2,q2⟩=>?_);cases b with
 | true=>
  obtain⟨N,hN,q2⟩:=q2;rw[cY rfl];refine gB hp (rR (hb VL s2 σ1 H2 _ I2 q2) λf s3 q3=>?_);cases f with
  | next=>obtain⟨σ3,H3,I3,n3⟩:=q3;obtain⟨m',hm,w3⟩:=hN σ3 H3 n3;exact⟨m',hm,σ3,H3,I3,w3⟩
  | cont=>obtain⟨σ3,H3,I3,n3⟩:=q3;obtain⟨m',hm,w3⟩:=hN σ3 H3 n3;exact⟨m',hm,σ3,H3,I3,w3⟩
  | brk=>exact q3
  | ret v=>exact q3
 | false=>rw[cW dw];exact gT ⟨σ1,H2,I2,q2⟩
structure It where
 go:Nat->Hp->Prop
 oq:Nat->Hp->V->Hp->Prop
 stop:Nat->Hp->Prop
def Ap(X:Cx)(VL:List (Addr×Obj))(H:Hp)(b:Addr):Prop:=
 H b=none/\b≠X.env.locals/\b∉X.fs/\(b∈X.ex\/X.s₀.heap.objs.size<=b)/\(∀x c,X.env.cells.lookup x=some c->c≠b)/\∀p∈X.pn++VL,p.1≠b
def Inv.nL{X:Cx}{VL:List (Addr×Obj)}{σ:St}{H H':Hp}{s:Sd}{b:Addr}(I:Inv X VL σ H s)(hb:s.heap.objs.size<=b)(hn:H' b=none):Ap X VL H' b:=by
 refine⟨hn,gM (dI I.lt hb),I.oB hb,.inr (dX I.sz hb),λx c e z=>?_,λp hp z=>?_⟩
 .obtain⟨v,q⟩:=I.cell x c e;exact absurd (dI q.lt (by rw[z];exact hb)) (eY _)
 .exact absurd (dI (dv (I.pin p hp).1) (by rw[z];exact hb)) (eY _)
structure F'(P:Pg)(w:Wo)(K:pU)(tg:Expr)(J:It)(fp:List Addr)(it:Addr)(tn:Nat->Heap->Prop):Prop where
 mem:it∈fp
 obj:∀i h,tn i h->∀b∈fp,∃o,h.get? b=some o/\∀v,o.data≠.cell v
 keep:∀i h h',tn i h->(∀b∈fp,∀o,h.get? b=some o->h'.get? b=some o)->tn i h'
 item:∀(X:Cx),X.prog=P->X.w=w->X.K=K->X.calm=true->∀(i:Nat) (VL:List (Addr×Obj)) (s:Sd) (σ:St) (H:Hp) (E:Vl->Sd->Prop),Inv X VL σ H s->(∀b∈fp,Ap X VL H b)->tn i s.heap->J.go i H->
  wpAny (model P w) X.A (pyNext (.ref it)) (λr s1=>∃u,r=some u/\
   wpAny (model P w) X.A (letOwnedTupleGo tg (.ref it) u) (λ_ s2=>∃x H',Inv X VL σ H' s2/\qp x u/\J.oq i H x H'/\tn (i+1) s2.heap/\∀b∈fp,H' b=none) E s1) E s
 done:∀(X:Cx),X.prog=P->X.w=w->X.K=K->X.calm=true->∀(i:Nat) (VL:List (Addr×Obj)) (s:Sd) (σ:St) (H:Hp) (E:Vl->Sd->Prop),Inv X VL σ H s->(∀b∈fp,Ap X VL H b)->tn i s.heap->J.stop i H->
  wpAny (model P w) X.A (pyNext (.ref it)) (λr s1=>r=none/\Inv X VL σ H s1) E s
 self:∀(A:Ar) (i:Nat) (s:Sd) (Q:Vl->Sd->Prop) (E:Vl->Sd->Prop),tn i s.heap->Q (.ref it) s->wpAny (model P w) A (pyIter (.ref it)) Q E s
abbrev TI:=St->Hp->(It->Hp->Prop)->Prop
def Vs(X:Cx)(VL:List (Addr×Obj))(σ:St)(tg:Expr)(R:It->Hp->Prop)(itv:Vl)(s2:Sd):Prop:=
 ∃(it:Addr) (fp:List Addr) (tn:Nat->Heap->Prop) (J:It) (H':Hp),itv=.ref it/\Inv X VL σ H' s2/\F' X.prog X.w X.K tg J fp it tn/\tn 0 s2.heap/\(∀b∈fp,Ap X VL H' b)/\R J H'
def PI(X:Cx)(tg iter:Expr)(wi:TI):Prop:=
 ∀(VL:List (Addr×Obj)) (s:Sd) (σ:St) (H:Hp) (R:It->Hp->Prop),Inv X VL σ H s->wi σ H R->
  wpAny (model X.prog X.w) X.A (eval iter X.env) (λv s1=>wpAny (model X.prog X.w) X.A (pyIter v) (Vs X VL σ tg R) X.xe s1) X.xe s
def Hr{M:Model}{A:Ar}{E:Vl->Sd->Prop}{s:Sd}{tg:Expr}{it:Addr}{u:Vl}{o:Obj}{n:String}{vs:Array Vl}{Q:Unit->Sd->Prop}(ho:s.heap.get? it=some o)(hc:o.cls=.type n)(hd:o.data=.fields vs) (hn:["enumerate","zip","dict_itemiterator","dict_reverseitemiterator","odict_iterator","itertools.zip_longest","itertools.pairwise"].contains n=false) (hQ:Q () s):wpAny M A (letOwnedTupleGo tg (.ref it) u) Q E s:=by
  unfold letOwnedTupleGo;cases tg<;>first
    | exact cZ hQ
    | (cases u<;>first
        | exact cZ hQ
        | (refine cS (wpAny_load ho ?_)
           rw[hc,hd];show wpAny M A (if (["enumerate","zip","dict_itemiterator","dict_reverseitemiterator","odict_iterator","itertools.zip_longest","itertools.pairwise"].contains n&&vs[0]?==some (rawInt _))=true then _ else _) Q E s;rw[cW (by intro h;rw[hn,eS]at h;cases h)];exact cZ hQ))
def TX(K:pU)(a:Addr):It:=
 ⟨λi H=>∃xs x,yu K H a xs/\xs[i]?=some x,λi H x H'=>H'=H/\∀xs,yu K H a xs->xs[i]?=some x,λi H=>∃xs,yu K H a xs/\xs.length<=i⟩
def UT(K:pU)(a:Addr):It:=
 ⟨λi H=>∃xs x,uG K H a xs/\xs[i]?=some x,λi H x H'=>H'=H/\∀xs,uG K H a xs->xs[i]?=some x,λi H=>∃xs,uG K H a xs/\xs.length<=i⟩
def TY(lo:Int)(n:Nat):It:=⟨λi _=>i<n,λi H x H'=>H'=H/\x=.int (lo+i),λi _=>n<=i⟩
def Js{P:Pg}{w:Wo}{K:pU}{tg:Expr}(a it:Addr):F' P w K tg (TX K a) [it] it (λi h=>h.IsListIter it a i) where
 mem:=by simp
 obj:=λi h st b hb=>by
  have e:b=it:=by simpa using hb
  subst e;obtain⟨o,e,c,d⟩:=st;exact⟨o,e,λv z=>by rw[d]at z;cases z⟩
 keep:=λi h h' st k=>st.at λo e=>k it (by simp) o e
 item:=by intro X hP hw hK hc i VL s σ H E I hf st hg;subst hP hw hK;obtain⟨xs,x,hq,hx⟩:=hg;obtain⟨its,rv,p,hz⟩:=I.list hq;obtain⟨u,hu,ru⟩:=rv.get hx;obtain⟨f0,f1,f2,f3,f4,f5⟩:=hf it (by simp);refine jP st p.isList (x:=u) (by simpa using hu) λh' Xc sb=>?_;have I1:Inv X VL σ H {s with heap:=h'}:=I.turned (t':=s.toks) (λb o hb e=>(sb.2 b hb).trans e) f0 f1 f3 f4 f5;obtain⟨o,e,c,d⟩:=id Xc;exact⟨u,rfl,Hr (s:={s with heap:=h'}) e c d (by decide) ⟨x,H,I1,ru,⟨rfl,λys hy=>by rw[I.nC hy hq];exact hx⟩,Xc,λb hb=>(hf b hb).1⟩⟩
 done:=by intro X hP hw hK hc i VL s σ H E I hf st hg;subst hP hw hK;obtain⟨xs,hq,hx⟩:=hg;obtain⟨its,rv,p,hz⟩:=I.list hq;obtain⟨f0,f1,f2,f3,f4,f5⟩:=hf it (by simp);have hl:=rv.length;exact jS (I.ok.hd hc) st p.isList (by simp;omega) λh' eb=>⟨rfl,I.turned (t':=s.toks) (λb o hb e=>eb b o hb e) f0 f1 f3 f4 f5⟩
 self:=λ_ _ _ _ _ st h=>wpAny_pyIter_listiter st h
def G'{P:Pg}{w:Wo}{K:pU}{tg:Expr}(a it:Addr):F' P w K tg (UT K a) [it] it (λi h=>h.IsTupleIter it a i) where
 mem:=by simp
 obj:=λi h st b hb=>by
  have e:b=it:=by simpa using hb
  subst e;obtain⟨o,e,c,d⟩:=st;exact⟨o,e,λv z=>by rw[d]at z;cases z⟩
 keep:=λi h h' st k=>st.at λo e=>k it (by simp) o e
 item:=by intro X hP hw hK hc i VL s σ H E I hf st hg;subst hP hw hK;obtain⟨xs,x,hq,hx⟩:=hg;obtain⟨its,rv,p,hz⟩:=I.tuple hq;obtain⟨u,hu,ru⟩:=rv.get hx;obtain⟨f0,f1,f2,f3,f4,f5⟩:=hf it (by simp);refine wpAny_pyNext_tuple_item st (show s.heap.IsTuple a its.toArray from p) (x:=u) (by simpa using hu) λh' Xc sb=>?_;have I1:Inv X VL σ H {s with heap:=h'}:=I.turned (t':=s.toks) (λb o hb e=>(sb.2 b hb).trans e) f0 f1 f3 f4 f5;obtain⟨o,e,c,d⟩:=id Xc;exact⟨u,rfl,Hr (s:={s with heap:=h'}) e c d (by decide) ⟨x,H,I1,ru,⟨rfl,λys hy=>by rw[I.mU hy hq];exact hx⟩,Xc,λb hb=>(hf b hb).1⟩⟩
 done:=by intro X hP hw hK hc i VL s σ H E I hf st hg;subst hP hw hK;obtain⟨xs,hq,hx⟩:=hg;obtain⟨its,rv,p,hz⟩:=I.tuple hq;obtain⟨f0,f1,f2,f3,f4,f5⟩:=hf it (by simp);have hl:=rv.length;exact wpAny_pyNext_tuple_end (I.ok.hd hc) st (show s.heap.IsTuple a its.toArray from p) (by simp;omega) λh' eb=>⟨rfl,I.turned (t':=s.toks) (λb o hb e=>eb b o hb e) f0 f1 f3 f4 f5⟩
 self:=λ_ _ _ _ _ st h=>wpAny_pyIter_tupleiter st h
def Hb{P:Pg}{w:Wo}{K:pU}{tg:Expr}(it:Addr)(lo:Int)(n:Nat):F' P w K tg (TY lo n) [it] it (λi h=>IsRangeIter h it (lo+(i:Nat)*1) ((n:Int) - (i:Nat)) 1) where
 mem:=by simp
 obj:=λi h st b hb=>by
  have e:b=it:=by simpa using hb
  subst e;exact⟨_,st,λv z=>by
   have z':Data.fields _=Data.cell v:=z;cases z'⟩
 keep:=λi h h' st k=>k it (by simp) _ st
 item:=by intro X hP hw hK hc i VL s σ H E I hf st hg;subst hP hw hK;obtain⟨f0,f1,f2,f3,f4,f5⟩:=hf it (by simp);have W:=Walks.range (prog:=X.prog) (w:=X.w) (I.ok.hd hc) it lo 1 n;refine W.item i s _ _ hg st λv h' tk hv Xc kk=>?_;obtain⟨t,rfl⟩:=hv;have I1:Inv X VL σ H {s with heap:=h',toks:=tk}:=I.turned (λb o hb e=>kk b o (by simpa using hb) e) f0 f1 f3 f4 f5;refine⟨_,rfl,Hr (s:={s with heap:=h',toks:=tk}) (n:="range_iterator") Xc rfl rfl (by decide) ⟨.int (lo+i),H,I1,⟨t,?_⟩,⟨rfl,rfl⟩,Xc,λb hb=>(hf b hb).1⟩⟩;rw[Int.mul_one]
 done:=by intro X hP hw hK hc i VL s σ H E I hf st hg;subst hP hw hK;obtain⟨f0,f1,f2,f3,f4,f5⟩:=hf it (by simp);exact wpAny_pyNext_range_end (I.ok.hd hc) st (by have:n<=i:=hg;omega) λh' eb=>⟨rfl,I.turned (t':=s.toks) (λb o hb e=>eb b o hb e) f0 f1 f3 f4 f5⟩
 self:=λ_ _ _ _ _ st h=>wpAny_pyIter_rangeiter st h
variable {tg:Expr}
def KF{VL:List (Addr×Obj)}{σ:St}{H:Hp}{s:Sd}{R:It->Hp->Prop}{E:Vl->Sd->Prop}{lo hi:Int}{t u v:Tok}{tk:Nat}(I:Inv X VL σ H s)(h1:-(2 ^ 62)<=lo)(h2:lo<2 ^ 62)(h3:-(2 ^ 62)<=hi)(h4:hi<2 ^ 62) (q:R (TY lo (hi - lo).toNat) H):wpAny (model X.prog X.w) X.A (pyIter (.ref s.heap.objs.size)) (Vs X VL σ tg R) E {s with heap:=s.heap.push {cls:=.type "range",data:=.fields #[.int lo t,.int hi u,.int 1 v]},toks:=tk}:=by
 refine wpAny_pyIter_range (IsRange.new ..) (small_one h1 h2 h3 h4) ?_;have I1:Inv X VL σ H {s with heap:=s.heap.push {cls:=.type "range",data:=.fields #[.int lo t,.int hi u,.int 1 v]},toks:=tk}:=I.kept λb o e=>cX _ e;refine⟨(s.heap.push {cls:=.type "range",data:=.fields #[.int lo t,.int hi u,.int 1 v]}).objs.size,[(s.heap.push {cls:=.type "range",data:=.fields #[.int lo t,.int hi u,.int 1 v]}).objs.size],_,_,H,rfl,I1.kept (t':=tk) λb o e=>cX _ e,Hb _ lo (hi - lo).toNat,?_,λb hb=>?_,q⟩
 .have e1:lo+((0:Nat):Int)*1=lo:=by simp
  have e2:(((hi - lo).toNat:Nat):Int) - ((0:Nat):Int)=Builtin.Range.rangeSize lo hi 1:=by rw[rangeSize_one];split<;>omega
  show IsRangeIter _ _ (lo+((0:Nat):Int)*1) ((((hi - lo).toNat:Nat):Int) - ((0:Nat):Int)) 1;rw[e1,e2];exact dF _ rfl
 .have e:b=(s.heap.push {cls:=.type "range",data:=.fields #[.int lo t,.int hi u,.int 1 v]}).objs.size:=by simpa using hb
  subst e;exact I1.nL (de _) (I1.mG.fresh (de _))
def Tj(ta:TA):TI:=λσ H R=>ta σ H λvs H1=>∃j:Int,vs=[.int j]/\-(2 ^ 62)<=j/\j<2 ^ 62/\R (TY 0 j.toNat) H1
def IR{a:Expr}{ta:TA}{p pos:Pos}(hg:Gl X "range")(hm:X.mg "range"=none)(ha:PA X [a] ta)(hs:starEach [a] X.env=[(false,eval a X.env)]:=by rfl):PI X tg (.Call (.Name "range" p) [a] [] pos) (Tj ta):=by
 intro VL s σ H R I h;refine Call_ (xg I hg hm boot_range (fU (rR (ha pos VL s σ H _ I h) λus s1 zz=>x5 zz λvs H1 I1 r1 q1=>?_) hs rfl));obtain⟨j,e,q1,q2,q⟩:=q1;subst e;cases r1 with
 | cons r rr=>cases rr;obtain⟨t,rfl⟩:=r;exact call_range_1 (KF I1 (by omega) (by omega) q1 q2 (by simpa using q))
def Us(wi:TI)(g:TG)(tb:TS):TS:=λD σ H=>wi σ H λJ H1=>∃W:Nat->Nat->St->Hp->Prop,(∃m,W 0 m σ H1)/\∀i m σ H,W i m σ H->
 (J.stop i H/\D.nx σ H)\/(J.go i H/\∃N:St->Hp->Prop,(∀σ' H',N σ' H'->∃m',m'<m/\W (i+1) m' σ' H')/\∀x H',J.oq i H x H'->g x σ H' λσ2 H2=>tb {D with nx:=N,ct:=N,bk:=D.nx} σ2 H2)
def Bb(fp:List Addr)(h:Heap):List (Addr×Obj):=fp.filterMap λb=>(h.get? b).map λo=>(b,o)
def uV{fp:List Addr}{h:Heap}{b:Addr}{o:Obj}(hb:b∈fp)(e:h.get? b=some o):(b,o)∈Bb fp h:=kF.mpr ⟨b,hb,by rw[e];rfl⟩
def Jk{fp:List Addr}{h:Heap}{p:Addr×Obj}(hp:p∈Bb fp h):p.1∈fp/\h.get? p.1=some p.2:=by
 obtain⟨b,hb,e⟩:=kF.mp hp;cases q:h.get? b with
 | none=>rw[q]at e;cases e
 | some o=>rw[q]at e;have e':(b,o)=p:=df e;subst e';exact⟨hb,q⟩
def Inv.pinned{VL:List (Addr×Obj)}{σ:St}{H:Hp}{s:Sd}{fp:List Addr}(I:Inv X VL σ H s)(hf:∀b∈fp,Ap X VL H b)(ho:∀b∈fp,∃o,s.heap.get? b=some o/\∀v,o.data≠.cell v):Inv X (VL++Bb fp s.heap) σ H s:=
 I.nA λp hp=>(dU.mp hp).elim (λz=>I.pin p (eA _ z)) λz=>by obtain⟨hb,e⟩:=Jk z;obtain⟨f0,f1,f2,_⟩:=hf p.1 hb;obtain⟨o,e',d⟩:=ho p.1 hb;rw[e]at e';cases e';exact⟨e,f0,f1,f2,d⟩
def Inv.mP{VL pl:List (Addr×Obj)}{σ:St}{H:Hp}{s:Sd}(I:Inv X (VL++pl) σ H s):Inv X VL σ H s:=I.nA λp hp=>I.pin p (eA _ (fj _ hp))
def Qg{iter:Expr}{body:List Stmt}{wi:TI}{g:TG}{tb:TS}{pos:Pos}(hp:PassesOwn (model X.prog X.w) X.A X.env X.xe)(hc:X.calm=true)(hi:PI X tg iter wi)(hg:PG X tg g)(hb:AK X body tb) (hs:∀x,foldedSetIterable iter X.env x=pure x:=by intro _;rfl):PS X (.For tg iter body [] pos) (Us wi g tb):=by
 intro VL s σ H D I h;refine wpAny_For (rR (hi VL s σ H _ I h) λv s1 h1=>rR h1 λitv s2 h2=>?_) hs;obtain⟨it,fp,tn,J,H2,e,I2,T,Wd,f2,W,⟨m0,w0⟩,turn⟩:=h2;subst e;have W0:∀{H':Hp},(∀b∈fp,H' b=none)->∀b∈fp,Ap X VL H' b:=λhn b hb=>⟨hn b hb,(f2 b hb).2⟩;refine codeAny_forLoop_any (λn s'=>∃i σ' H',Inv X VL σ' H' s'/\tn i s'.heap/\(∀b∈fp,H' b=none)/\W i n σ' H') ?_ m0 ⟨0,σ,H2,I2,Wd,λb hb=>(f2 b hb).1,w0⟩
 rintro n s3 ⟨i,σ3,H3,I3,WB,fr3,w3⟩
 rcases turn i n σ3 H3 w3 with⟨stop,qn⟩|⟨go,N,hN,step⟩
 .refine gB hp (rR (T.done X rfl rfl rfl hc i VL s3 σ3 H3 X.xe I3 (W0 fr3) WB stop) λr s4 ⟨hr,I4⟩=>?_);subst hr;exact gT ⟨σ3,H3,I4,qn⟩
 .refine gB hp (rR (T.item X rfl rfl rfl hc i VL s3 σ3 H3 X.xe I3 (W0 fr3) WB go) λr s4 ⟨u,hr,h4⟩=>?_);subst hr;refine gB hp (rR h4 λ_ s5 zz=>?_);obtain⟨x,H5,I5,r5,y5,Ym,fr5⟩:=zz;have I5':=I5.pinned (W0 fr5) (T.obj _ _ Ym);refine gB hp (rR (hg _ s5 σ3 H5 x u _ I5' r5 (step x H5 y5)) λ_ s6 ⟨σ6,H6,I6,q6⟩=>?_);refine gB hp (rR (hb _ s6 σ6 H6 _ I6 q6) λf s7 q7=>?_);have again:∀{σ7:St} {H7:Hp},Inv X (VL++Bb fp s5.heap) σ7 H7 s7->N σ7 H7->∃m,m<n/\∃i σ' H',Inv X VL σ' H' s7/\tn i s7.heap/\(∀b∈fp,H' b=none)/\W i m σ' H':=λ{σ7 H7} I7 n7=>by obtain⟨m',hm,w7⟩:=hN σ7 H7 n7;refine⟨m',hm,i+1,σ7,H7,I7.mP,T.keep _ _ _ Ym λb hb o e=>(I7.pin (b,o) (eA _ (eA _ (uV hb e)))).1,λb hb=>?_,w7⟩;obtain⟨o,e,d⟩:=T.obj _ _ Ym b hb;exact(I7.pin (b,o) (eA _ (eA _ (uV hb e)))).2.1
  cases f with
  | next=>obtain⟨σ7,H7,I7,n7⟩:=q7;exact again I7 n7
  | cont=>obtain⟨σ7,H7,I7,n7⟩:=q7;exact again I7 n7
  | brk=>obtain⟨σ7,H7,I7,q7⟩:=q7;exact⟨σ7,H7,I7.mP,q7⟩
  | ret v=>obtain⟨x7,σ7,H7,I7,r7,q7⟩:=q7;exact⟨x7,σ7,H7,I7.mP,r7,q7⟩
abbrev R2:=V->V->Hp->VK->Prop
def wH(X:Cx)(f:Vl->Vl->Sem Vl)(r:R2):Prop:=
 ∀(VL:List (Addr×Obj)) (s:Sd) (σ:St) (H:Hp) (x y:V) (v u:Vl) (Q:VK),Inv X VL σ H s->qp x v->qp y u->r x y H Q->
  wpAny (model X.prog X.w) X.A (f v u) (EP X VL σ Q) X.xe s
def UB(X:Cx)(f:Vl->Sem Vl)(r:V->Hp->VK->Prop):Prop:=
 ∀(VL:List (Addr×Obj)) (s:Sd) (σ:St) (H:Hp) (x:V) (v:Vl) (Q:VK),Inv X VL σ H s->qp x v->r x H Q->
  wpAny (model X.prog X.w) X.A (f v) (EP X VL σ Q) X.xe s
def yz(X:Cx)(f:Vl)(r:List V->Hp->VK->Prop):Prop:=
 ∀(VL:List (Addr×Obj)) (s:Sd) (σ:St) (H:Hp) (xs:List V) (us:List Vl) (Q:VK),Inv X VL σ H s->qh xs us->r xs H Q->
  wpAny (model X.prog X.w) X.A (call f us) (EP X VL σ Q) X.xe s
def Sb(r:R2)(ta tb:TE):TE:=λσ H Q=>ta σ H λx H1=>tb σ H1 λy H2=>r x y H2 Q
def Vw(r:V->Hp->VK->Prop)(ta:TE):TE:=λσ H Q=>ta σ H λx H1=>r x H1 Q
def rI(C:Int->Int->Prop)(g:Int->Int->V):R2:=λx y H Q=>∃i j,x=.int i/\y=.int j/\C i j/\Q (g i j) H
def Pu(g:Int->Int->V):R2:=λx y H Q=>∃i j,x=.int i/\y=.int j/\Q (g i j) H
def rU(g:Int->V):V->Hp->VK->Prop:=λx H Q=>∃i,x=.int i/\Q (g i) H
variable {tc:TE}
section
variable {a b c:Expr}
def Ql(ha:PE X a ta)(hb:PE X b tb){VL:List (Addr×Obj)}{s:Sd}{σ:St}{H:Hp}{R:V->V->Hp->Prop}(I:Inv X VL σ H s) (h:ta σ H λx H1=>tb σ H1 λy H2=>R x y H2) {Q:Vl->Sd->Prop} {f:Vl->Vl->Sem Vl} (hf:∀v u s2 x y H2,Inv X VL σ H2 s2->qp x v->qp y u->R x y H2->wpAny (model X.prog X.w) X.A (f v u) Q X.xe s2):
  wpAny (model X.prog X.w) X.A (eval a X.env) (λv s₁=>wpAny (model X.prog X.w) X.A (eval b X.env) (λu s₂=>wpAny (model X.prog X.w) X.A (f v u) Q X.xe s₂) X.xe s₁) X.xe s:=by
 refine rR (ha VL s σ H _ I h) λv s1 zz=>x5 zz λx H1 I1 r1 q1=>?_;refine rR (hb VL s1 σ H1 _ I1 q1) λu s2 zz=>x5 zz λy H2 I2 r2 q2=>?_;exact hf v u s2 x y H2 I2 r1 r2 q2
def Pv{op:Operator}{r:R2}(ho:wH X (binaryOp op) r)(ha:PE X a ta)(hb:PE X b tb):PE X (.BinOp a op b pos) (Sb r ta tb):=by intro VL s σ H Q I h;exact wpAny_BinOp (Ql ha hb I h λv u s2 x y H2 I2 rx ry q=>ho VL s2 σ H2 x y v u Q I2 rx ry q)
def SY{op:UnaryOp}{r:V->Hp->VK->Prop}(ho:UB X (unaryOp op) r)(ha:PE X a ta):PE X (.UnaryOp op a pos) (Vw r ta):=by intro VL s σ H Q I h;exact UnaryOp_ (rR (ha VL s σ H _ I h) λv s1 zz=>x5 zz λx H1 I1 r1 q1=>ho VL s1 σ H1 x v Q I1 r1 q1)
def UR{f:Vl->Vl->Sem Vl}{C:Int->Int->Prop}{g:Int->Int->Int} (rule:∀(i j:Int) (t u:Tok) (s:Sd) (Q:Vl->Sd->Prop) (E:Vl->Sd->Prop),C i j->Q (.int (g i j) s.toks) {s with toks:=s.toks+1}->wpAny (model X.prog X.w) X.A (f (.int i t) (.int j u)) Q E s):
  wH X f (rI C λi j=>.int (g i j)):=by
 intro VL s σ H x y v u Q I rx ry h;obtain⟨i,j,rfl,rfl,hc,q⟩:=h;obtain⟨t,rfl⟩:=rx;obtain⟨t',rfl⟩:=ry;exact rule i j t t' s _ _ hc ⟨.int (g i j),H,I.tok _,⟨_,rfl⟩,q⟩
def SJ{f:Vl->Vl->Sem Vl}{g:Int->Int->Int} (rule:∀(i j:Int) (t u:Tok) (s:Sd) (Q:Vl->Sd->Prop) (E:Vl->Sd->Prop),Q (.int (g i j) s.toks) {s with toks:=s.toks+1}->wpAny (model X.prog X.w) X.A (f (.int i t) (.int j u)) Q E s):
  wH X f (Pu λi j=>.int (g i j)):=by
 intro VL s σ H x y v u Q I rx ry h;obtain⟨i,j,rfl,rfl,q⟩:=h;obtain⟨t,rfl⟩:=rx;obtain⟨t',rfl⟩:=ry;exact rule i j t t' s _ _ ⟨.int (g i j),H,I.tok _,⟨_,rfl⟩,q⟩
def Pd{f:Vl->Vl->Sem Vl}{g:Int->Int->Bool} (rule:∀(i j:Int) (t u:Tok) (s:Sd) (Q:Vl->Sd->Prop) (E:Vl->Sd->Prop),Q (.bool (g i j)) s->wpAny (model X.prog X.w) X.A (f (.int i t) (.int j u)) Q E s):
  wH X f (Pu λi j=>.bl (g i j)):=by
 intro VL s σ H x y v u Q I rx ry h;obtain⟨i,j,rfl,rfl,q⟩:=h;obtain⟨t,rfl⟩:=rx;obtain⟨t',rfl⟩:=ry;exact rule i j t t' s _ _ ⟨.bl (g i j),H,I,rfl,q⟩
def Tp(i j:Int):Prop:=0<j/\j<1073741824
def Cp(i j:Int):Prop:=(-(2 ^ 64)<i/\i<2 ^ 64)\/(-(2 ^ 64)<j/\j<2 ^ 64)
def Cp.ok{i j:Int}(h:Cp i j):IntMulOk i j:=by
 rcases h with⟨h1,h2⟩|⟨h1,h2⟩
 .exact .of_left (intBits_le_64 h1 h2)
 .exact .of_right (intBits_le_64 h1 h2)
def RP:wH X (binaryOp .Add) (Pu λi j=>.int (i+j)):=SJ λ_ _ _ _ _ _ _ q=>add_int q
def Rn:wH X (binaryOp .Sub) (Pu λi j=>.int (i - j)):=SJ λ_ _ _ _ _ _ _ q=>sub_int q
def P9:wH X (binaryOp .Mult) (rI Cp λi j=>.int (i*j)):=UR λ_ _ _ _ _ _ _ hc q=>mul_int q hc.ok
def Ny:wH X (binaryOp .FloorDiv) (rI Tp λi j=>.int (i / j)):=UR λi j _ _ _ _ _ hc q=>by have h1:(0:Int)<j:=hc.1;have h2:j<1073741824:=hc.2;exact floordiv_int (by omega) (by rw[Int.fdiv_eq_ediv_of_nonneg i (by omega)];exact q) (.inl (PyProof.noPylong_small (by omega)))
def Rj:wH X (binaryOp .Mod) (rI (λ_ j=>0<j) λi j=>.int (i % j)):=UR λi j _ _ _ _ _ hc q=>by have h1:(0:Int)<j:=hc;exact mod_int' (by omega) (by rw[Int.fmod_eq_emod_of_nonneg i (by omega)];exact q)
def Vx{f:Vl->Sem Vl}{g:Int->Int} (rule:∀(i:Int) (t:Tok) (s:Sd) (Q:Vl->Sd->Prop) (E:Vl->Sd->Prop),Q (.int (g i) s.toks) {s with toks:=s.toks+1}->wpAny (model X.prog X.w) X.A (f (.int i t)) Q E s):
  UB X f (rU λi=>.int (g i)):=by
 intro VL s σ H x v Q I rx h;obtain⟨i,rfl,q⟩:=h;obtain⟨t,rfl⟩:=rx;exact rule i t s _ _ ⟨.int (g i),H,I.tok _,⟨_,rfl⟩,q⟩
def P4:UB X (unaryOp .USub) (rU λi=>.int (-i)):=Vx λ_ _ _ _ _ q=>neg_int q
end
section
variable {a b c:Expr}
def Gy{VL:List (Addr×Obj)}{σ:St}{H:Hp}{s:Sd}{Q:VK}{k k':Bool}(I:Inv X VL σ H s)(q:Q (.bl k) H)(e:k=k'):EP X VL σ Q (.bool k') s:=by subst e;exact⟨.bl k,H,I,rfl,q⟩
def S0:wH X (compareOp .Lt) (Pu λi j=>.bl (decide (i<j))):=Pd λ_ _ _ _ _ _ _ q=>lt_int q
def SW:wH X (compareOp .LtE) (Pu λi j=>.bl (decide (i<=j))):=Pd λ_ _ _ _ _ _ _ q=>le_int q
def Sx:wH X (compareOp .Gt) (Pu λi j=>.bl (decide (j<i))):=Pd λ_ _ _ _ _ _ _ q=>gt_int q
def Tr:wH X (compareOp .GtE) (Pu λi j=>.bl (decide (j<=i))):=Pd λ_ _ _ _ _ _ _ q=>ge_int q
def JS:wH X (compareOp .In) (λx y H Q=>∃i j,x=.str i/\y=.str j/\Q (.bl (!(Builtin.Str.occurrences j i 0 j.length 1).isEmpty)) H):=by intro VL s σ H x y v u Q I rx ry h;obtain⟨i,j,rfl,rfl,q⟩:=h;obtain⟨t,rfl⟩:=rx;obtain⟨t',rfl⟩:=ry;exact in_str (Gy I q rfl)
def Rm:wH X (compareOp .Is) (λx y H Q=>y=.mC/\Q (.bl (decide (x=.mC))) H):=by
 intro VL s σ H x y v u Q I rx ry h;obtain⟨rfl,q⟩:=h;cases ry;refine is_none_gen (Gy I q ?_);cases x<;>first
  | (cases rx;rfl)
  | (obtain⟨t,rfl⟩:=rx;rfl)
def NM:wH X (compareOp .IsNot) (λx y H Q=>y=.mC/\Q (.bl (!decide (x=.mC))) H):=by
 intro VL s σ H x y v u Q I rx ry h;obtain⟨rfl,q⟩:=h;cases ry;refine isnot_none_gen (Gy I q ?_);cases x<;>first
  | (cases rx;rfl)
  | (obtain⟨t,rfl⟩:=rx;rfl)
def GH(b:Expr){op:CmpOp}(h:op≠.In:=by decide)(h2:op≠.NotIn:=by decide):behindInMarks op b=false:=by
 have e1:(op==CmpOp.In)=false:=by cases op<;>first|rfl|exact absurd rfl h
 have e2:(op==CmpOp.NotIn)=false:=by cases op<;>first|rfl|exact absurd rfl h2
 cases b<;>simp[behindInMarks,e1,e2]
def HD{op:CmpOp}{r:R2}(ho:wH X (compareOp op) r)(ha:PE X a ta)(hb:PE X b tb)(hm:behindInMarks op b=false):PE X (.Compare a [op] [b] pos) (Sb r ta tb):=by intro VL s σ H Q I h;exact wpAny_Compare1 (Ql ha hb I h λv u s2 x y H2 I2 rx ry q=>ho VL s2 σ H2 x y v u Q I2 rx ry q) hm
def PU(t:TE):TT:=λσ H Q=>t σ H λx H'=>∃k,x=.bl k/\Q k H'
def HS{op:CmpOp}{r:R2}(ho:wH X (compareOp op) r)(ha:PE X a ta)(hb:PE X b tb)(hm:behindInMarks op b=false):PT X (.Compare a [op] [b] pos) (PU (Sb r ta tb)):=by
 intro VL s σ H Q I h;refine wpAny_isTrue_Compare1 (rR (ha VL s σ H _ I h) λv s1 zz=>x5 zz λx H1 I1 r1 q1=>rR (hb VL s1 σ H1 _ I1 q1) λu s2 zz=>x5 zz λy H2 I2 r2 q2=>
  rR (ho VL s2 σ H2 x y v u _ I2 r1 r2 q2) λc s3 zz=>?_) hm
 obtain⟨z,H3,I3,r3,k,e,q3⟩:=zz;subst e;cases r3;exact fh ⟨H3,I3,q3⟩
def Lr(r r':R2)(ta tb tc:TE):TE:=λσ H Q=>ta σ H λx H1=>tb σ H1 λy H2=>r x y H2 λz H3=>∃k,z=.bl k/\
 (if k=true then tc σ H3 λw' H4=>r' y w' H4 Q else Q (.bl false) H3)
def J2{op WE:CmpOp}{r r':R2}(ho:wH X (compareOp op) r)(Wu:wH X (compareOp WE) r')(ha:PE X a ta)(hb:PE X b tb)(hc:PE X c tc) (hm:lastMarks [op,WE] [b,c]=false:=by with_unfolding_all rfl):PE X (.Compare a [op,WE] [b,c] pos) (Lr r r' ta tb tc):=by
 intro VL s σ H Q I h;refine Compare_chain (rR (ha VL s σ H _ I h) λv s1 zz=>x5 zz λx H1 I1 r1 q1=>chain_link (rR (hb VL s1 σ H1 _ I1 q1) λu s2 zz=>x5 zz λy H2 I2 r2 q2=>
  rR (ho VL s2 σ H2 x y v u _ I2 r1 r2 q2) λd s3 zz=>?_)) hm
 obtain⟨z,H3,I3,r3,k,e,q3⟩:=zz;subst e;cases r3;refine fh ?_;cases k with
 | false=>exact ite_ff ⟨.bl false,H3,I3,rfl,q3⟩
 | true=>exact ite_tt (chain_last (rR (hc VL s3 σ H3 _ I3 q3) λw' s4 zz=>x5 zz λz' H4 I4 r4 q4=>Wu VL s4 σ H4 y z' u w' Q I4 r2 r4 q4))
def LZ{op WE:CmpOp}{r r':R2}(ho:wH X (compareOp op) r)(Wu:wH X (compareOp WE) r')(ha:PE X a ta)(hb:PE X b tb)(hc:PE X c tc) (hm:lastMarks [op,WE] [b,c]=false:=by with_unfolding_all rfl):PT X (.Compare a [op,WE] [b,c] pos) (PU (Lr r r' ta tb tc)):=by
 intro VL s σ H Q I h;refine isTrue_chain (rR (ha VL s σ H _ I h) λv s1 zz=>x5 zz λx H1 I1 r1 q1=>test_link (rR (hb VL s1 σ H1 _ I1 q1) λu s2 zz=>x5 zz λy H2 I2 r2 q2=>
  rR (ho VL s2 σ H2 x y v u _ I2 r1 r2 q2) λd s3 zz=>?_)) hm
 obtain⟨z,H3,I3,r3,k,e,q3⟩:=zz;subst e;cases r3;refine fh ?_;cases k with
 | false=>obtain⟨k',e',q'⟩:=q3;cases e';exact ite_ff ⟨H3,I3,q'⟩
 | true=>refine ite_tt (test_last (rR (hc VL s3 σ H3 _ I3 q3) λw' s4 zz=>x5 zz λz' H4 I4 r4 q4=>rR (Wu VL s4 σ H4 y z' u w' _ I4 r2 r4 q4) λd' s5 zz=>?_));obtain⟨z2,H5,I5,r5,k2,e2,q5⟩:=zz;subst e2;cases r5;exact fh ⟨H5,I5,q5⟩
def yk:(sizeLine:Nat)<2 ^ 63:=by rw[dN];decide
def GO:wH X (binaryOp .Add) (λx y H Q=>∃i j,x=.str i/\y=.str j/\i.length+j.length<=sizeLine/\Q (.str (i++j)) H):=by intro VL s σ H x y v u Q I rx ry h;obtain⟨i,j,rfl,rfl,hz,q⟩:=h;obtain⟨t,rfl⟩:=rx;obtain⟨t',rfl⟩:=ry;exact add_str (λt' tk=>⟨.str (i++j),H,I.tok _,⟨_,rfl⟩,q⟩) hz
def xV{x:V}{us:List Vl}(r:qh [x] us):∃u,us=[u]/\qp x u:=by
 cases r with
 | cons r1 r2=>cases r2;exact⟨_,rfl,r1⟩
def LY{x y:V}{us:List Vl}(r:qh [x,y] us):∃u w',us=[u,w']/\qp x u/\qp y w':=by
 cases r with
 | cons r1 r2=>
  cases r2 with
  | cons r3 r4=>cases r4;exact⟨_,_,rfl,r1,r3⟩
def IM(hc:X.calm=true):yz X (.builtin "min") (λxs H Q=>∃i j,xs=[.int i,.int j]/\Q (.int (if j<i then j else i)) H):=by
 intro VL s σ H xs us Q I r h;obtain⟨i,j,rfl,q⟩:=h;obtain⟨u,w',rfl,⟨t,rfl⟩,⟨t',rfl⟩⟩:=LY r;refine min_two_ints (I.ok.hd hc) λh' tk k=>⟨_,H,I.kept k,?_,q⟩;by_cases hj:j<i
 .rw[cY hj,cY hj];exact⟨_,rfl⟩
 .rw[cW hj,cW hj];exact⟨_,rfl⟩
end
structure GY(h:Heap)(x dx C:Addr)(mA:Str->Option Vl):Prop where
 obj:h.get? x=some (W.instObj C dx)
 ns:h.Ns1 dx mA
 ne:dx≠x
def IL{h:Heap}{dx:Addr}{mA:Str->Option Vl}(n:h.Ns1 dx mA):∃od,h.get? dx=some od/\∀name,W.lookIn name od=some (mA name):=by
 obtain⟨o,es,ep,ho,hd,hk,_,hm⟩:=n;refine⟨o,ho,λname=>?_⟩;have e:=hm name;unfold nsFind findBy at e;rw[<-kG]at e;unfold W.lookIn;rw[hd];dsimp only;split
 .rename_i y q;rw[q]at e;exact eQ some e
 .rename_i q;rw[q]at e;have a:es.toList.any (·.refKey)=false:=by rw[kX];intro y hy;obtain⟨z,t,hkey⟩:=hk y (j4.mp hy);simp[DictEntry.refKey,hkey]
  have a':¬es.toList.any (·.refKey)=true:=by rw[a];exact dw
  rw[cW a'];exact eQ some e
def GY.look{h:Heap}{x dx C:Addr}{mA:Str->Option Vl}(I:GY h x dx C mA):∃od,W.InstAt h x (W.instObj C dx) C (some od)/\∀name,W.lookIn name od=some (mA name):=
 let⟨od,ho,hl⟩:=IL I.ns
 ⟨od,⟨I.obj,rfl,rfl,ho⟩,hl⟩
variable {prog:Pg}{A:Ar}{K:pU}{dx C:Addr}{mA:Str→Option Vl}{name:Str}
section
variable {w:Wo}{E:Vl→Sd→Prop}{x f:Addr}{v:Vl}
def NR{YB:Bool}{Q:Vl->Sd->Prop}(X:K.In s.heap)(I:GY s.heap x dx C mA)(hg:W.plainGet K C name=true)(hh:W.hasDictIn K C=true) (ha:W.findIn K (.ref C) name=some none) (hv:mA name=some v) (hv':W.handedIn v=true) (h:Q v {s with toks:=s.toks+1}):
  wpAny (model prog w) A (getAttr (.ref x) name YB) Q E s:=by
 obtain⟨od,J,hl⟩:=I.look;exact W.get_value X J (kc hg).1 (W.findObj_own hh ha rfl (by rw[hl,hv])) hv' h
def LP{pl:Sem Bool}{Q:Vl×List Vl->Sd->Prop}(X:K.In s.heap)(I:GY s.heap x dx C mA)(hg:W.plainGet K C name=true) (hf:W.findIn K (.ref C) name=some (some (.ref f))) (ht:W.isFn K (.ref f)=true) (hv:mA name=none) (h:Q (.ref f,[.ref x]) s):
  wpAny (model prog w) A (getMethod (.ref x) name pl) Q E s:=by
 obtain⟨od,J,hl⟩:=I.look;exact W.method_fn X J (kc hg).1 (kc hg).2 hf (fk.mp ht) (by show(W.lookIn name od).map (·.isSome)=some false;rw[hl,hv];rfl) h
def NF{ns:List Str}{Q:Unit->Sd->Prop}(X:K.In s.heap)(I:GY s.heap x dx C mA) (hs:W.findIn K (.ref C) "__setattr__"=some (some (.builtin "object.__setattr__"))) (hp:W.plainOver K C=true) (ht:W.takerIn K C name=some none) (hh:W.hasDictIn K C=true) (hw:PySem.Within mA ns) (hsz:ns.length<=sizeLine) (h:∀h',GY h' x dx C (λy=>if y=name then some v else mA y)->Heap.SameBut dx s.heap h'->Q () {s with heap:=h',toks:=s.toks+2}):
  wpAny (model prog w) A (setAttr (.ref x) name v) Q E s:=by
 obtain⟨od,J,hl⟩:=I.look;refine W.set_plain X J hs (W.osa_open (s:={s with toks:=s.toks+1}) (r:=none) X J hp ht λb=>?_);obtain⟨cd,hc,hd'⟩:=W.any_some hh;have hx:s.heap.get? x=some ⟨.ref C,some dx,.plain,#[]⟩:=I.obj;refine cS (cZ (cS (cS (wpAny_loadPart hx (cS (lY (s:={s with toks:=s.toks+1}) (ke X hc) ?_))))));rw[hd'];refine cZ (a:=some dx) (cS (cZ (cS ?_)));refine wpAny_nsSet1 (s:={s with toks:=s.toks+1}) I.ns λh' YC Xu=>?_;obtain⟨oD,esD,epD,hoD,FC,hcD⟩:=YC.count (PySem.Within.cons name v hw);refine cS (lB hoD (by rw[FC];exact lC (dX hcD (by rw[dY];omega))) ?_);exact cZ (h _ ⟨(Xu.2 _ (dM I.ne)).trans I.obj,YC,I.ne⟩ Xu)
def J6{R:Result->Sd->Prop}{vs:List Vl}{kw:List (Str×Vl)}(X:K.In s.heap)(hm:W.makesIn K C=true) (hi:W.findIn K (.ref C) "__init__"=some (some (.ref f))) (hf:W.typeIn K (.ref f)=some (.type "function")) (h:codeAny (model prog w) (A.under (.builtin "type.__call__" ⟨.ref C::vs,kw⟩)) (.call (.ref f) ⟨.ref (s.heap.objs.size+1)::vs,kw⟩) (W.InitBack (s.heap.objs.size+1) R) {s with heap:=(s.heap.push W.emptyDict).push (W.instObj C s.heap.objs.size)}):
  codeAny (model prog w) A (.call (.ref C) ⟨vs,kw⟩) R s:=by
 obtain⟨hh,g,d,t,os⟩:=s;exact W.make_core (W.makes_of X hm) (iU X hi) (λself=>W.bind_fn X self hf) (.inl rfl) h
end
def uZ(f:Str)(v:V):List (Str×V)->List (Str×V)
 | []=>[(f,v)]
 | (g,x)::r=>if g=f then(g,v)::r else(g,x)::uZ f v r
theorem zQ(f g:Str)(v:V):∀fs:List (Str×V),(uZ f v fs).lookup g=if g=f then some v else fs.lookup g
 | []=>by
  show List.lookup g [(f,v)]=_;by_cases h:g=f
  .have hb:(g==f)=true:=fk.mpr h;simp only[List.lookup,hb,cY h]
  .have hb:(g==f)=false:=fX.mpr h;simp only[List.lookup,hb,cW h]
 | (k,x)::r=>by
  have ih:=zQ f g v r;rw[show uZ f v ((k,x)::r)=(if k=f then(k,v)::r else(k,x)::uZ f v r)from rfl];by_cases hk:k=f
  .rw[cY hk];by_cases h:g=k
   .have hb:(g==k)=true:=fk.mpr h;simp only[List.lookup,hb,cY (h.trans hk)]
   .have hb:(g==k)=false:=fX.mpr h;simp only[List.lookup,hb,cW (λe:g=f=>h (e.trans hk.symm))]
  .rw[cW hk];by_cases h:g=k
   .have hb:(g==k)=true:=fk.mpr h;simp only[List.lookup,hb,cW (λe:g=f=>hk (h.symm.trans e))]
   .have hb:(g==k)=false:=fX.mpr h;simp only[List.lookup,hb];exact ih
theorem zu(f:Str)(v:V):∀fs:List (Str×V),f∈(uZ f v fs).map (·.1)/\∀g,g∈fs.map (·.1)->g∈(uZ f v fs).map (·.1)
 | []=>⟨by simp[uZ],λg h=>by simp at h⟩
 | (k,x)::r=>by
  obtain⟨i1,i2⟩:=zu f v r;rw[show uZ f v ((k,x)::r)=(if k=f then(k,v)::r else(k,x)::uZ f v r)from rfl];by_cases hk:k=f
  .rw[cY hk];subst hk;exact⟨by simp,λg h=>by simpa using h⟩
  .rw[cW hk];refine⟨?_,λg h=>?_⟩
   .rw[dR];exact dC _ i1
   .rw[dR]at h ⊢;rcases c9.mp h with e|e
    .exact c9.mpr (.inl e)
    .exact dC _ (i2 g e)
theorem zJ(f:Str)(v:V):∀fs:List (Str×V),(uZ f v fs).length<=fs.length+1
 | []=>by simp[uZ]
 | (k,x)::r=>by
  have ih:=zJ f v r;rw[show uZ f v ((k,x)::r)=(if k=f then(k,v)::r else(k,x)::uZ f v r)from rfl];by_cases hk:k=f
  .rw[cY hk,dY,dY];omega
  .rw[cW hk,dY,dY];omega
def xQ.some_of{v:V}{o:Option Vl}(r:xQ (some v) o):∃u,o=some u/\qp v u:=by
 cases o with
 | none=>exact(show False from r).elim
 | some u=>exact⟨u,rfl,r⟩
def xQ.none_of{o:Option Vl}(r:xQ none o):o=none:=by
 cases o with
 | none=>rfl
 | some u=>exact(show False from r).elim
def IK{v:V}{u:Vl}(r:qp v u):W.handedIn u=true:=by
 cases v with
 | mC=>cases(show u=Value.none from r);rfl
 | bl b=>cases(show u=Value.bool b from r);rfl
 | int i=>obtain⟨t,e⟩:=(show ∃t,u=Value.int i t from r);cases e;rfl
 | str x=>obtain⟨t,e⟩:=(show ∃t,u=Value.str x t from r);cases e;rfl
 | byt b=>obtain⟨t,e⟩:=(show ∃t,u=Value.bytes b t from r);cases e;rfl
 | flt b=>obtain⟨t,e⟩:=(show ∃t,u=Value.float b t from r);cases e;rfl
 | ref a=>cases(show u=Value.ref a from r);rfl
 | ty n=>cases(show u=Value.type n from r);rfl
section
variable {P:Pg}{w:Wo}{a:Addr}{fs fs':List (Str × V)}
def AE(mG:xN P w H h)(e:H a=some (.ins C dx fs)):∃mA,GY h a dx C mA/\(∀f,xQ (fs.lookup f) (mA f))/\PySem.Within mA (fs.map (·.1))/\fs.length<=1000/\H dx=some (.own a):=by obtain⟨d,z,ne,ob,mA,n,r,q⟩:=(show rK P w H h a (.ins C dx fs)from mG a _ e);exact⟨mA,⟨ob,n,ne⟩,r,q,z,d⟩
end
structure Cls(K:pU)(C:Addr):Prop where
 pg:W.plainGet K C Str.empty=true
 hd:W.hasDictIn K C=true
 po:W.plainOver K C=true
 sa:W.findIn K (.ref C) "__setattr__"=some (some (.builtin "object.__setattr__"))
def Cls.get{K:pU}{C:Addr}(c:Cls K C)(f:Str):W.plainGet K C f=true:=c.pg
def tG(K:pU)(C:Addr)(f:Str):Prop:=W.findIn K (.ref C) f=some none
def tG.ow{K:pU}{C:Addr}{f:Str}(n:tG K C f):W.takerIn K C f=some none:=by unfold W.takerIn;rw[show W.findIn K (.ref C) f=some none from n];rfl
structure VJ(K:pU)(C:Addr)(f:Str)(v:V)(u:Vl):Prop where
 at_:W.findIn K (.ref C) f=some (some u)
 rel:qp v u
 get:W.specialIn K u "__get__"=some none
 cp:W.copiedNames.contains f=false
structure uY(K:pU)(C:Addr)(m:Str)(f:Addr):Prop where
 at_:W.findIn K (.ref C) m=some (some (.ref f))
 fn:W.isFn K (.ref f)=true
 kp:W.keepIn K (.ref f)=true
section
variable {σ:St}{a:Addr}{fs:List (Str × V)}{f:Str}{v:V}{E:Vl→Sd→Prop}
def Bq{b:Bool}{Q:Vl->Sd->Prop}(I:Inv X VL σ H s)(e:H a=some (.ins C dx fs))(c:Cls X.K C)(n:tG X.K C f)(l:fs.lookup f=some v) (h:∀u s',Inv X VL σ H s'->qp v u->Q u s'):wpAny (model X.prog X.w) A (getAttr (.ref a) f b) Q E s:=by
 obtain⟨mA,O,r,_,_,_⟩:=AE I.mG e;obtain⟨u,hu,ru⟩:=xQ.some_of (v:=v) (o:=mA f) (by rw[<-l];exact r f);exact NR I.mR O (c.get f) c.hd n hu (IK ru) (h u _ (I.tok _) ru)
def AX{m:Str}{g:Addr}{pl:Sem Bool}{Q:Vl×List Vl->Sd->Prop}(I:Inv X VL σ H s)(e:H a=some (.ins C dx fs))(c:Cls X.K C)(k:uY X.K C m g)(l:fs.lookup m=none) (h:Q (.ref g,[.ref a]) s):wpAny (model X.prog X.w) A (getMethod (.ref a) m pl) Q E s:=by
 obtain⟨mA,O,r,_,_,_⟩:=AE I.mG e;have hn:mA m=none:=xQ.none_of (by rw[<-l];exact r m);exact LP I.mR O (c.get m) k.at_ k.fn hn h
def BH{y:V}{u:Vl}{Q:Unit->Sd->Prop}(I:Inv X VL σ H s)(e:H a=some (.ins C dx fs))(c:Cls X.K C)(n:tG X.K C f)(hl:fs.length<1000)(ry:qp y u) (h:∀s',Inv X VL σ (upd H a (.ins C dx (uZ f y fs))) s'->Q () s'):wpAny (model X.prog X.w) A (setAttr (.ref a) f u) Q E s:=by
 obtain⟨mA,O,r,wi,_,ho⟩:=AE I.mG e;have hz:(fs.map (·.1)).length<=sizeLine:=by rw[cR,dN];omega
 refine NF I.mR O c.sa c.po n.ow c.hd wi hz λh' O' sb=>h _ ?_;have hd:∃o,h'.get? dx=some o:=let⟨o,_,_,e',_⟩:=O'.ns;⟨o,e'⟩;refine I.write (x:=a) (e:=dx) (by rw[e];exact True.intro) (.inr ho) (λb q hb z=>(sb.2 b hb).trans z) hd ?_;refine⟨by rw[pF O.ne];exact ho,?_,O.ne,O'.obj,_,O'.ns,λg=>?_,λg hg=>?_⟩
 .have:=zJ f y fs;omega
 .show xQ ((uZ f y fs).lookup g) (if g=f then some u else mA g);rw[zQ];by_cases q:g=f
  .rw[cY q,cY q];exact ry
  .rw[cW q,cW q];exact r g
 .by_cases q:g=f
  .rw[q];exact(zu f y fs).1
  .refine(zu f y fs).2 g (wi g λz=>hg ?_);show(if g=f then some u else mA g)=none;rw[cW q];exact z
def Inv.made(I:Inv X VL σ H s):Inv X VL σ (upd (upd H s.heap.objs.size (.own (s.heap.objs.size+1))) (s.heap.objs.size+1) (.ins C s.heap.objs.size [])) {s with heap:=(s.heap.push W.emptyDict).push (W.instObj C s.heap.objs.size)}:=by
 have e1:(s.heap.push W.emptyDict).get? s.heap.objs.size=some W.emptyDict:=dF s.heap rfl;have e2:((s.heap.push W.emptyDict).push (W.instObj C s.heap.objs.size)).get? (s.heap.objs.size+1)=some (W.instObj C s.heap.objs.size):=by
  have:=dF (s.heap.push W.emptyDict) (o:=W.instObj C s.heap.objs.size) rfl
  rwa [fm]at this
 have e3:(s.heap.push W.emptyDict).Ns s.heap.objs.size (λ_=>none):=⟨W.emptyDict,#[],_,e1,rfl,(λe he=>absurd he (by simp)),λ_=>rfl⟩;have I1:=I.laid (a:=s.heap.objs.size) (o:=.own (s.heap.objs.size+1)) (h':=s.heap.push W.emptyDict) (t':=s.toks) (λb u q=>cX _ q) (de _) ⟨_,e1⟩;refine I1.laid (a:=s.heap.objs.size+1) (o:=.ins C s.heap.objs.size []) (t':=s.toks) (λb u q=>cX _ q) (lZ (fm _ _)) ?_;have ne:s.heap.objs.size≠s.heap.objs.size+1:=dG (fA _);refine⟨by rw[pF ne,pM],eZ _,ne,e2,λ_=>none,(kY e3).at λo q=>cX _ q,λ_=>True.intro,λy hy=>absurd rfl hy⟩
def Hm{prog:Pg}{w:Wo}{env:Env}{e:Expr}{f:Str}{pos:Pos}{s:Sd}{Q:Vl->Sd->Prop}(hb:attributeBase e f env (eval e env)=eval e env) (h:wpAny (model prog w) A (eval e env) (λo s₁=>wpAny (model prog w) A (getAttr o f true) Q E s₁) E s):wpAny (model prog w) A (eval (.Attribute e f pos) env) Q E s:=
 Attribute_any_ h (by rw[arm_eval_Attribute,hb])
end
def Ug(K:pU)(ta:TE)(f:Str):TE:=λσ H Q=>ta σ H λx H1=>∃a C dx fs v,x=.ref a/\H1 a=some (.ins C dx fs)/\Cls K C/\tG K C f/\fs.lookup f=some v/\Q v H1
def Va(K:pU)(ta tv:TE)(f:Str):TS:=λD σ H=>tv σ H λy H1=>ta σ H1 λx H2=>∃a C dx fs,x=.ref a/\H2 a=some (.ins C dx fs)/\Cls K C/\tG K C f/\fs.length<1000/\
 D.nx σ (upd H2 a (.ins C dx (uZ f y fs)))
def Nk(X:Cx)(op:Operator)(rd:V->V->Hp->VK->Prop):Prop:=
 ∀(VL:List (Addr×Obj)) (s:Sd) (σ:St) (H:Hp) (x y:V) (u v:Vl) (Q:VK),Inv X VL σ H s->qp x u->qp y v->rd x y H Q->wpAny (model X.prog X.w) X.A (inplaceOp op u v) (EP X VL σ Q) X.xe s
def Nj(K:pU)(ta tv:TE)(rd:V->V->Hp->VK->Prop)(f:Str):TS:=λD σ H=>ta σ H λx H1=>∃a C dx fs v,x=.ref a/\H1 a=some (.ins C dx fs)/\Cls K C/\tG K C f/\fs.lookup f=some v/\
 tv σ H1 λy H2=>rd v y H2 λz H3=>∃YD fs',H3 a=some (.ins C YD fs')/\fs'.length<1000/\D.nx σ (upd H3 a (.ins C YD (uZ f z fs')))
variable {value:Expr}{VU X0:Pos}{tv:TE}
section
variable {o e:Expr}{f:Str}
def QA(he:PE X e ta)(hb:attributeBase e f X.env (eval e X.env)=eval e X.env):PE X (.Attribute e f pos) (Ug X.K ta f):=by intro VL s σ H Q I h;refine Hm hb (rR (he VL s σ H _ I h) λu s1 zz=>?_);obtain⟨x,H1,I1,rx,a,C,dx,fs,v,ex,ea,c,n,l,q⟩:=zz;subst ex;obtain rfl:u=Value.ref a:=rx;exact Bq I1 ea c n l λu' s2 I2 ru=>⟨v,H1,I2,ru,q⟩
def RS(ha:PE X o ta)(hv:PE X value tv)(hs:swapsWith value (some (.Attribute o f VU)) pos.line X.env=pure false):PS X (.Assign [.Attribute o f VU] value pos) (Va X.K ta tv f):=by intro VL s σ H D I h;refine iE (rR (hv VL s σ H _ I h) λu s1 zz=>x5 zz λy H1 I1 ry q=>rR (ha VL s1 σ H1 _ I1 q) λov s2 zz=>?_) hs;obtain⟨x,H2,I2,rx,a,C,dx,fs,ex,ea,c,n,l,q2⟩:=zz;subst ex;obtain rfl:ov=Value.ref a:=rx;exact BH I2 ea c n l ry λs3 I3=>⟨σ,_,I3,q2⟩
def Jm{op:Operator}{rd:V->V->Hp->VK->Prop}(ha:PE X o ta)(hv:PE X value tv)(hop:Nk X op rd):PS X (.AugAssign (.Attribute o f X0) op value pos) (Nj X.K ta tv rd f):=by intro VL s σ H D I h;refine wpAny_AugAssign_AttributeAny (rR (ha VL s σ H _ I h) λov s1 zz=>?_);obtain⟨x,H1,I1,rx,a,C,dx,fs,v,ex,ea,c,n,l,q⟩:=zz;subst ex;obtain rfl:ov=Value.ref a:=rx;refine Bq I1 ea c n l λu s2 I2 ru=>rR (hv VL s2 σ H1 _ I2 q) λw3 s3 zz=>x5 zz λy H2 I3 ry q3=>rR (hop VL s3 σ H2 v y u w3 _ I3 ru ry q3) λw4 s4 zz=>?_;obtain⟨z,H3,I4,rz,YD,fs',ea',l',q4⟩:=zz;exact BH I4 ea' c n l' rz λs5 I5=>⟨σ,_,I5,q4⟩
def UP:V->V->Hp->VK->Prop:=λx y H Q=>∃i j,x=.int i/\y=.int j/\Q (.int (i+j)) H
def UI:V->V->Hp->VK->Prop:=λx y H Q=>∃i j,x=.int i/\y=.int j/\Q (.int (i - j)) H
def RJ:Nk X .Add UP:=by
 rintro VL s σ H x y u v Q I rx ry ⟨i,j,rfl,rfl,q⟩
 obtain⟨t,rfl⟩:=(show ∃t,u=Value.int i t from rx);obtain⟨t',rfl⟩:=(show ∃t',v=Value.int j t' from ry);exact PyProof.Rows.iadd_int ⟨.int (i+j),H,I.tok _,⟨_,rfl⟩,q⟩
def Qj:Nk X .Sub UI:=by
 rintro VL s σ H x y u v Q I rx ry ⟨i,j,rfl,rfl,q⟩
 obtain⟨t,rfl⟩:=(show ∃t,u=Value.int i t from rx);obtain⟨t',rfl⟩:=(show ∃t',v=Value.int j t' from ry);exact PyProof.Rows.isub_int ⟨.int (i - j),H,I.tok _,⟨_,rfl⟩,q⟩
end
variable {Q:Vl→Sd→Prop}
section
variable {σ:St}{E:Vl→Sd→Prop}{c:Vl}{b:Bool}
inductive Al(K:pU)(H:Hp):V->Vl->Prop where
 | mC:Al K H .mC (.type "NoneType")
 | bl (x:Bool):Al K H (.bl x) (.type "bool")
 | int (i:Int):Al K H (.int i) (.type "int")
 | str (x:Str):Al K H (.str x) (.type "str")
 | flt (x:UInt64):Al K H (.flt x) (.type "float")
 | lst {a:Addr} {xs:List V} (e:H a=some (.lst xs)):Al K H (.ref a) (.type "list")
 | frz {a:Addr} {o:Obj} {xs:List V} (e:H a=some (.frz o (.lst xs))):Al K H (.ref a) (.type "list")
 | tup {a:Addr} {xs:List V} (e:H a=some (.tup xs)):Al K H (.ref a) (.type "tuple")
 | dK {a:Addr} {kvs:List (qK×V)} (e:H a=some (.dK kvs)):Al K H (.ref a) (.type "dict")
 | dT {a:Addr} {kvs:List (List qK×V)} (e:H a=some (.dT kvs)):Al K H (.ref a) (.type "dict")
 | ins {a C dx:Addr} {fs:List (Str×V)} (e:H a=some (.ins C dx fs)) (cl:Cls K C) (ha:W.findIn K (.ref C) "__class__"=some (some (.builtin "object.__class__")))
   (hn:W.specialIn K (.builtin "object.__class__") "__get__"=some (some (.builtin "getset_descriptor.__get__"))) (htk:W.takesIn K (.builtin "object.__class__")=some true)
   (hm:W.mroIn K C (.type "object")=some true):Al K H (.ref a) (.ref C)
def ug{x:V}{u t:Vl}(I:Inv X VL σ H s)(rx:qp x u)(ty:Al X.K H x t)(e:W.kitOne X.K t c=some b)(h:∀tk,Q (.bool b) {s with toks:=tk}):
  wpAny (model X.prog X.w) A (call (.builtin "isinstance") [u,c]) Q E s:=by
 cases ty with
 | mC=>cases(show u=Value.none from rx);exact gm W.kitx_none I.mR True.intro e (λz=>nomatch z) h
 | bl y=>cases(show u=Value.bool y from rx);exact gm W.kitx_bool I.mR True.intro e (λz=>nomatch z) h
 | int i=>obtain⟨t,q⟩:=(show ∃t,u=Value.int i t from rx);cases q;exact gm W.kitx_int I.mR True.intro e (λz=>nomatch z) h
 | str y=>obtain⟨t,q⟩:=(show ∃t,u=Value.str y t from rx);cases q;exact gm W.kitx_str I.mR True.intro e (λz=>nomatch z) h
 | flt y=>obtain⟨t,q⟩:=(show ∃t,u=Value.float y t from rx);cases q;exact gm W.kitx_float I.mR True.intro e (λz=>nomatch z) h
 | @lst a xs ea=>cases(show u=Value.ref a from rx);obtain⟨_,_,n,_,h1⟩:=(show rK X.prog X.w H s.heap a (.lst xs)from I.mG a _ ea);exact gm lu I.mR ⟨_,h1,rfl⟩ e (λz=>nomatch z) h
 | @frz a ob xs ea=>cases(show u=Value.ref a from rx);obtain⟨_,_,_,n,_,h1⟩:=(show rK X.prog X.w H s.heap a (.frz ob (.lst xs))from I.mG a _ ea);exact gm lu I.mR ⟨_,h1,rfl⟩ e (λz=>nomatch z) h
 | @tup a xs ea=>cases(show u=Value.ref a from rx);obtain⟨_,_,_,p⟩:=(show rK X.prog X.w H s.heap a (.tup xs)from I.mG a _ ea);obtain⟨o,h1,h2,_⟩:=p;exact gm W.kitx_tuple I.mR ⟨o,h1,h2⟩ e (λz=>nomatch z) h
 | @dK a kvs ea=>cases(show u=Value.ref a from rx);obtain⟨_,_,vs,_,p⟩:=(show rK X.prog X.w H s.heap a (.dK kvs)from I.mG a _ ea);obtain⟨o,es,ep,h1,h2,_⟩:=p;exact gm W.kitx_dict I.mR ⟨o,h1,h2.1⟩ e (λz=>nomatch z) h
 | @dT a kvs ea=>cases(show u=Value.ref a from rx);obtain⟨_,_,xs,_,o,es,ep,h1,h2,_⟩:=(show rK X.prog X.w H s.heap a (.dT kvs)from I.mG a _ ea);exact gm W.kitx_dict I.mR ⟨o,h1,h2.1⟩ e (λz=>nomatch z) h
 | @ins a C dx fs ea cl ha hn htk hm=>cases(show u=Value.ref a from rx);obtain⟨mA,O,_⟩:=AE I.mG ea;obtain⟨od,J,_⟩:=O.look;exact gm (W.kitx_own (cl.get _) cl.hd ha hn htk hm) I.mR J e (λz=>nomatch z) h
end
structure rB(k:Nat)(A:Ar):Prop where
 hd:A.handled=none
 dp:A.depth+3*k+5<recursionLimit
 un:A.units+16*k+200<cLine
def rB.mono{j k:Nat}{A:Ar}(r:rB k A)(h:j<=k):rB j A:=⟨r.hd,by have:=r.dp;omega,by have:=r.un;omega⟩
def rB.deeper{k:Nat}{A:Ar}(r:rB (k+1) A)(env:Env):rB k (A.deeper env):=
 ⟨r.hd,by have:=r.dp;show A.depth+1+3*k+5<_;omega,by have:=r.un;show A.units+3+16*k+200<_;omega⟩
def Gu{A:Ar}{C:Addr}{us:List Vl}{kw:List (Str×Vl)}:(A.under (.builtin "type.__call__" ⟨.ref C::us,kw⟩)).depth=A.depth+1:=by first|rfl|simp[Around.under,Code.weight,Code.isCreation,Code.isGuard,Code.isCaller,Code.frames,Code.isFrame,guardIds]
def GZ{A:Ar}{C:Addr}{us:List Vl}{kw:List (Str×Vl)}:(A.under (.builtin "type.__call__" ⟨.ref C::us,kw⟩)).units=A.units+1:=by first|rfl|simp[Around.under,Code.cUnits,Code.frames,Code.isFrame]
def rB.make{k:Nat}{A:Ar}(r:rB (k+1) A)(C:Addr)(us:List Vl)(kw:List (Str×Vl)):rB k (A.under (.builtin "type.__call__" ⟨.ref C::us,kw⟩)):=
 ⟨r.hd,by have:=r.dp;rw[Gu];omega,by have:=r.un;rw[GZ];omega⟩
def rB.depth{k:Nat}{A:Ar}(r:rB k A):A.depth<recursionLimit:=by have:=r.dp;omega
def rB.units{k:Nat}{A:Ar}(r:rB k A):A.units+64<cLine:=by have:=r.un;omega
def SV:TA:=λ_ H Q=>Q [] H
def SC(ta:TE)(tr:TA):TA:=λσ H Q=>ta σ H λx H1=>tr σ H1 λxs H2=>Q (x::xs) H2
variable {es:List Expr}
section
variable {e:Expr}{t:TA}
def QB:PA X [] SV:=λ_ _ _ _ H Q I h=>jh ⟨[],H,I,.nil,h⟩
def Nq(ha:PE X e te)(hr:PA X es t)(hs:Az X e es:=by rfl):PA X (e::es) (SC te t):=by intro pos VL s σ H Q I h;rw[hs];show wpAny _ _ (spliced ((false,eval e X.env)::backTo pos (starEach es X.env))) _ _ s;refine ja (rR (ha VL s σ H _ I h) λu s1 zz=>x5 zz λx H1 I1 r1 q1=>?_);exact rR (hr pos VL s1 σ H1 _ I1 q1) λus s2 zz=>x5 zz λxs H2 I2 r2 q2=>⟨x::xs,H2,I2,.cons r1 r2,q2⟩
def UG(t:TA):TE:=λσ H Q=>t σ H λxs H1=>xs.length<=sizeLine/\∀p,H1 p=none->Q (.ref p) (upd H1 p (.tup xs))
def Ud(t:TA):TE:=λσ H Q=>t σ H λxs H1=>xs.length<=sizeLine/\∀p,H1 p=none->Q (.ref p) (upd H1 p (.lst xs))
def QL{x1}(h:PA X es t):PE X (.Tuple es x1 pos) (UG t):=by intro VL s σ H Q I hq;refine wpAny_Tuple_spliced (rR (h pos VL s σ H _ I hq) λus s1 ⟨xs,H1,I1,r,z,q⟩=>⟨by rw[<-r.length];exact z,?_⟩);have hf:H1 s1.heap.objs.size=none:=I1.mG.fresh (de _);refine⟨.ref s1.heap.objs.size,upd H1 s1.heap.objs.size (.tup xs),I1.laid (t':=s1.toks) (λb u e=>cX _ e) (de _) ?_,rfl,q _ hf⟩;exact⟨z,us,r,⟨_,dF _ rfl,rfl,⟨_,rfl⟩,rfl⟩⟩
def Q7(h:PA X es t):PE X (.List es pos) (Ud t):=by intro VL s σ H Q I hq;refine wpAny_List_spliced (rR (h pos VL s σ H _ I hq) λus s1 ⟨xs,H1,I1,r,z,q⟩=>⟨by rw[<-r.length];exact z,?_⟩);have hf:H1 s1.heap.objs.size=none:=I1.mG.fresh (de _);refine⟨.ref s1.heap.objs.size,upd H1 s1.heap.objs.size (.lst xs),I1.laid (t':=s1.toks) (λb u e=>cX _ e) (de _) ?_,rfl,q _ hf⟩;exact⟨z,us,0,r,dF _ rfl⟩
end
abbrev Sp:=List V->Hp->VK->XK->Prop
abbrev JY:=List Env->Hp->Sd->XK->Vl->Sd->Prop
structure Gr(P:Pg)(w:Wo)(K:pU)(mg:Str->Option Vl)(base:Heap)(A:Ar)(outer:List Env)(s:Sd)(H:Hp):Prop where
 frames:A.frames=some outer
 mod:Mod K mg base
 bs:∀b o,base.get? b=some o->s.heap.get? b=some o/\H b=none
 nN:base.objs.size<=s.heap.objs.size
 mZ:s.heap.FunFrames base outer
 nS:∀b∈vC outer,H b=none
 mG:xN P w H s.heap
 bare:AllBare s.gens
def CE(outer:List Env)(P:Pg)(w:Wo)(H:Hp)(s:Sd)(Q:VK)(u:Vl)(s':Sd):Prop:=
 ∃v H',s'.os=s.os/\AllBare s'.gens/\Un (vC outer) [] H H' s.heap s'.heap/\xN P w H' s'.heap/\qp v u/\Q v H'
def CR(CX:JY)(outer:List Env)(P:Pg)(w:Wo)(H:Hp)(s:Sd)(Q:VK)(E:XK)(r:Result)(s':Sd):Prop:=
 match r with
 | .ok (.ret u)=>CE outer P w H s Q u s'
 | .ok _=>False
 | .error e=>CX outer H s E e s'
structure wD(P:Pg)(w:Wo)(K:pU)(mg:Str->Option Vl)(base:Heap)(CX:JY)(k:Nat)(f:Addr)(fd:FuncData)(ps:List Str)(sp:Sp):Prop where
 len:∀vs H Q E,sp vs H Q E->vs.length=ps.length
 run:∀(A:Ar) (outer:List Env) (s:Sd) (H:Hp) (args:Args) (us:List Vl) (vs:List V) (Q:VK) (E:XK),rB k A->Gr P w K mg base A outer s H->BindsTo s fd args (ps.zip us)->qh vs us->sp vs H Q E->
  codeAny (model P w) A (.call (.ref f) args) (CR CX outer P w H s Q E) s
def Gr.make{P:Pg}{w:Wo}{K:pU}{mg:Str->Option Vl}{base:Heap}{A:Ar}{outer:List Env}{s:Sd}{H:Hp}(e:Gr P w K mg base A outer s H)(C:Addr)(us:List Vl)(kw:List (Str×Vl)):
  Gr P w K mg base (A.under (.builtin "type.__call__" ⟨.ref C::us,kw⟩)) outer s H:=⟨by first|exact e.frames|(simpa [Around.under,Code.envs,Code.isFrame,pushEnvs]using e.frames),e.mod,e.bs,e.nN,e.mZ,e.nS,e.mG,e.bare⟩
variable {s':Sd}
section
variable {σ:St}
def Inv.nP(I:Inv X VL σ H s):Gr X.prog X.w X.K X.mg X.base X.A X.stack s H:=
 ⟨I.ok.frames,I.ok.mod,I.bs,dX I.ok.nN I.sz,I.stack,I.nq,I.mG,I.bare⟩
def Inv.after{Q:VK}{u:Vl}(I:Inv X VL σ H s)(h:CE X.stack X.prog X.w H s Q u s'):EP X VL σ Q u s':=by obtain⟨v,H',os,bare,un,mG,r,q⟩:=h;obtain⟨hh,g,d,t,YE⟩:=s';obtain rfl:YE=s.os:=os;exact⟨v,H',I.call (h':=hh) (g':=g) (d':=d) (t':=t) (ch:=[]) un mG bare (λb z=>absurd z (by simp)),r,q⟩
end
def Tx(sp:Sp)(WC:List V)(E:XK)(t:TA):TE:=λσ H Q=>t σ H λvs H1=>sp (vs++WC) H1 Q E
def TL(C:Addr)(sp:Sp)(WC:List V)(E:XK)(t:TA):TE:=λσ H Q=>t σ H λvs H1=>∀x dx,H1 x=none->H1 dx=none->dx≠x->
 sp (.ref x::(vs++WC)) (upd (upd H1 dx (.own x)) x (.ins C dx [])) (λv H2=>v=.mC/\Q (.ref x) H2) E
def ut(K:pU)(fd:FuncData)(ps:List Str)(ds:List Vl):Prop:=
 ∀(s:Sd) (us:List Vl),K.In s.heap->(us++ds).length=ps.length->BindsTo s fd ⟨us,[]⟩ (ps.zip (us++ds))
def ut.all{K:pU}{fd:FuncData}{ps:List Str}(h:∀us:List Vl,us.length=ps.length->bindArgs fd ⟨us,[]⟩=pure (ps.zip us)):ut K fd ps []:=λs us _ hl=>by rw[eM]at hl ⊢;exact .of_eq (h us hl)
def BS(CX:JY)(X:Cx)(E:XK):Prop:=∀(VL:List (Addr×Obj)) (σ:St) (H:Hp) (s:Sd) (e:Vl) (s':Sd),Inv X VL σ H s->CX X.stack H s E e s'->X.xe e s'
variable {CX:JY}{k:Nat}{fd:FuncData}{ps:List Str}{sp:Sp}{WC:List V}{ds:List Vl}{m:Str}{p VO:Pos}
section
variable {f:Addr}{E:XK}{x:Str}{e o:Expr}{t:TA}
def EW{VL:List (Addr×Obj)}{σ:St}{H:Hp}{s:Sd}{Q:VK}{us:List Vl}{vs:List V}(F:wD X.prog X.w X.K X.mg X.base CX k f fd ps sp)(hr:rB k X.A)(hb:ut X.K fd ps ds)(hd:qh WC ds)(hx:BS CX X E) (I:Inv X VL σ H s) (r:qh vs us) (h:sp (vs++WC) H Q E):wpAny (model X.prog X.w) X.A (call (.ref f) us) (EP X VL σ Q) X.xe s:=by
 have r2:qh (vs++WC) (us++ds):=r.append hd;have hl:(us++ds).length=ps.length:=by rw[<-r2.length];exact F.len _ _ _ _ h
 refine ia (gj (F.run X.A X.stack s H ⟨us,[]⟩ (us++ds) (vs++WC) Q E hr I.nP (hb s us I.mR hl) r2 h) λr s' hq=>?_);cases r with
 | error e=>exact hx VL σ H s e s' I hq
 | ok fl=>
  cases fl with
  | ret u=>exact I.after hq
  | next=>exact False.elim hq
  | brk=>exact False.elim hq
  | cont=>exact False.elim hq
def NI(F:wD X.prog X.w X.K X.mg X.base CX k f fd ps sp)(hr:rB k X.A)(hg:Gl X x)(hm:X.mg x=some (.ref f))(hk:W.keepIn X.K (.ref f)=true)(hb:ut X.K fd ps ds)(hd:qh WC ds)(hx:BS CX X E) (ha:PA X (e::es) t) (V7:yb x:=by decide) (he:Az X e es:=by rfl) (V4:B0 X pos es:=by rfl):
  PE X (.Call (.Name x p) (e::es) [] pos) (Tx sp WC E t):=by
 intro VL s σ H Q I h;refine gh (vQ I hg hm ?_ V7);refine iF (h₀:=X.base) I.ok.mod.oh hk (rR (ha pos VL s σ H _ I h) λus s1 zz=>x5 zz λvs H1 I1 r q=>⟨I1.mR,?_⟩) he V4;exact EW F hr hb hd hx I1 r q
structure Mk(K:pU)(C f:Addr):Prop where
 makes:W.makesIn K C=true
 init:W.findIn K (.ref C) "__init__"=some (some (.ref f))
 fn:W.isFn K (.ref f)=true
 kp:W.keepIn K (.ref C)=true
def LO{VL:List (Addr×Obj)}{σ:St}{H:Hp}{s:Sd}{Q:VK}{us:List Vl}{vs:List V}(M:Mk X.K C f)(F:wD X.prog X.w X.K X.mg X.base CX k f fd ps sp)(hr:rB (k+1) X.A)(hb:ut X.K fd ps ds)(hd:qh WC ds) (hx:BS CX X E) (I:Inv X VL σ H s) (r:qh vs us) (h:∀x dx,H x=none->H dx=none->dx≠x->sp (.ref x::(vs++WC)) (upd (upd H dx (.own x)) x (.ins C dx [])) (λv H2=>v=.mC/\Q (.ref x) H2) E):
  wpAny (model X.prog X.w) X.A (call (.ref C) us) (EP X VL σ Q) X.xe s:=by
 have hq:=h (s.heap.objs.size+1) s.heap.objs.size (I.mG.fresh (gY _)) (I.mG.fresh (de _)) (dG (fA _));have I2:=Inv.made (C:=C) I;have r2:qh (V.ref (s.heap.objs.size+1)::(vs++WC)) (Value.ref (s.heap.objs.size+1)::(us++ds)):=.cons rfl (r.append hd);have hl:(Value.ref (s.heap.objs.size+1)::us++ds).length=ps.length:=by have e:=r2.length;rw[F.len _ _ _ _ hq]at e;exact e.symm
 refine ia (J6 (f:=f) I.mR M.makes M.init (fk.mp M.fn) (gj (F.run _ X.stack _ _ ⟨Value.ref (s.heap.objs.size+1)::us,[]⟩ (Value.ref (s.heap.objs.size+1)::(us++ds)) _ _ E (hr.make C us [])
  (I2.nP.make C us []) (hb _ (Value.ref (s.heap.objs.size+1)::us) I2.mR hl) r2 hq) λr s' Xv=>?_))
 cases r with
 | error e=>exact hx VL σ _ _ e s' I2 Xv
 | ok fl=>
  cases fl with
  | ret u=>obtain⟨v,H',I3,rv,ev,q3⟩:=I2.after Xv;subst ev;exact⟨rv,⟨V.ref (s.heap.objs.size+1),H',I3,rfl,q3⟩⟩
  | next=>exact False.elim Xv
  | brk=>exact False.elim Xv
  | cont=>exact False.elim Xv
def Pl(M:Mk X.K C f)(F:wD X.prog X.w X.K X.mg X.base CX k f fd ps sp)(hr:rB (k+1) X.A)(hg:Gl X x)(hm:X.mg x=some (.ref C))(hb:ut X.K fd ps ds)(hd:qh WC ds)(hx:BS CX X E) (ha:PA X (e::es) t) (V7:yb x:=by decide) (he:Az X e es:=by rfl) (V4:B0 X pos es:=by rfl):
  PE X (.Call (.Name x p) (e::es) [] pos) (TL C sp WC E t):=by
 intro VL s σ H Q I h;refine gh (vQ I hg hm ?_ V7);refine iF (h₀:=X.base) I.ok.mod.oh M.kp (rR (ha pos VL s σ H _ I h) λus s1 zz=>x5 zz λvs H1 I1 r q=>⟨I1.mR,?_⟩) he V4;exact LO M F hr hb hd hx I1 r q
end
variable {g:List Vl→List Vl→List Vl}{gV:List V→List V→List V}{ks:List Str}{kpos:Pos}{kws:List Keyword}{tk:TA}{nm:Option Str}
section
variable {f:Addr}{E:XK}{x:Str}{e o:Expr}{t:TA}
structure U'(K:pU)(fd:FuncData)(ps ks:List Str)(g:List Vl->List Vl->List Vl)(gV:List V->List V->List V):Prop where
 to:∀(s:Sd) (us ws:List Vl),K.In s.heap->(g us ws).length=ps.length->BindsTo s fd ⟨us,ks.zip ws⟩ (ps.zip (g us ws))
 rel:∀{vs:List V} {us:List Vl} {zs:List V} {ws:List Vl},qh vs us->qh zs ws->qh (gV vs zs) (g us ws)
end
structure so(N P:List Str)(sc:Scope):Prop where
 kind:sc.kind=.function
 co:sc.isCoroutine=false
 gen:sc.isGenerator=false
 nd:N.Nodup
 pre:N.take P.length=P
 par:∀x∈P,sc.names.lookup x=some .local\/sc.names.lookup x=some .cell
 oJ:∀y∈sc.names,y.2≠.free
theorem CW{kindOf:Str->Option NameKind}{x:Str}:∀{binds:List (Str×Vl)} {m:Str->Option Vl},(∀v,(x,v)∉binds)->bindL kindOf binds m x=m x
 | [],_,_=>rfl
 | (n,v)::r,m,h=>by
  unfold bindL;rw[CW λw hw=>h w (dC _ hw)];split
  .have:x≠n:=by rintro rfl;exact h v dO
   simp[this]
  .rfl
theorem C5{kindOf:Str->Option NameKind}{x:Str}:∀{binds:List (Str×Vl)} {m:Str->Option Vl},(∀v,(x,v)∉binds)->bindC kindOf binds m x=m x
 | [],_,_=>rfl
 | (n,v)::r,m,h=>by
  unfold bindC;rw[C5 λw hw=>h w (dC _ hw)];split
  .rfl
  .have:x≠n:=by rintro rfl;exact h v dO
   simp[this]
theorem CJ{kindOf:Str->Option NameKind}{x:Str}{v:Vl}:∀{P:List Str} {vs:List Vl} {i:Nat} {m:Str->Option Vl},P.Nodup->P[i]?=some x->vs[i]?=some v->kindOf x=some .local->
  bindL kindOf (P.zip vs) m x=some v
 | [],_,_,_,_,h,_,_=>by simp at h
 | _::_,[],_,_,_,_,h,_=>by simp at h
 | p::P,w::vs,0,m,nd,h1,h2,hk=>by simp at h1 h2;subst h1;subst h2;show bindL kindOf ((p,w)::P.zip vs) m p=_;unfold bindL;rw[CW λv hv=>(dP.mp nd).1 (jI hv).1,cY hk];simp
 | p::P,w::vs,i+1,m,nd,h1,h2,hk=>by show bindL kindOf ((p,w)::P.zip vs) m x=_;unfold bindL;exact CJ (i:=i) (dP.mp nd).2 (by simpa using h1) (by simpa using h2) hk
theorem CQ{kindOf:Str->Option NameKind}{x:Str}{v:Vl}:∀{P:List Str} {vs:List Vl} {i:Nat} {m:Str->Option Vl},P.Nodup->P[i]?=some x->vs[i]?=some v->kindOf x≠some .local->
  bindC kindOf (P.zip vs) m x=some v
 | [],_,_,_,_,h,_,_=>by simp at h
 | _::_,[],_,_,_,_,h,_=>by simp at h
 | p::P,w::vs,0,m,nd,h1,h2,hk=>by simp at h1 h2;subst h1;subst h2;show bindC kindOf ((p,w)::P.zip vs) m p=_;unfold bindC;rw[C5 λv hv=>(dP.mp nd).1 (jI hv).1,cW hk];simp
 | p::P,w::vs,i+1,m,nd,h1,h2,hk=>by show bindC kindOf ((p,w)::P.zip vs) m x=_;unfold bindC;exact CQ (i:=i) (dP.mp nd).2 (by simpa using h1) (by simpa using h2) hk
def start(N:List Str)(vs:List V):St:=vs.map some++List.replicate (N.length - vs.length) none
def uR(CX:JY)(P:Pg)(w:Wo)(K:pU)(mg:Str->Option Vl)(base:Heap)(N:List Str)(qual:Str)(scope:Scope)(f:Addr)(cd:Vl)(A:Ar)(outer:List Env)(s:Sd)(H:Hp)(E:XK):Cx where
 prog:=P
 w:=w
 K:=K
 mg:=mg
 base:=base
 A:=A.deeper (envOfC qual scope s.heap.objs.size f cd)
 N:=N
 s₀:=s
 H₀:=H
 env:=envOfC qual scope s.heap.objs.size f cd
 outer:=outer
 stack:=envOfC qual scope s.heap.objs.size f cd::outer
 ex:=[]
 calm:=true
 fn:=λ_=>true
 pn:=[]
 xe:=λe s'=>wpAny (model P w) (A.deeper (envOfC qual scope s.heap.objs.size f cd)) (leaving (envOfC qual scope s.heap.objs.size f cd) e) (λ_ YF=>CX outer H s E e YF) (λe' YF=>CX outer H s E e' YF) s'
def FV{sc:Scope}{n:Nat}{x:Str}(h:sc.names.lookup x=some .cell):∃c,(cellsFrom n sc.names []).lookup x=some c:=by have q:=lD sc.names n [] (.inl h);exact jv.mp q
def Jg{CX:JY}{P:Pg}{w:Wo}{K:pU}{mg:Str->Option Vl}{base:Heap}{N ps:List Str}{qual:Str}{scope:Scope}{f:Addr}{cd:Vl}{A:Ar}{outer:List Env}{s s1:Sd}{H:Hp}{E:XK}{us:List Vl}{vs:List V} (S:so N ps scope) (hd:A.handled=none) (e0:Gr P w K mg base A outer s H) (hl:vs.length=ps.length) (r:qh vs us) (x:InCallC s s.heap.objs.size (bindL (envOfC qual scope s.heap.objs.size f cd).kindOf (ps.zip us) λ_=>none) (cellsFrom (s.heap.objs.size+1) scope.names []) (bindC (envOfC qual scope s.heap.objs.size f cd).kindOf (ps.zip us) λ_=>none) s1):
  Inv (uR CX P w K mg base N qual scope f cd A outer s H E) [] (start N vs) H s1:=by
 have V4:ps.length<=N.length:=by have:=eQ List.length S.pre;rw[fB]at this;omega
 obtain⟨h1,tk,rfl,hk⟩:=x.done;have noA:∀b:Addr,b∉(uR CX P w K mg base N qual scope f cd A outer s H E).ex:=λb z=>absurd (show b∈([]:List Addr)from z) (by simp);refine⟨⟨e0.mod,S.kind,rfl,rfl,de _,λy z c h1 h2=>?_,λy hy=>?_,λy c _ h=>?_,λ_=>hd,Around.frames_deeper e0.frames,.inr ⟨rfl,rfl⟩,λb z=>absurd z (noA b),e0.bs,e0.nN,λb _ _=>noA b,λb z=>absurd z (noA b),e0.mZ,e0.nS⟩,rfl,e0.bare,Un.kept hk,⟨_,x.toInCall.ns,λi y v h1 h2 h3=>?_⟩,λy c h=>⟨_,x.cell y c h⟩,e0.mG.fresh (de _),λy c h=>?_,λp hp=>absurd (show p∈([]:List (Addr×Obj))from hp) (by simp),e0.mG.kept hk,?_⟩
 .exact name_of_addr x.apart (gP h1) (gP h2)
 .have hy:scope.names.lookup y=some .cell\/scope.names.lookup y=some .free:=hy;rcases hy with hy|hy
  .exact FV hy
  .exact absurd rfl (S.oJ _ (gP hy))
 .exact kE (x.above y c (gP h))
 .have hi:i<vs.length:=by
   unfold start at h2;by_cases hi:i<vs.length
   .exact hi
   .rw[eE (by simpa using hi)]at h2;rw[jF]at h2;split at h2<;>cases h2
  have ha:vs[i]?=some v:=by
   unfold start at h2;rw[eI (by simpa using hi),dA]at h2;cases e:vs[i]? with
   | none=>rw[e]at h2;cases h2
   | some a=>rw[e]at h2;cases h2;rfl
  obtain⟨u,hu,rv⟩:=r.get ha;have hp:ps[i]?=some y:=by rw[<-S.pre,List.getElem?_take_of_lt (by omega)];exact h1
  have ndP:ps.Nodup:=by rw[<-S.pre];exact S.nd.sublist (List.take_sublist _ _)
  refine⟨u,rv,?_⟩;rcases S.par y (fQ hp)with k|k
  .exact .inl ⟨k,CJ ndP hp hu k⟩
  .obtain⟨c,e⟩:=FV (n:=s.heap.objs.size+1) k;refine .inr ⟨.inl k,c,e,?_⟩;have q:=x.cell y c e;rw[CQ ndP hp hu (by show scope.names.lookup y≠_;rw[k];decide)]at q;exact q
 .exact e0.mG.fresh (kE (x.above y c (gP h)))
 .unfold start;show _=N.length;rw[cU,cR,iC];omega
def KQ{CX:JY}{P:Pg}{w:Wo}{K:pU}{mg:Str->Option Vl}{base:Heap}{k:Nat}{f:Addr}{name qual:Str}{params:Arguments}{body:List Stmt}{scope:Scope}{dV kV Ws pm VV ct oc:Vl}{an od:Option Addr} {WI:Array (Option Vl)} {N ps:List Str} {sp:Sp} (lk:K.lookup f=some ⟨oc,od,.func (W.fnOf name qual params body scope dV kV Ws pm an VV ct),WI⟩) (WO:W.codeIn K VV qual=true) (S:so N ps scope) (len:∀vs H Q E,sp vs H Q E->vs.length=ps.length) (Wa:∀(A:Ar) (outer:List Env) (s:Sd) (H:Hp) (vs:List V) (Q:VK) (E:XK),rB k (A.deeper (envOfC qual scope s.heap.objs.size f VV))->sp vs H Q E->
   ∃t,AK (uR CX P w K mg base N qual scope f VV A outer s H E) body t/\t {nx:=λ_ H'=>Q .mC H',rt:=Q} (start N vs) H):
  wD P w K mg base CX (k+1) f (W.fnOf name qual params body scope dV kV Ws pm an VV ct) ps sp:=by
 refine⟨len,λA outer s H args us vs Q E hr e0 hb r Xi=>?_⟩;have hl:=len _ _ _ _ Xi;have KX:K.In s.heap:=e0.mod.oh.keeps λb o e=>(e0.bs b o e).1;have lim:s.heap.NoLimit:=e0.mod.nolimit.keeps λb o e=>(e0.bs b o e).1;have hkind:∀y∈ps.zip us,scope.names.lookup y.1=some .local\/(scope.names.lookup y.1=some .cell/\((cellsFrom (s.heap.objs.size+1) scope.names []).lookup y.1).isSome=true):=λ⟨n,v⟩ hy=>by
  rcases S.par n (jI hy).1 with q|q
  .exact .inl q
  .exact .inr ⟨q,lD _ _ _ (.inl q)⟩
 refine codeAny_call_function hr.depth (KX _ _ lk) rfl S.co S.gen rfl (W.codeRec_of KX WO) (hb _ _ _ _ ?_);refine wpAny_newFunctionEnv_cells S.kind hkind λenv he s1 x=>?_;subst he;refine⟨lim.keeps x.toInCall.keep,codeAny_func ?_⟩;obtain⟨t,ht,hq⟩:=Wa A outer s H vs Q E (hr.deeper _) Xi;have I:Inv (uR CX P w K mg base N qual scope f VV A outer s H E) [] (start N vs) H s1:=Jg S hr.hd e0 hl r x;refine d9 (ht [] s1 (start N vs) H _ I hq) (λfl s' hs=>?_) λe s' hs=>hs;have VP:∀{σ':St} {H':Hp} {v:V} {u:Vl},Inv (uR CX P w K mg base N qual scope f VV A outer s H E) [] σ' H' s'->qp v u->Q v H'->CE outer P w H s Q u s':=
  λ{σ' H' v u} J rv q=>⟨v,H',J.os,J.bare,J.base,J.mG,rv,q⟩
 cases fl with
 | ret u=>obtain⟨v,σ',H',J,rv,q⟩:=hs;exact VP J rv q
 | next=>obtain⟨σ',H',J,q⟩:=hs;exact VP (v:=V.mC) (u:=Value.none) J rfl q
 | brk=>obtain⟨_,_,_,q⟩:=hs;exact False.elim q
 | cont=>obtain⟨_,_,_,q⟩:=hs;exact False.elim q
variable {id T:String}{r:List V→Hp→VK→Prop}
section
variable {x:Str}{e:Expr}{t:TA}
def Vd(r:List V->Hp->VK->Prop)(t:TA):TE:=λσ H Q=>t σ H λvs H1=>r vs H1 Q
def LD(hc:yz X (.builtin id) r)(hg:Gl X x)(hm:X.mg x=none)(hv:bootBuiltins x=some (.builtin id))(ha:PA X (e::es) t)(hn:x≠"__name__":=by decide)(V7:yb x:=by decide)
  (he:Az X e es:=by rfl) (V4:B0 X pos es:=by rfl):PE X (.Call (.Name x p) (e::es) [] pos) (Vd r t):=by
 intro VL s σ H Q I h;refine gh (xg I hg hm hv ?_ hn V7);exact iG (rR (ha pos VL s σ H _ I h) λus s1 zz=>x5 zz λvs H1 I1 r1 q1=>hc VL s1 σ H1 vs us Q I1 r1 q1) he V4
def IP(hc:yz X (.type T) r)(hg:Gl X x)(hm:X.mg x=none)(hv:bootBuiltins x=some (.type T))(ha:PA X (e::es) t)(hn:x≠"__name__":=by decide)(V7:yb x:=by decide)
  (he:Az X e es:=by rfl) (V4:B0 X pos es:=by rfl):PE X (.Call (.Name x p) (e::es) [] pos) (Vd r t):=by
 intro VL s σ H Q I h;refine gh (xg I hg hm hv ?_ hn V7);exact fU (rR (ha pos VL s σ H _ I h) λus s1 zz=>x5 zz λvs H1 I1 r1 q1=>hc VL s1 σ H1 vs us Q I1 r1 q1) he V4
end
end L2
namespace HT
open PySem PyProof.Rows
section
open PySem.SeqAt
open PySem.AutoSeq1 (wpAny_loadPart')
open PySem.MeetsSeq PySem.MeetsSeq2 PySem.MeetsSeq3
end
variable {prog:Pg}{w:Wo}{A:Ar}{E:Vl→Sd→Prop}{s:Sd}
def OL{t b:Addr}{vs ws:List Vl}{Q:Vl->Sd->Prop}(ht:IsTup s.heap t vs.toArray)(hb:IsTup s.heap b ws.toArray)(hv:vs≠[]) (h1:ws=[]->Q (.ref t) s) (h2:ws≠[]->Q (.ref s.heap.objs.size) {s with heap:=s.heap.push {cls:=.type "tuple",data:=.seq (vs++ws).toArray}})
  (hsz:vs.length+ws.length<=sizeLine):wpAny (model prog w) A (binaryOp .Add (.ref t) (.ref b)) Q E s:=by
 obtain⟨⟨cls,dd,data,sl⟩,ho,hc,n,hd⟩:=id ht;obtain⟨⟨cls2,dd2,data2,sl2⟩,ho2,hc2,n2,hd2⟩:=id hb;simp only at hc hd hc2 hd2;subst hc hd hc2 hd2;have e:vs.toArray++ws.toArray=(vs++ws).toArray:=by simp
 by_cases hw:ws=[]
 .exact kH ⟨_,ho,rfl⟩ ⟨_,ho2,rfl⟩ lE seq_tuple_add jQ jG (jw _ _)
   (tuple_addW1 t b vs.toArray ws.toArray n n2 dd dd2 sl sl2 (by simpa using hv) (by simp[hw])) ⟨ho,ho2,h1 hw⟩
 .refine kH ⟨_,ho,rfl⟩ ⟨_,ho2,rfl⟩ lE seq_tuple_add jQ jG (jw _ _)
   (tuple_addW2 t b vs.toArray ws.toArray n n2 dd dd2 sl sl2 (by simpa using hv) (by simpa using hw) (by rw[dh,dh];exact hsz)) ⟨ho,ho2,?_⟩
  rw[e];exact h2 hw
def sy(n d:Nat):Option Int->Nat
 | none=>d
 | some v=>if v<0 then(v+(n:Int)).toNat else min v.toNat n
def BX(n d:Nat):sy n d none=d:=rfl
def Iu(n d k:Nat):sy n d (some (k:Int))=min k n:=by show(if (k:Int)<0 then((k:Int)+(n:Int)).toNat else min (k:Int).toNat n)=min k n;rw[cW (by omega),ji]
def RQ(n d:Nat)(hd:d<=n)(o:Option Int):sy n d o<=n:=by
 cases o with
 | none=>exact hd
 | some v=>
  show(if v<0 then(v+(n:Int)).toNat else min v.toNat n)<=n;by_cases hv:v<0
  .rw[cY hv];omega
  .rw[cW hv];exact Nat.min_le_right _ _
def Ih(v:Int)(n d:Nat):(if v<0 then max (v+(n:Int)) 0 else min v (n:Int))=((sy n d (some v):Nat):Int):=by
 show(if v<0 then max (v+(n:Int)) 0 else min v (n:Int))=(((if v<0 then(v+(n:Int)).toNat else min v.toNat n):Nat):Int);by_cases hv:v<0
 .simp only[cY hv];omega
 .simp only[cW hv];omega
def GN(lo hi:Option Int)(n:Nat):Builtin.Slice.sliceAdjust lo hi 1 (n:Int)=(((sy n 0 lo:Nat):Int),((sy n n hi:Nat):Int)):=by
 have h1:¬((1:Int)<0):=by omega
 unfold Builtin.Slice.sliceAdjust;simp only[h1,j5];refine Prod.ext ?_ ?_
 .cases lo with
  | none=>rfl
  | some v=>exact Ih v n 0
 .cases hi with
  | none=>rfl
  | some v=>exact Ih v n n
def GE(i j:Nat):Builtin.Slice.slicePlaces (i:Int) (j:Int) 1=j - i:=by
 unfold Builtin.Slice.slicePlaces;have h1:(1:Int)>0:=by omega
 simp only[h1,iV,Int.ediv_one];split<;>omega
def AO{v:Vl}{o:Option Int}{Q:Option Int->Sd->Prop}(p:IsPart v o)(h:Q o s):wpAny (model prog w) A (Builtin.Slice.slicePartIndex v) Q E s:=by
 cases p with
 | none=>exact slicePart_none h
 | int i t=>exact slicePart_int h
def vF{sl:Addr}{vl vu:Vl}{lo hi:Option Int}{n:Nat}{Q:Int×Int×Nat->Sd->Prop}(hs:s.heap.IsSliceOf sl vl vu .none)(pl:IsPart vl lo)(pu:IsPart vu hi) (h:Q (((sy n 0 lo:Nat):Int),1,sy n n hi - sy n 0 lo) s):wpAny (model prog w) A (Builtin.Slice.sliceApplied (.ref sl) (pure (n:Int))) Q E s:=by
 obtain⟨os,YG,Yn,W1⟩:=id hs;unfold Builtin.Slice.sliceApplied Builtin.Slice.sliceFields;refine cS (cS (e9 YG W1 (x:=vl) rfl (cS (e9 YG W1 (x:=vu) rfl (cS (e9 YG W1 (x:=.none) rfl (cZ ?_)))))));refine cS (slicePart_none ?_);show wpAny _ _ (if ((1:Int)==0)=true then _ else _) _ _ s;rw[cW (by decide)];refine cS (AO pl (cS (AO pu (cS (cZ ?_)))));show wpAny _ _ (match Builtin.Slice.sliceAdjust lo hi 1 (n:Int)with|(lo,hi)=>pure (lo,(1:Int),Builtin.Slice.slicePlaces lo hi 1)) _ _ s;rw[GN lo hi n];show wpAny _ _ (pure (((sy n 0 lo:Nat):Int),(1:Int),Builtin.Slice.slicePlaces ((sy n 0 lo:Nat):Int) ((sy n n hi:Nat):Int) 1)) _ _ s;rw[GE];exact cZ h
def My(xs:Array Vl)(i k:Nat):((List.range k).filterMap λ(m:Nat)=>xs[((i:Int)+(m:Int)*1).toNat]?).toArray=((xs.toList.drop i).take k).toArray:=by
 have e:(λ(m:Nat)=>xs[((i:Int)+(m:Int)*1).toNat]?)=λm=>xs[i+m]?:=by
  funext m;have:((i:Int)+(m:Int)*1).toNat=i+m:=by omega
  rw[this]
 rw[e];have:=pick_run xs i k;rw[List.filterMap_map]at this;have e2:((λx=>xs[x]?)∘λx=>i+x)=λm=>xs[i+m]?:=rfl;rw[e2]at this;rw[this]
def yQ{t sl:Addr}{VM:Array Vl}{vl vu:Vl}{lo hi:Option Int}{Q:Vl->Sd->Prop}(ht:IsTup s.heap t VM)(hs:s.heap.IsSliceOf sl vl vu .none)(pl:IsPart vl lo)(pu:IsPart vu hi) (hw:¬(sy VM.size 0 lo=0/\sy VM.size VM.size hi=VM.size)) (h:Q (.ref s.heap.objs.size) {s with heap:=s.heap.push {cls:=.type "tuple",data:=.seq ((VM.toList.drop (sy VM.size 0 lo)).take (sy VM.size VM.size hi - sy VM.size 0 lo)).toArray}})
  (hsz:VM.size<=sizeLine):wpAny (model prog w) A (getItem (.ref t) (.ref sl)) Q E s:=by
 have Xd:sizeOk (.seq ((VM.toList.drop (sy VM.size 0 lo)).take (sy VM.size VM.size hi - sy VM.size 0 lo)).toArray):=by show((VM.toList.drop (sy VM.size 0 lo)).take (sy VM.size VM.size hi - sy VM.size 0 lo)).toArray.size<=sizeLine;rw[dh,fB,gf,iS];omega
 have hj:sy VM.size VM.size hi<=VM.size:=RQ _ _ (de _) hi;obtain⟨os,YG,Yn,W1⟩:=id hs;have hTs:s.TypeIs (.ref sl) "slice":=⟨os,YG,Yn⟩;unfold getItem
 try with_reducible refine eC ?_
 first|refine cS (cZ ?_)|skip
 refine cS (jj ht.typeIs (by decide) ?_);refine cS (fK (name:=Str.ofString "__getitem__") ht.typeIs fv
  (gg fv ht.typeIs kr ?_ (kI _ _)))
 show wpAny _ _ (Builtin.Tuple.tupleItemsOf (.ref t)>>=_) _ _ s;refine cS (tupleItemsOf_ ht ?_);refine cS (jx hTs ?_);rw[cY (by decide)];refine cS (vF hs pl pu ?_);have hno:¬((((sy VM.size 0 lo:Nat):Int)==0&&(1:Int)==1&&(sy VM.size VM.size hi - sy VM.size 0 lo)==VM.size)=true):=by intro q;rw[dS,dS]at q;have q1:((sy VM.size 0 lo:Nat):Int)=0:=eq_of_beq q.1.1;have q2:sy VM.size VM.size hi - sy VM.size 0 lo=VM.size:=eq_of_beq q.2;exact hw ⟨by omega,by omega⟩
 show wpAny _ _ (if (((sy VM.size 0 lo:Nat):Int)==0&&(1:Int)==1&&(sy VM.size VM.size hi - sy VM.size 0 lo)==VM.size)=true then _ else _) _ _ s;rw[cW hno,My]
 first
  | exact cS (m:=Builtin.Tuple.tupleExact _) (fT (cZ ⟨_,rfl,cZ h⟩) Xd)
  | exact cS (m:=Builtin.Tuple.tupleExact _) (fT (cS (cZ (cZ ⟨_,rfl,cZ h⟩))) Xd)
  | exact cS (cS (m:=Builtin.Tuple.tupleExact _) (fT (cZ (cZ ⟨_,rfl,cZ h⟩)) Xd))
  | exact cS (cS (m:=Builtin.Tuple.tupleExact _) (fT (cZ ⟨_,rfl,cZ h⟩) Xd))
end HT
namespace L2
open PySem PySem.Spec PyProof.Rows
abbrev TO:=St->Hp->(Option Int->Hp->Prop)->Prop
def PO(X:Cx)(e:Option Expr)(t:TO):Prop:=
 ∀(VL:List (Addr×Obj)) (s:Sd) (σ:St) (H:Hp) (Q:Option Int->Hp->Prop),Inv X VL σ H s->t σ H Q->
  wpAny (model X.prog X.w) X.A (evalPart e X.env) (λu s'=>∃o H',Inv X VL σ H' s'/\IsPart u o/\Q o H') X.xe s
def O4:TO:=λ_ H Q=>Q none H
def Ti(t:TE):TO:=λσ H Q=>t σ H λx H1=>∃i,x=.int i/\Q (some i) H1
variable {X:Cx}{e:Expr}{te:TE}{lo hi:Option Expr}{tl th:TO}{pos p2:Pos}
def O6:PO X none O4:=by intro VL s σ H Q I h;rw[evalPart_none];exact cZ ⟨none,H,I,.none,h⟩
def MQ(h:PE X e te):PO X (some e) (Ti te):=by intro VL s σ H Q I hw;rw[evalPart_some];refine rR (h VL s σ H _ I hw) λu s1 zz=>x5 zz λx H1 I1 r1 q1=>?_;obtain⟨i,rfl,q⟩:=q1;obtain⟨t,rfl⟩:=r1;exact⟨some i,H1,I1,.int i t,q⟩
def TQ(X:Cx)(r:V->Option Int->Option Int->Hp->VK->Prop):Prop:=
 ∀(VL:List (Addr×Obj)) (s:Sd) (σ:St) (H:Hp) (x:V) (v vl vu:Vl) (lo hi:Option Int) (sl:Addr) (Q:VK),Inv X VL σ H s->qp x v->s.heap.IsSliceOf sl vl vu .none->IsPart vl lo->IsPart vu hi->r x lo hi H Q->
  ∃T id,typeLookup (.type T) "__getitem__"=pure (some (.builtin id))/\s.TypeIs v T/\wpAny (model X.prog X.w) X.A (getItem v (.ref sl)) (EP X VL σ Q) X.xe s
def VD(r:V->Option Int->Option Int->Hp->VK->Prop)(te:TE)(tl th:TO):TE:=λσ H Q=>te σ H λx H1=>tl σ H1 λl H2=>th σ H2 λu H3=>r x l u H3 Q
def Mf{r:V->Option Int->Option Int->Hp->VK->Prop}(hr:TQ X r)(he:PE X e te)(hl:PO X lo tl)(hu:PO X hi th):PE X (.Subscript e (.Slice lo hi none p2) pos) (VD r te tl th):=by intro VL s σ H Q I h;refine Subscript_ (rR (he VL s σ H _ I h) λv s1 zz=>x5 zz λx H1 I1 r1 q1=>?_);refine wpAny_Slice (rR (hl VL s1 σ H1 _ I1 q1) λvl s2 zz=>x5 zz λl H2 I2 pl q2=>rR (hu VL s2 σ H2 _ I2 q2) λvu s3 zz=>x5 zz λu H3 I3 pu q3=>?_);rw[evalPart_none];refine cZ ?_;have I4:Inv X VL σ H3 {s3 with heap:=s3.heap.push {cls:=.type "slice",data:=.fields #[vl,vu,.none]}}:=I3.kept (t':=s3.toks) λb ob q=>cX _ q;obtain⟨T,id,hT,ht,hg⟩:=hr VL {s3 with heap:=s3.heap.push {cls:=.type "slice",data:=.fields #[vl,vu,.none]}} σ H3 x v vl vu l u s3.heap.objs.size Q I4 r1 (mq ..) pl pu q3;show wpAny (model X.prog X.w) X.A (subscriptTail e (.Slice lo hi none p2) v (.ref s3.heap.objs.size)) (EP X VL σ Q) X.xe {s3 with heap:=s3.heap.push {cls:=.type "slice",data:=.fields #[vl,vu,.none]}};exact tail_any (ops:=[.ref s3.heap.objs.size,v]) ht hT hg (by with_unfolding_all rfl)
def AL(xs:List V)(lo hi:Option Int):List V:=(xs.drop (HT.sy xs.length 0 lo)).take (HT.sy xs.length xs.length hi - HT.sy xs.length 0 lo)
def zL(xs:List V)(lo hi:Option Int):(AL xs lo hi).length<=xs.length:=by unfold AL;rw[fB,gf];omega
def UO(K:pU):V->Option Int->Option Int->Hp->VK->Prop:=λx lo hi H Q=>∃a xs,x=.ref a/\uG K H a xs/\
 ¬(HT.sy xs.length 0 lo=0/\HT.sy xs.length xs.length hi=xs.length)/\∀p,H p=none->Q (.ref p) (upd H p (.tup (AL xs lo hi)))
def Q9:TQ X (UO X.K):=by
 intro VL s σ H x v vl vu lo hi sl Q I rx hs pl pu h;obtain⟨a,xs,rfl,hx,hw,q⟩:=h;cases rx;obtain⟨its,r,ht,hz⟩:=I.tuple hx;have VR:its.toArray.size=xs.length:=by rw[dh];exact r.length.symm
 refine⟨"tuple",_,fv.lookup,ht.typeIs,?_⟩;refine HT.yQ ht hs pl pu (by rw[VR];exact hw) ?_ (by rw[VR];exact hz);rw[VR];refine⟨.ref s.heap.objs.size,_,I.laid (t':=s.toks) (o:=.tup (AL xs lo hi)) (λb ob q=>cX _ q) (de _) ?_,rfl,q _ (I.mG.fresh (de _))⟩;exact⟨dX (zL xs lo hi) hz,_,(r.drop (HT.sy xs.length 0 lo)).take (HT.sy xs.length xs.length hi - HT.sy xs.length 0 lo),DR.new _ _⟩
def TH(K:pU):R2:=λx y H Q=>∃a b xs ys,x=.ref a/\y=.ref b/\uG K H a xs/\uG K H b ys/\xs≠[]/\xs.length+ys.length<=sizeLine/\
 (ys=[]->Q (.ref a) H)/\(ys≠[]->∀p,H p=none->Q (.ref p) (upd H p (.tup (xs++ys))))
def qh.nz{xs:List V}{us:List Vl}(r:qh xs us):us=[]↔xs=[]:=by
 cases r with
 | nil=>simp
 | cons _ _=>simp
def Oa:wH X (binaryOp .Add) (TH X.K):=by intro VL s σ H x y v u Q I rx ry h;obtain⟨a,b,xs,ys,rfl,rfl,ha,hb,hx,hz,q1,q2⟩:=h;cases rx;cases ry;obtain⟨its,r1,p1,_⟩:=I.tuple ha;obtain⟨its2,r2,p2,_⟩:=I.tuple hb;refine HT.OL p1 p2 (λz=>hx (r1.nz.mp z)) (λz=>⟨.ref a,H,I,rfl,q1 (r2.nz.mp z)⟩) (λz=>?_) (by rw[<-r1.length,<-r2.length];exact hz);refine⟨.ref s.heap.objs.size,_,I.laid (t':=s.toks) (o:=.tup (xs++ys)) (λb ob q=>cX _ q) (de _) ?_,rfl,q2 (λw=>z (r2.nz.mpr w)) _ (I.mG.fresh (de _))⟩;exact⟨by rw[cU];exact hz,_,r1.append r2,DR.new _ _⟩
def Fj(n:Nat)(i:Int):Option Nat:=if 0<=i then(if i<n then some i.toNat else none)else if -(n:Int)<=i then some (i+n).toNat else none
def vM{α:Type}(xs:List α)(i:Int):Option α:=(Fj xs.length i).bind λj=>xs[j]?
def Hx{n:Nat}{i:Int}{j:Nat}(h:Fj n i=some j):seqIndex? i n=some j/\j<n/\-(n:Int)<=i/\i<n:=by
 unfold Fj at h;by_cases h0:0<=i
 .rw[cY h0]at h;by_cases h1:i<n
  .rw[cY h1]at h;have e:i.toNat=j:=df h;exact⟨by rw[lw h0 h1,e],by omega,by omega,h1⟩
  .rw[cW h1]at h;cases h
 .rw[cW h0]at h;by_cases h1:-(n:Int)<=i
  .rw[cY h1]at h;have e:(i+n).toNat=j:=df h;exact⟨by rw[kK (by omega) h1,e],by omega,h1,by omega⟩
  .rw[cW h1]at h;cases h
def DC{α:Type}{xs:List α}{i:Int}{v:α}(h:vM xs i=some v):∃j,seqIndex? i xs.length=some j/\xs[j]?=some v/\j<xs.length/\-(xs.length:Int)<=i/\i<xs.length:=by
 unfold vM at h;cases e:Fj xs.length i with
 | none=>rw[e]at h;cases h
 | some j=>rw[e]at h;obtain⟨h1,h2,h3,h4⟩:=Hx e;exact⟨j,h1,h,h2,h3,h4⟩
def uF{α:Type}{xs:List α}{j:Nat}{v:α}(h:xs[j]?=some v):vM xs (j:Int)=some v:=by
 have hj:j<xs.length:=(cV.mp h).1;have e:Fj xs.length (j:Int)=some j:=by unfold Fj;rw[cY (by omega),cY (by omega)];simp
 unfold vM;rw[e];exact h
def AC(b:Expr):Prop:=∀o i,subscripted b false o i=operate [o,i] (getItem o i)
def R5(X:Cx)(r:R2):Prop:=
 ∀(value VW:Expr) (VL:List (Addr×Obj)) (s:Sd) (σ:St) (H:Hp) (x y:V) (v u:Vl) (Q:VK),Inv X VL σ H s->qp x v->qp y u->r x y H Q->
  subscripted VW false v u=operate [v,u] (getItem v u)->wpAny (model X.prog X.w) X.A (subscriptTail value VW v u) (EP X VL σ Q) X.xe s
def Ve(X:Cx)(id:String)(r:V->List V->Hp->VK->Prop):Prop:=
 ∀(VL:List (Addr×Obj)) (s:Sd) (σ:St) (H:Hp) (x:V) (xs:List V) (v:Vl) (us:List Vl) (Q:VK),Inv X VL σ H s->qp x v->qh xs us->r x xs H Q->
  wpAny (model X.prog X.w) X.A (call (.builtin id) (v::us)) (EP X VL σ Q) X.xe s
variable {o:Expr}{es:List Expr}{to:TE}{t:TA}{name:Str}{VO VS:Pos}{T id:String}{r:V→List V→Hp→VK→Prop}{a:Expr}{ta tb:TE}
section
variable {b:Expr}
def K8{r:R2}(hr:R5 X r)(ha:PE X a ta)(hb:PE X b tb)(hs:AC b):PE X (.Subscript a b pos) (Sb r ta tb):=by intro VL s σ H Q I h;exact Subscript_ (Ql ha hb I h λv u s2 x y H2 I2 rx ry q=>hr a b VL s2 σ H2 x y v u Q I2 rx ry q (hs _ _))
def UZ(K:pU):R2:=λx y H Q=>∃p xs i v,x=.ref p/\y=.int i/\yu K H p xs/\vM xs i=some v/\Q v H
def UU(K:pU):R2:=λx y H Q=>∃p xs i v,x=.ref p/\y=.int i/\uG K H p xs/\vM xs i=some v/\Q v H
def Uj:R2:=λx y H Q=>∃z i c,x=.str z/\y=.int i/\z.length<=sizeLine/\vM z.cps.toList i=some c/\Q (.str ⟨#[c]⟩) H
def IC:R5 X (UZ X.K):=by
 intro value VW VL s σ H x y v u Q I rx ry h hs;obtain⟨p,xs,i,z,rfl,rfl,hq,he,q⟩:=h;cases rx;obtain⟨t,rfl⟩:=ry;obtain⟨its,r,pl,hz⟩:=I.list hq;obtain⟨j,h1,h2,h3,h4,h5⟩:=DC he;obtain⟨w,ew,X1⟩:=r.get h2;have hl:=r.length;have hn:=yk;have VP:EP X VL σ Q w s:=⟨z,H,I,X1,q⟩;by_cases h0:0<=i
 .have hj:i.toNat=j:=by rw[lw h0 h5]at h1;exact df h1
  exact item_listR pl.isList h0 (by omega) (by rw[hj];simpa using ew) VP hs
 .have hj:(i+(its.toArray.size:Int)).toNat=j:=by rw[kK (by omega) h4]at h1;rw[dh,<-hl];exact df h1
  exact jR (x:=w) pl.isList.typeIs kZ.lookup
   (wpAny_getItem_list_neg (Q:=λr s'=>r=w/\EP X VL σ Q r s') pl.isList (by omega) (by rw[dh]<;>omega) (by omega) (by rw[hj];simpa using ew) ⟨rfl,VP⟩) hs
def RO:R5 X (UU X.K):=by
 intro value VW VL s σ H x y v u Q I rx ry h hs;obtain⟨p,xs,i,z,rfl,rfl,hq,he,q⟩:=h;cases rx;obtain⟨t,rfl⟩:=ry;obtain⟨its,r,pl,hz⟩:=I.tuple hq;obtain⟨j,h1,h2,h3,h4,h5⟩:=DC he;obtain⟨w,ew,X1⟩:=r.get h2;have hl:=r.length;have hn:=yk;have VP:EP X VL σ Q w s:=⟨z,H,I,X1,q⟩;exact jR (x:=w) pl.typeIs slot_tuple_getitem.lookup
  (getItem_tuple (j:=j) (Q:=λr s'=>r=w/\EP X VL σ Q r s') pl (by omega) (by omega) (by rw[dh,<-hl];exact h1) (by simpa using ew) ⟨rfl,VP⟩) hs
def P0:R5 X Uj:=by
 intro value VW VL s σ H x y v u Q I rx ry h hs;obtain⟨z,i,c,rfl,rfl,hz,he,q⟩:=h;obtain⟨t,rfl⟩:=rx;obtain⟨t',rfl⟩:=ry;obtain⟨j,h1,h2,h3,h4,h5⟩:=DC he;have hl:z.cps.toList.length=z.length:=by simp[Str.length]
 rw[hl]at h1 h4 h5;have hn:=yk;exact tail_any (typeIs_str s z t) slot_str_getitem.lookup (getItem_str (c:=c) (by
  have e1:decide (i< -(2 ^ 63:Int))=false:=eO (by omega);have e2:decide (i>=2 ^ 63)=false:=eO (by omega);rw[e1,e2,kg]) (by rw[h1];simpa using h2) ⟨.str ⟨#[c]⟩,H,I.tok _,⟨_,rfl⟩,q⟩) hs
def G0(its:List Vl)(n j:Nat)(u:Vl):Obj.mapSeq (·.setIfInBounds j u) {cls:=.type "list",data:=.seq its.toArray n}={cls:=.type "list",data:=.seq (its.set j u).toArray n}:=by simp[Obj.mapSeq]
def Inv.lst{VL:List (Addr×Obj)}{σ:St}{H:Hp}{s:Sd}{p:Addr}{xs:List V}(I:Inv X VL σ H s)(h:H p=some (.lst xs)):
  ∃(its:List Vl) (n:Nat),qh xs its/\s.heap.get? p=some {cls:=.type "list",data:=.seq its.toArray n}/\xs.length<=sizeLine:=by
 obtain⟨z,its,n,r,e⟩:=I.mG p _ h;exact⟨its,n,r,e,z⟩
def Inv.nZ{VL:List (Addr×Obj)}{σ:St}{H:Hp}{s:Sd}{p:Addr}{xs ys:List V}{its its':List Vl}{n n':Nat}{f:Obj->Obj}(I:Inv X VL σ H s)(h:H p=some (.lst xs)) (ho:s.heap.get? p=some {cls:=.type "list",data:=.seq its.toArray n}) (hf:f {cls:=.type "list",data:=.seq its.toArray n}={cls:=.type "list",data:=.seq its'.toArray n'}) (r:qh ys its') (hz:ys.length<=sizeLine) (t:Nat):
  Inv X VL σ (upd H p (.lst ys)) {s with heap:=s.heap.update p f,toks:=t}:=by
 have e:(s.heap.update p f).get? p=some {cls:=.type "list",data:=.seq its'.toArray n'}:=by rw[fG f ho (by rw[hf]<;>rfl),hf]
 refine I.write (x:=p) (e:=p) (by rw[h];trivial) (.inl rfl) (λb u hb q=>(gb _ _ (dM hb)).trans q) ⟨_,e⟩ ?_;exact⟨hz,its',n',r,e⟩
def TC:V->V->V->Hp->(Hp->Prop)->Prop:=λo i v H Q=>∃p xs k j,o=.ref p/\i=.int k/\H p=some (.lst xs)/\Fj xs.length k=some j/\Q (upd H p (.lst (xs.set j v)))
def Lo:SR X TC:=by
 intro VL s σ H o i v ov iv u Q I ro ri rv h;obtain⟨p,xs,k,j,rfl,rfl,hp,hj,q⟩:=h;cases ro;obtain⟨t,rfl⟩:=ri;obtain⟨its,n,r,ho,hz⟩:=I.lst hp;obtain⟨h1,h2,h3,h4⟩:=Hx hj;have hl:=r.length;have hn:=yk;have I':Inv X VL σ (upd H p (.lst (xs.set j v))) {s with heap:=s.heap.update p (Obj.mapSeq (·.setIfInBounds j u))}:=
  I.nZ hp ho (G0 its n j u) (r.set rv j) (by rw[ii];exact hz) s.toks
 by_cases h0:0<=k
 .have hk:k.toNat=j:=by rw[lw h0 h4]at h1;exact df h1
  exact W.ki_setAt ho h0 (by omega) (by rw[dh,<-hl];exact h4) (by rw[hk];exact⟨_,I',q⟩)
 .have hk:(k+(its.toArray.size:Int)).toNat=j:=by rw[kK (by omega) h3]at h1;rw[dh,<-hl];exact df h1
  exact W.ki_setBack ho (by omega) (by rw[dh,<-hl];exact h3) (by omega) (by rw[hk];exact⟨_,I',q⟩)
def ET(lo hi:Option Int)(n:Nat):(sliceBounds lo hi none n).1=((HT.sy n 0 lo:Nat):Int)/\(sliceBounds lo hi none n).2.1=((HT.sy n n hi:Nat):Int)/\(sliceBounds lo hi none n).2.2=1:=by
 refine⟨?_,?_,rfl⟩
 .cases lo with
  | none=>simp[sliceBounds,HT.sy]
  | some i=>
   simp only[sliceBounds,HT.sy,lF,show(1:Int)>0 by decide,iV];by_cases h:i<0
   .simp only[h,iV]<;>omega
   .simp only[h,j5]<;>omega
 .cases hi with
  | none=>simp[sliceBounds,HT.sy]
  | some i=>
   simp only[sliceBounds,HT.sy,lF,show(1:Int)>0 by decide,iV];by_cases h:i<0
   .simp only[h,iV]<;>omega
   .simp only[h,j5]<;>omega
def Cd(its:List Vl)(lo hi:Option Int):slicePick its.toArray lo hi none=((its.drop (HT.sy its.length 0 lo)).take (HT.sy its.length its.length hi - HT.sy its.length 0 lo)).toArray:=by obtain⟨h1,h2,h3⟩:=ET lo hi its.toArray.size;unfold slicePick;rw[h1,h2,h3];simp only[sliceRange_one,pick_run,dh]<;>rfl
def Ue(K:pU):V->Option Int->Option Int->Hp->VK->Prop:=λx lo hi H Q=>∃a xs,x=.ref a/\yu K H a xs/\∀p,H p=none->Q (.ref p) (upd H p (.lst (AL xs lo hi)))
def HY:TQ X (Ue X.K):=by intro VL s σ H x v vl vu lo hi sl Q I rx hs pl pu h;obtain⟨a,xs,rfl,hx,q⟩:=h;cases rx;obtain⟨its,r,ht,hz⟩:=I.list hx;have VR:=r.length;refine⟨"list",_,kZ.lookup,ht.isList.typeIs,?_⟩;refine wpAny_getItem_list_slice ht.isList hs pl pu .none (by simp) ?_ (by rw[dh]<;>omega);rw[Cd,<-VR];refine⟨.ref s.heap.objs.size,_,I.laid (t':=s.toks) (o:=.lst (AL xs lo hi)) (λb ob q=>cX _ q) (de _) ?_,rfl,q _ (I.mG.fresh (de _))⟩;exact⟨dX (zL xs lo hi) hz,_,0,(r.drop (HT.sy xs.length 0 lo)).take (HT.sy xs.length xs.length hi - HT.sy xs.length 0 lo),dF _ rfl⟩
def xU:V->Bool
 | .mC=>true
 | .bl _=>true
 | .int _=>true
 | .str _=>true
 | _=>false
def ML:V->V->Bool
 | .mC,.mC=>true
 | .bl a,.bl b=>a==b
 | .bl a,.int b=>(if a then 1 else 0)==b
 | .int a,.bl b=>a==(if b then 1 else 0)
 | .int a,.int b=>a==b
 | .str a,.str b=>a==b
 | _,_=>false
def Qp{A:Ar}{s:Sd}{y x:V}{u v:Vl}(ry:qp y u)(rx:qp x v)(fy:xU y=true)(fx:xU x=true):SeqAt.EqAt A s u v (ML y x):=by
 cases y with
 | mC=>
  cases ry;cases x with
  | mC=>cases rx;exact SeqAt.EqAt.same _
  | bl b=>cases rx;exact SeqAt.EqAt.none_bool b
  | int b=>obtain⟨t,rfl⟩:=rx;exact SeqAt.EqAt.none_int b t
  | str b=>obtain⟨t,rfl⟩:=rx;exact SeqAt.EqAt.none_str b t
  | _=>exact absurd (show false=true from fx) dw
 | bl a=>
  cases ry;cases x with
  | mC=>cases rx;exact SeqAt.EqAt.bool_none a
  | bl b=>cases rx;exact SeqAt.EqAt.bool_bool a b
  | int b=>obtain⟨t,rfl⟩:=rx;exact SeqAt.EqAt.bool_int a b t
  | str b=>obtain⟨t,rfl⟩:=rx;exact SeqAt.EqAt.bool_str a b t
  | _=>exact absurd (show false=true from fx) dw
 | int a=>
  obtain⟨t',rfl⟩:=ry;cases x with
  | mC=>cases rx;exact SeqAt.EqAt.int_none a t'
  | bl b=>cases rx;exact SeqAt.EqAt.int_bool a t' b
  | int b=>obtain⟨t,rfl⟩:=rx;exact SeqAt.EqAt.int_int a t' b t
  | str b=>obtain⟨t,rfl⟩:=rx;exact kB a t' b t
  | _=>exact absurd (show false=true from fx) dw
 | str a=>
  obtain⟨t',rfl⟩:=ry;cases x with
  | mC=>cases rx;exact SeqAt.EqAt.str_none a t'
  | bl b=>cases rx;exact SeqAt.EqAt.str_bool a t' b
  | int b=>obtain⟨t,rfl⟩:=rx;exact kC a t' b t
  | str b=>obtain⟨t,rfl⟩:=rx;exact SeqAt.EqAt.str_str a t' b t
  | _=>exact absurd (show false=true from fx) dw
 | _=>exact absurd (show false=true from fy) dw
def DT(x:V)(u:Vl):Bool:=match u with
 | .none=>ML .mC x
 | .bool b=>ML (.bl b) x
 | .int i _=>ML (.int i) x
 | .str z _=>ML (.str z) x
 | _=>false
def Gk{x y:V}{u:Vl}(r:qp y u)(f:xU y=true):DT x u=ML y x:=by
 cases y with
 | mC=>cases r;rfl
 | bl b=>cases r;rfl
 | int i=>obtain⟨t,rfl⟩:=r;rfl
 | str z=>obtain⟨t,rfl⟩:=r;rfl
 | _=>exact absurd (show false=true from f) dw
theorem yN{x:V}:∀{xs:List V} {us:List Vl},qh xs us->xs.all xU=true->us.any (DT x)=xs.any λy=>ML y x
 | _,_,.nil,_=>rfl
 | y::xs,u::us,.cons r t,f=>by rw[gp,dS]at f;rw[gc,gc,Gk r f.1,yN t f.2]
theorem vL{A:Ar}{s:Sd}{x:V}{v:Vl}(rx:qp x v)(fx:xU x=true):∀{xs:List V} {us:List Vl},qh xs us->xs.all xU=true->∀u∈us,SeqAt.EqAt A s u v (DT x u)
 | _,_,.nil,_=>λu hu=>by cases hu
 | y::xs,u::us,.cons r t,f=>λu' hu=>by
  rw[gp,dS]at f;rcases c9.mp hu with rfl|hu
  .rw[Gk r f.1];exact Qp r rx f.1 fx
  .exact vL rx fx t f.2 u' hu
def inV(x:V)(xs:List V):Bool:=xs.any λy=>ML y x
def UK(K:pU)(Xq:Bool):R2:=λx y H Q=>∃p xs,y=.ref p/\(yu K H p xs\/uG K H p xs)/\xU x=true/\xs.all xU=true/\Q (.bl (if Xq then !inV x xs else inV x xs)) H
def Jr:wH X (compareOp .In) (UK X.K false):=by
 intro VL s σ H x y v u Q I rx ry h;obtain⟨p,xs,rfl,hq,fx,fs,q⟩:=h;cases ry;rcases hq with hq|hq
 .obtain⟨its,r,pl,hz⟩:=I.list hq;refine SeqAt.in_listAt (DT x) pl.isList (λw hw=>vL rx fx r fs w (by simpa using hw)) ⟨.bl _,H,I,rfl,?_⟩;rw[show its.toArray.any (DT x)=its.any (DT x)by simp,yN r fs];exact q
 .obtain⟨its,r,pl,hz⟩:=I.tuple hq;refine SeqAt.in_tupleAt (DT x) pl (λw hw=>vL rx fx r fs w (by simpa using hw)) ⟨.bl _,H,I,rfl,?_⟩;rw[show its.toArray.any (DT x)=its.any (DT x)by simp,yN r fs];exact q
def Dv:wH X (compareOp .NotIn) (UK X.K true):=by
 intro VL s σ H x y v u Q I rx ry h;obtain⟨p,xs,rfl,hq,fx,fs,q⟩:=h;cases ry;rcases hq with hq|hq
 .obtain⟨its,r,pl,hz⟩:=I.list hq;refine SeqAt.notIn_listAt (DT x) pl.isList (λw hw=>vL rx fx r fs w (by simpa using hw)) ⟨.bl _,H,I,rfl,?_⟩;rw[show its.toArray.any (DT x)=its.any (DT x)by simp,yN r fs];exact q
 .obtain⟨its,r,pl,hz⟩:=I.tuple hq;refine SeqAt.notIn_tupleAt (DT x) pl (λw hw=>vL rx fx r fs w (by simpa using hw)) ⟨.bl _,H,I,rfl,?_⟩;rw[show its.toArray.any (DT x)=its.any (DT x)by simp,yN r fs];exact q
def EH:wH X (compareOp .NotIn) (λx y H Q=>∃i j,x=.str i/\y=.str j/\Q (.bl (!(!(Builtin.Str.occurrences j i 0 j.length 1).isEmpty))) H):=by intro VL s σ H x y v u Q I rx ry h;obtain⟨i,j,rfl,rfl,q⟩:=h;obtain⟨t,rfl⟩:=rx;obtain⟨t',rfl⟩:=ry;exact notIn_str ⟨.bl _,H,I,rfl,q⟩
def vX:yz X (.builtin "len") (λxs H Q=>∃p ys,xs=[.ref p]/\(yu X.K H p ys\/uG X.K H p ys)/\Q (.int ys.length) H):=by
 intro VL s σ H xs us Q I r h;obtain⟨p,ys,rfl,hq,q⟩:=h;obtain⟨u,rfl,rx⟩:=xV r;cases rx;have hn:=yk;rcases hq with hq|hq
 .obtain⟨its,r',pl,hz⟩:=I.list hq;have VR:=r'.length;exact Calls.call_len_list pl.isList (by simp only[dh]<;>omega) ⟨.int ys.length,H,I.tok _,⟨s.toks+1,by rw[dh,VR]⟩,q⟩
 .obtain⟨its,r',pl,hz⟩:=I.tuple hq;have VR:=r'.length;exact len_tuple pl (by simp only[dh]<;>omega) ⟨.int ys.length,H,I.tok _,⟨s.toks+1,by rw[dh,VR]⟩,q⟩
def DF:yz X (.builtin "len") (λxs H Q=>∃z,xs=[.str z]/\z.length<=sizeLine/\Q (.int z.length) H):=by intro VL s σ H xs us Q I r h;obtain⟨z,rfl,hz,q⟩:=h;obtain⟨u,rfl,t,rfl⟩:=xV r;have hn:=yk;exact len_str (by omega) ⟨.int z.length,H,I.tok _,⟨_,rfl⟩,q⟩
def Ew:yz X (.type "list") (λxs H Q=>∃p ys,xs=[.ref p]/\(yu X.K H p ys\/uG X.K H p ys)/\∀l,H l=none->Q (.ref l) (upd H l (.lst ys))):=by
 intro VL s σ H xs us Q I r h;obtain⟨p,ys,rfl,hq,q⟩:=h;obtain⟨u,rfl,rx⟩:=xV r;cases rx;have VP:∀(its:List Vl),qh ys its->ys.length<=sizeLine->∀(h':Heap) (c':Nat),(∀b o',s.heap.get? b=some o'->h'.get? b=some o')->
   h'.get? s.heap.objs.size=some {cls:=.type "list",dict:=none,data:=.seq its.toArray c',slots:=#[]}->EP X VL σ Q (.ref s.heap.objs.size) {s with heap:=h'}:=λits r' hz h' c' kp e=>
  ⟨.ref s.heap.objs.size,_,I.laid (t':=s.toks) kp (de _) (show rK X.prog X.w _ h' _ (.lst ys)from⟨hz,its,c',r',e⟩),rfl,q _ (I.mG.fresh (de _))⟩
 rcases hq with hq|hq
 .obtain⟨its,r',pl,hz⟩:=I.list hq;have VR:=r'.length;obtain⟨o,ho,hc,n,hd⟩:=pl.isList;exact call_list_seq p (.inl rfl) ho hc hd (λh' c' kp e=>VP its r' hz h' c' kp e) (by simp only[dh]<;>omega)
 .obtain⟨its,r',pl,hz⟩:=I.tuple hq;have VR:=r'.length;obtain⟨o,ho,hc,n,hd⟩:=pl;exact call_list_seq p (.inr rfl) ho hc hd (λh' c' kp e=>VP its r' hz h' c' kp e) (by simp only[dh]<;>omega)
def vw:yz X (.type "tuple") (λxs H Q=>∃p ys,xs=[.ref p]/\((yu X.K H p ys/\∀l,H l=none->Q (.ref l) (upd H l (.tup ys)))\/(uG X.K H p ys/\Q (.ref p) H))):=by
 intro VL s σ H xs us Q I r h;obtain⟨p,ys,rfl,h⟩:=h;obtain⟨u,rfl,rx⟩:=xV r;cases rx;rcases h with⟨hq,q⟩|⟨hq,q⟩
 .obtain⟨its,r',pl,hz⟩:=I.list hq;have VR:=r'.length;refine call_tuple_list pl.isList (λh' kp=>?_) (by simp only[dh]<;>omega);have I1:Inv X VL σ H {s with heap:=h'}:=I.kept (t':=s.toks) kp;have I2:Inv X VL σ (upd H h'.objs.size (.tup ys)) {s with heap:=h'.push {cls:=.type "tuple",data:=.seq its.toArray}}:=
   I1.laid (t':=s.toks) (λb o e=>cX _ e) (de _) (show rK X.prog X.w _ _ _ (.tup ys)from⟨hz,its,r',DR.new _ _⟩)
  exact⟨.ref h'.objs.size,_,I2,rfl,q _ (I1.mG.fresh (de _))⟩
 .obtain⟨its,r',pl,hz⟩:=I.tuple hq;exact call_tuple_same pl ⟨.ref p,H,I,rfl,q⟩
def UE(K:pU)(T:String)(x:V)(H:Hp):Prop:=match x with
 | .str _=>T="str"
 | .int _=>T="int"
 | .ref p=>(T="list"/\∃xs,yu K H p xs)\/(T="tuple"/\∃o,K.lookup p=some o/\o.cls=.type "tuple"/\o.dict=none)\/
   (T="dict"/\((∃kvs,H p=some (.dK kvs))\/∃kvs,H p=some (.dT kvs)))\/(T="set"/\∃S n,H p=some (.set S n))
 | _=>False
def Ru{VL:List (Addr×Obj)}{σ:St}{H:Hp}{s:Sd}{T:String}{x:V}{v:Vl}(I:Inv X VL σ H s)(r:qp x v)(ty:UE X.K T x H):
  s.TypeIs v T/\∀a,v=.ref a->∃ob,s.heap.get? a=some ob/\ob.dict=none:=by
 cases x with
 | str z=>obtain⟨t,rfl⟩:=r;cases(show T="str" from ty);exact⟨typeIs_str s z t,λ_ e=>nomatch e⟩
 | int i=>obtain⟨t,rfl⟩:=r;cases(show T="int" from ty);exact⟨lQ s i t,λ_ e=>nomatch e⟩
 | ref p=>
  cases r;rcases ty with⟨rfl,xs,hq⟩|⟨rfl,o,hk,hc,hd⟩|⟨rfl,hk⟩|⟨rfl,S,n,hk⟩
  .obtain⟨its,_,pl,_⟩:=I.list hq;refine⟨pl.isList.typeIs,λa e=>?_⟩;cases e;obtain⟨o,n,e,c,hd,_⟩:=pl;exact⟨o,e,hd⟩
  .refine⟨⟨o,I.mR p o hk,hc⟩,λa e=>?_⟩;cases e;exact⟨o,I.mR _ o hk,hd⟩
  .have z:∃o,s.heap.get? p=some o/\o.ExactDict:=by
    rcases hk with⟨kvs,hk⟩|⟨kvs,hk⟩
    .obtain⟨_,_,_,_,o,_,_,e,ex,_⟩:=I.mG p _ hk;exact⟨o,e,ex⟩
    .obtain⟨_,_,_,_,o,_,_,e,ex,_⟩:=I.mG p _ hk;exact⟨o,e,ex⟩
   obtain⟨o,e,ex⟩:=z;refine⟨⟨o,e,ex.1⟩,λa e2=>?_⟩;cases e2;exact⟨o,e,ex.2.1⟩
  .obtain⟨o,_,_,_,e,ex,_⟩:=I.mG p _ hk;refine⟨⟨o,e,ex.1⟩,λa e2=>?_⟩;cases e2;exact⟨o,e,ex.2.1⟩
 | _=>exact False.elim ty
def VH(K:pU)(T:String)(r:V->List V->Hp->VK->Prop)(to:TE)(t:TA):TE:=λσ H Q=>to σ H λx H1=>UE K T x H1/\t σ H1 λxs H2=>r x xs H2 Q
def Tu(pa:PlainAttrs T)(slot:Slot T name id)(hty:typeOf (.builtin id)=pure (.type "method_descriptor"))(hm:Ve X id r)(ho:PE X o to)(ha:PA X (e::es) t) (Wb:attributeBase o name X.env (eval o X.env)=eval o X.env:=by rfl)
  (W2:((backTo VS (starEach (e::es) X.env)).all (λx=>!x.1)&&(backToKw VS (keywordEach [] X.env)).all (λx=>x.1.isSome)
   &&decide ((e::es).length+([]:List Keyword).length+(if ([]:List Keyword).isEmpty then 0 else 1)<30))=true:=by rfl)
  (Wn:(VO.endLine==VS.line)=true:=by rfl) (hs:Az X e es:=by rfl) (V6:B0 X VS es:=by rfl):
  PE X (.Call (.Attribute o name VO) (e::es) [] VS) (VH X.K T r to t):=by
 intro VL s σ H Q I h;refine wpAny_Call_method_late Wb W2 Wn rfl (rR (ho VL s σ H _ I h) λv s1 zz=>?_);obtain⟨x,H1,I1,r1,ty,q1⟩:=zz;obtain⟨h1,h2⟩:=Ru I1 r1 ty;refine⟨T,id,pa,slot,hty,h1,h2,?_⟩;have hA:=ha VS VL s1 σ H1 _ I1 q1;rw[hs]at hA ⊢;refine Calls.callWith_builtin (by show(false||(backTo VS (starEach es X.env)).any (·.1))=false;rw[V6]<;>rfl) (Calls.evalArgs_plain ?_);exact rR hA λus s2 zz=>x5 zz λvs H2 I2 r2 q2=>hm VL s2 σ H2 x vs v us Q I2 r1 r2 q2
end
def VE(X:Cx)(id:String)(r:V->List V->Hp->VK->Prop):Prop:=
 ∀(VL:List (Addr×Obj)) (s:Sd) (σ:St) (H:Hp) (x:V) (xs:List V) (v:Vl) (us:List Vl) (Q:VK),Inv X VL σ H s->qp x v->qh xs us->r x xs H Q->
  wpAny (model X.prog X.w) X.A (call (.builtin id) (v::us)) (EP X VL σ Q) X.xe s
def qh.one:∀{x:V} {us:List Vl},qh [x] us->∃u,us=[u]/\qp x u
 | _,_,.cons r .nil=>⟨_,rfl,r⟩
theorem qh.rep{xs:List V}{us:List Vl}(h:qh xs us):∀k:Nat,qh (List.replicate k xs).flatten (List.replicate k us).flatten
 | 0=>.nil
 | k+1=>by rw[eF,eF,fM,fM];exact qh.append h (qh.rep h k)
theorem C7(its:List Vl):∀(k:Nat) (acc:List Vl),List.foldl (λx1 x2=>x1++x2) acc.toArray (List.replicate k its.toArray)=(acc++(List.replicate k its).flatten).toArray
 | 0,acc=>by simp
 | k+1,acc=>by
  have e:acc.toArray++its.toArray=(acc++its).toArray:=by simp
  have e2:(acc++its)++(List.replicate k its).flatten=acc++(List.replicate (k+1) its).flatten:=by rw[eF,fM,fi]
  rw[<-e2,<-C7 its k (acc++its),<-e,eF,fV]
variable {VL:List (Addr × Obj)}{σ:St}{H:Hp}{s:Sd}{l:Addr}{xs ys zs:List V}
section
variable {b:Addr}
def Inv.lset{its its':List Vl}{n:Nat}{f:Array Vl->Array Vl}{t':Nat}(I:Inv X VL σ H s)(hH:H l=some (.lst xs)) (e:s.heap.get? l=some {cls:=.type "list",data:=.seq its.toArray n}) (hf:f its.toArray=its'.toArray) (hv:qh ys its') (hz:ys.length<=sizeLine):
  Inv X VL σ (upd H l (.lst ys)) {s with heap:=s.heap.update l (Obj.mapSeq f),toks:=t'}:=by
 have q:=PySem.IsL.update e f;rw[hf]at q;refine I.write (x:=l) (e:=l) (by rw[hH];exact trivial) (.inl rfl) (λb' u hb hu=>(gb s.heap (Obj.mapSeq f) (dM hb)).trans hu) ⟨_,q⟩ ?_;exact⟨hz,its',_,hv,q⟩
def Inv.oA{its:List Vl}{t':Nat}(I:Inv X VL σ H s)(hv:qh ys its)(hz:ys.length<=sizeLine):
  Inv X VL σ (upd H s.heap.objs.size (.lst ys)) {s with heap:=s.heap.push {cls:=.type "list",data:=.seq its.toArray},toks:=t'}:=
 I.laid (λ_ _ q=>cX _ q) (de _) ⟨hz,its,0,hv,dF _ rfl⟩
def Inv.fresh(I:Inv X VL σ H s):H s.heap.objs.size=none:=I.mG.fresh (de _)
def Inv.oy(I:Inv X VL σ H s)(hH:H l=some (.lst xs)):xs.length<=sizeLine/\∃(its:List Vl) (n:Nat),qh xs its/\xs.length=its.length/\s.heap.get? l=some {cls:=.type "list",data:=.seq its.toArray n}:=by obtain⟨z,its,n,r,e⟩:=I.mG l _ hH;exact⟨z,its,n,r,r.length,e⟩
def KO{n:Nat}(h:n<=sizeLine):Builtin.List.listTooLong n=false:=by unfold Builtin.List.listTooLong;exact eO (by omega)
end
def MV:V->List V->Hp->VK->Prop:=λx vs H Q=>∃l xs y,x=.ref l/\vs=[y]/\H l=some (.lst xs)/\xs.length<sizeLine/\Q .mC (upd H l (.lst (xs++[y])))
def IH:VE X "list.append" MV:=by intro VL s σ H x vs v us Q I rx rv h;obtain⟨l,xs,y,rfl,rfl,hH,hz,q⟩:=h;cases rx;obtain⟨u,rfl,ru⟩:=rv.one;obtain⟨z,its,n,r,hl,e⟩:=I.oy hH;refine jo F.slot_list_append ⟨_,e,rfl⟩ F.entry_list_append (F.args_list_append_2 _ _) (PySem.list_append l its.toArray n u (by rw[dh];omega)) ⟨e,?_⟩;refine⟨.mC,_,I.lset (its':=its++[u]) hH e (by simp) (r.append (.cons ru .nil)) ?_,rfl,q⟩;rw[cU,dH];omega
def Uv:R2:=λx y H Q=>∃l k xs,x=.ref l/\y=.int k/\H l=some (.lst xs)/\-(2 ^ 63)<=k/\k<2 ^ 63/\xs.length*k.toNat<=sizeLine/\
 ∀p,H p=none->Q (.ref p) (upd H p (.lst (List.replicate k.toNat xs).flatten))
def N8{α:Type}(xs:List α)(k:Nat):(List.replicate k xs).flatten.length=k*xs.length:=by
 induction k with
 | zero=>simp
 | succ k ih=>rw[eF,fM,cU,ih,l0,Nat.add_comm]
def Ri:wH X (binaryOp .Mult) Uv:=by
 intro VL s σ H x y v u Q I rx ry h;obtain⟨l,k,xs,rfl,rfl,hH,h1,h2,hz,q⟩:=h;cases rx;obtain⟨t,rfl⟩:=ry;obtain⟨z,its,n,r,hl,e⟩:=I.oy hH;have VR:its.toArray.size*k.toNat<=sizeLine:=by rw[dh,<-hl];exact hz
 have hcap:¬its.toArray.size*k.toNat>(2 ^ 63 - 1) / 8:=by
  have:(sizeLine:Nat)<=(2 ^ 63 - 1) / 8:=by decide
  omega
 have Wp:¬(!Builtin.List.listFitsIndex k)=true:=by rw[fitsIndex_both h1 h2];exact dw
 have hlong:¬Builtin.List.listTooLong (its.toArray.size*k.toNat)=true:=by rw[KO VR];exact dw
 have Xw:List.foldl (λx1 x2=>x1++x2) #[] (List.replicate (if its.toArray.isEmpty=true then 0 else k.toNat) its.toArray)=(List.replicate k.toNat its).flatten.toArray:=by
  have f0:∀m:Nat,List.foldl (λx1 x2=>x1++x2) #[] (List.replicate m its.toArray)=(List.replicate m its).flatten.toArray:=λm=>by have:=C7 its m [];rw[dW]at this;exact this
  rw[f0];cases its with
  | nil=>simp
  | cons a r'=>rw[cW (by simp)]
 refine wpAny_binaryOp_repeat_ref (T:="list") (U:="int") (by decide) ⟨_,e,rfl⟩ (λs'=>lQ s' k t) noFill_list_mul F.fills_int_mul lR repeat_list F.slot_int_index.lookup
  (jo lR (lQ s k t) F.entry_int_rmul (F.args_int_rmul_2 _ _) (int___rmul___int_list k t l its.toArray n)
   ⟨e,rfl,⟨_,e,rfl⟩,jo F.slot_list_mul ⟨_,e,rfl⟩ F.entry_list_mul (F.args_list_mul_2 _ _) (AutoListH.list___mul___list_int_3 l its.toArray n k t Wp hcap hlong) ⟨e,?_⟩⟩)
 rw[Xw];exact⟨.ref _,_,I.oA (t':=s.toks) (r.rep k.toNat) (by rw[N8,Nat.mul_comm];exact hz),rfl,q _ I.fresh⟩
variable {prog:Pg}{w:Wo}{A:Ar}{E:Vl→Sd→Prop}
end L2
namespace Att
open PySem PySem.W PySem.Calls PyProof.Rows
def Aq{P:Params}{h:Heap}:∀(ns:List Int) (vs:List Vl),WellAll P h vs (ns.map WData.int)->IntsAre vs ns:=by
 intro ns;induction ns with
 | nil=>intro vs w;rw[hU]at w;cases w;exact .nil
 | cons n ns ih=>
  intro vs w;rw[dR]at w;cases w with
  | cons a b=>cases a;exact .cons _ _ (ih _ b)
def IV{l:OpenLaw}{n:Nat}(hn:l.most=some n){P:Params}{h:Heap}{args:List WData}{YH:List Vl} (X2:l.row.toRowW.claim.pre args=true) (hwl:WellAll P h YH args):
  ∃a vs ns,YH=[Value.ref a]/\args=[WData.list (ns.map WData.int)]/\h.get? a=some {cls:=.type "list",data:=.seq vs.toArray}/\IntsAre vs ns/\ns.length<=n:=by
 have hsh:WShape.hasAll [] args [.list .int]=true:=(pre_splitW X2).1;have hc:l.pre.holds [] {args:=args}=true:=(pre_splitW X2).2;obtain⟨d,r,rfl,h1,h2⟩:=hasAllW_cons hsh;obtain rfl:=hasAllW_nil h2;obtain⟨xs,rfl,h3⟩:=hasW_list h1;obtain⟨ns,rfl⟩:=items_int h3;have VR:ns.length<=n:=by
  unfold OpenLaw.pre at hc;have h4:(WTm.not (.lt (.lit (.int (n:Int))) (.len (.arg 0)))).holds [] {args:=[.list (ns.map .int)]}=true:=by have h4:=(holds_andW hc).1;rw[hn]at h4;exact h4
  have h5:=condW_of h4 (w_not (w_lt w_lit (w_len_list (w_arg rfl))));rw[cR]at h5;refine Nat.le_of_not_lt λq=>?_;have q':(n:Int)<((ns.length:Nat):Int):=by omega
  first
   | (rw[dQ q']at h5;exact absurd h5 (by decide))
   | (simp at h5;omega)
 cases hwl with
 | cons w1 w2=>
  cases w2;cases w1 with
  | list ho Wv=>exact⟨_,_,ns,rfl,rfl,ho,Aq ns _ Wv,VR⟩
def Jy(l:OpenLaw)(args:List WData):l.row.toRowW.claim.post args (.bool true) args=true:=
 postW_of (r:=l.row.toRowW) (X:=(true==true))
  (show WShape.has [] (.bool true) .bool=true by first|rfl|decide|simp[WShape.has,WShape.arms,WShape.armsAll])
  (show(WTm.eq .res (.lit (.bool true))).value [] {args:=args,res:=some (.bool true),after:=args}=some (.bool (true==true))from w_eq_bool (w_res rfl) w_lit) rfl
def attach_call{l:OpenLaw}{n:Nat}{q:Pg}{WD:List Str}{XP:(Str->Option Vl)->Heap->Prop}{YP:Wo->Heap->Prop}{d:DefRec} (hn:l.most=some n) (Yo:d.params.defaults=[]) (call:∀(w:Wo) (s₀ s₁:Sd) (mg mb:Str->Option Vl) (fa:Addr) (o:Obj) (pm cd Ws:Vl) (a:Addr) (vs:List Vl) (ns:List Int),Ground q WD [] XP w s₀ mg mb s₁.heap->YP w s₁.heap->
   s₁.heap.get? fa=some o->o.data=.func (docDef d.name d.params d.body d.scope pm cd Ws)->s₁.heap.CodeRec cd d.name->mg d.name=some (.ref fa)->
   s₁.heap.get? a=some {cls:=.type "list",data:=.seq vs.toArray}->IntsAre vs ns->ns.length<=n->s₁.gens=#[]->
   codeAny (model l.prog w) callerA (.call (.ref fa) ⟨[.ref a],[]⟩) (λr s'=>r=.ok (.ret (.bool true))/\OldK s₁.heap s'.heap/\s'.os=s₁.os/\AllBare s'.gens) s₁):
  WalkO q WD XP YP l.row.toRowW d [] (λf vs=>PySem.call f vs):=by
 intro w s₀ s₁ mg mb G Y fa o pm cd Ws dV kV ho hd WO hD hmg hg args YH as X2 hlay hrd hwl hlo;obtain rfl:dV=.none:=Dflts.none hD Yo;obtain rfl:kV=.none:=Dflts.noKw hD;obtain⟨a,vs,ns,rfl,rfl,YI,Xx,VR⟩:=IV hn X2 hwl;refine enter_call (gj (call w s₀ s₁ mg mb fa o pm cd Ws a vs ns G Y ho (fd_plain hd) WO hmg YI Xx VR hg) λr s' hq=>?_);obtain⟨rfl,h2,h3,h4⟩:=hq;exact⟨.inl ⟨.bool true,.bool true,[],rfl,λ_=>rfl,.bool true,Jy l _,λ_=>⟨List.Pairwise.nil,λ_ hm=>(nomatch hm)⟩⟩,h2,h3,h4⟩
variable {prog:Pg}{w:Wo}{A:Ar}{E:Vl→Sd→Prop}{s:Sd}{K:Frag}
end Att
namespace L2
open PySem PySem.Spec PyProof.Rows
theorem CP:∀{vs:List Vl} {ns:List Int},IntsAre vs ns->qh (ns.map V.int) vs
 | _,_,.nil=>.nil
 | _,_,.cons n t h=>.cons ⟨t,rfl⟩ (CP h)
def Kd(H:Hp):Prop:=∀b,H b=none\/∃o xs,H b=some (.frz o (.lst xs))
def L'{P:Pg}{w:Wo}{K:pU}{mg mb:Str->Option Vl}{CX:JY}{k:Nat}{fa a:Addr}{fd:FuncData}{x:Str}{sp:Sp}{s₁:Sd}{vs:List Vl}{ns:List Int} (KX:K.In s₁.heap) (hns:s₁.heap.Ns mainGlobals mg) (hb:s₁.heap.Ns builtinsNs mb) (hbb:∀x:Str,x≠"__name__"->mb x=bootBuiltins x) (hlim:s₁.heap.NoLimit) (hg:s₁.gens=#[]) (ha:s₁.heap.get? a=some {cls:=.type "list",data:=.seq vs.toArray}) (hi:IntsAre vs ns) (hl:ns.length<=sizeLine) (hr:rB k callerA)
  (F:∀base:Heap,K.In base->base.Ns mainGlobals mg->wD P w K mg base CX k fa fd [x] sp) (hbind:∀(s:Sd) (u:Vl),BindsTo s fd ⟨[u],[]⟩ [(x,u)])
  (Xi:∀H:Hp,Kd H->yu K H a (ns.map V.int)->sp [.ref a] H (λv _=>v=.bl true) λ_ _ _=>False)
  (hCX:∀H e s',CX [] H s₁ (λ_ _ _=>False) e s'->False):
  codeAny (model P w) callerA (.call (.ref fa) ⟨[.ref a],[]⟩) (λr s'=>r=.ok (.ret (.bool true))/\OldK s₁.heap s'.heap/\s'.os=s₁.os/\AllBare s'.gens) s₁:=by
 have rv:=CP hi;have lenV:=hi.length;have core:∀H:Hp,Kd H->yu K H a (ns.map V.int)->xN P w H s₁.heap->(∀b,H b≠none->b=a)->(H a≠none->K.lookup a=none)->
   codeAny (model P w) callerA (.call (.ref fa) ⟨[.ref a],[]⟩) (λr s'=>r=.ok (.ret (.bool true))/\OldK s₁.heap s'.heap/\s'.os=s₁.os/\AllBare s'.gens) s₁:=by
  intro H hO hS mG hA hK;have Xe:∀{b:Addr} {o:Obj},s₁.heap.get? b=some o->H b=none->(DH s₁.heap H).get? b=some o:=λe n=>Kk e n;have noA:∀{b:Addr} {o:Obj} {es:Array DictEntry} {ep:Nat},s₁.heap.get? b=some o->o.data=.dict es ep->H b=none:=λ{b o es ep} e d=>by
   cases q:H b with
   | none=>rfl
   | some u=>have e':b=a:=hA b (by rw[q];simp);subst e';rw[ha]at e;cases e;have d':Data.seq vs.toArray _=Data.dict es ep:=d;cases d'
  have nsK:∀{b:Addr} {m:Str->Option Vl},s₁.heap.Ns b m->(DH s₁.heap H).Ns b m:=λ{b m} ⟨o,es,ep,e,d,r⟩=>⟨o,es,ep,Xe e (noA e d),d,r⟩;have hKb:K.In (DH s₁.heap H):=λb o e=>Xe (KX b o e) (by
   cases q:H b with
   | none=>rfl
   | some u=>
    have e':b=a:=hA b (by rw[q];simp);subst e';rw[hK (by rw[q];simp)]at e;cases e)
  have hM:Mod K mg (DH s₁.heap H):=⟨hKb,nsK hns,⟨mb,nsK hb,hbb⟩,let⟨mc,h1,h2⟩:=hlim;⟨mc,nsK h1,h2⟩⟩;have e0:Gr P w K mg (DH s₁.heap H) callerA [] s₁ H:=⟨rfl,hM,λb o e=>OJ e,lZ (JB _ _),trivial,λb hb=>absurd (show b∈([]:List Addr)from hb) (by simp),mG,.of_eq hg⟩;refine gj ((F _ hKb (nsK hns)).run callerA [] s₁ H ⟨[.ref a],[]⟩ [.ref a] [.ref a] _ _ hr e0 (hbind s₁ (.ref a)) (.cons rfl .nil) (Xi H hO hS)) λr s' h=>?_;cases r with
  | error e=>exact(hCX H e s' h).elim
  | ok fl=>
   cases fl with
   | next=>exact False.elim h
   | brk=>exact False.elim h
   | cont=>exact False.elim h
   | ret u=>
    obtain⟨v,H',os,bare,un,YJ,r',q⟩:=h;have q':v=.bl true:=q;subst q';obtain rfl:u=Value.bool true:=r';refine⟨rfl,OldK.of_keep λb o e=>?_,os,bare⟩;cases q:H b with
    | none=>exact un.keep b o e q (by intro z;exact absurd (show b∈([]:List Addr)from z) (by simp)) (by simp)
    | some u=>
     rcases hO b with z|⟨ob,xs,z⟩
     .rw[q]at z;cases z
     .have z2:=un.mX b ob _ z;obtain⟨e1,_⟩:=mG b _ z;obtain⟨e2,_⟩:=YJ b _ z2;rw[e]at e1;cases e1;exact e2
 cases hk:K.lookup a with
 | some o=>have e:=KX a o hk;rw[ha]at e;cases e;refine core (λ_=>none) (λ_=>.inl rfl) (.inr ⟨_,vs.toArray,_,hk,rfl,rfl,rfl,by rw[dh,lenV];exact hl,by simpa using rv⟩) (λb u z=>by have z':(none:Option HO)=some u:=z;cases z') (λb z=>absurd rfl z) λz=>absurd rfl z
 | none=>
  refine core (λb=>if b=a then some (.frz {cls:=.type "list",data:=.seq vs.toArray} (.lst (ns.map V.int)))else none) (λb=>?_) (.inl (.inr ⟨{cls:=.type "list",data:=.seq vs.toArray},cY rfl⟩)) (λb u z=>?_) (λb z=>?_) λ_=>hk
  .by_cases hb:b=a
   .exact .inr ⟨_,_,cY hb⟩
   .exact .inl (cW hb)
  .by_cases hb:b=a
   .have z':=(cY hb).symm.trans z;cases z';subst hb;exact⟨ha,by rw[cR];exact hl,vs,_,rv,ha⟩
   .have z':=(cW hb).symm.trans z;cases z'
  .by_cases hb:b=a
   .exact hb
   .exact absurd (cW hb) z
def NG{l:W.OpenLaw}{n k:Nat}{q:Pg}{WD:List Str}{XP:(Str->Option Vl)->Heap->Prop}{YP:Wo->Heap->Prop}{d:DefRec}{K:Params->pU}{CX:Wo->JY}{sp:Wo->Sp}{x:Str} (hn:l.most=some n) (YC:n<=sizeLine) (Yo:d.params.defaults=[]) (hr:rB k callerA) (hY:∀(w:Wo) (h:Heap),YP w h->(K w.params).In h) (F:∀(w:Wo) (mg:Str->Option Vl) (fa:Addr) (h:Heap),(K w.params).In h->h.Ns mainGlobals mg->mg d.name=some (.ref fa)->
   ∃fd:FuncData,(∀(s:Sd) (u:Vl),BindsTo s fd ⟨[u],[]⟩ [(x,u)])/\
    ∀base:Heap,(K w.params).In base->base.Ns mainGlobals mg->wD l.prog w (K w.params) mg base (CX w) k fa fd [x] (sp w))
  (Xi:∀(w:Wo) (H:Hp) (a:Addr) (ns:List Int),ns.length<=n->Kd H->yu (K w.params) H a (ns.map V.int)->sp w [.ref a] H (λv _=>v=.bl true) λ_ _ _=>False)
  (hCX:∀(w:Wo) (H:Hp) (s:Sd) (e:Vl) (s':Sd),CX w [] H s (λ_ _ _=>False) e s'->False):
  W.WalkO q WD XP YP l.row.toRowW d [] (λf vs=>PySem.call f vs):=by
 refine Att.attach_call hn Yo λw s₀ s₁ mg mb fa o pm cd Ws a vs ns G Y ho hd WO hmg YI Xx VR hg=>?_;have KX:=hY w _ Y;obtain⟨fd,hb,hF⟩:=F w mg fa _ KX G.T.g hmg;exact L' KX G.T.g G.T.b G.T.builtins G.T.nolimit hg YI Xx (dX VR YC) hr hF hb (λH hO hS=>Xi w H a ns VR hO hS) λH e s'=>hCX w H s₁ e s'
def OX(s:Stmt)(j:Nat):Stmt:=match s with
 | .ClassDef _ _ _ body _ _ _ _ _ _ _=>body.getD j (.Pass ⟨0,0,0,0⟩)
 | _=>.Pass ⟨0,0,0,0⟩
def tO(s:Stmt):Arguments:=match s with
 | .FunctionDef _ a _ _ _ _ _ _ _ _=>a
 | _=>{posonlyargs:=[],args:=[],vararg:=none,kwonlyargs:=[],kw_defaults:=[],kwarg:=none,defaults:=[]}
def rm(s:Stmt):List Stmt:=match s with
 | .FunctionDef _ _ b _ _ _ _ _ _ _=>b
 | _=>[]
def pL(s:Stmt):Scope:=match s with
 | .FunctionDef _ _ _ _ _ _ sc _ _ _=>sc
 | _=>{kind:=.function,names:=[],isGenerator:=false,isCoroutine:=false}
abbrev MF:JY:=λ_ _ _ _ _ _=>False
abbrev E0:XK:=λ_ _ _=>False
def FT{X:Cx}:BS MF X E0:=λ_ _ _ _ _ _ _ h=>h.elim
structure Pi(K:pU)(x qual:Str)(st:Stmt)(f:Addr)(fd:FuncData):Prop where
 ex:∃(oc:Vl) (od:Option Addr) (kV Ws pm:Vl) (an:Option Addr) (VV ct:Vl) (WI:Array (Option Vl)),
  fd=W.fnOf x qual (tO st) (rm st) (pL st) .none kV Ws pm an VV ct/\K.lookup f=some ⟨oc,od,.func fd,WI⟩/\W.codeIn K VV qual=true
 kp:W.keepIn K (.ref f)=true
variable {P:Pg}{K:pU}{mg:Str→Option Vl}{base:Heap}
section
variable {w:Wo}
def Pi.ok{x qual:Str}{st:Stmt}{f:Addr}{fd:FuncData}{N ps:List Str}{k:Nat}{sp:Sp}(F:Pi K x qual st f fd)(S:so N ps (pL st))(len:∀vs H Q E,sp vs H Q E->vs.length=ps.length) (Wa:∀(VV:Vl) (A:Ar) (outer:List Env) (s:Sd) (H:Hp) (vs:List V) (Q:VK) (E:XK),rB k (A.deeper (envOfC qual (pL st) s.heap.objs.size f VV))->sp vs H Q E->
   ∃t,AK (uR MF P w K mg base N qual (pL st) f VV A outer s H E).nX (rm st) t/\t {nx:=λ_ H'=>Q .mC H',rt:=Q} (start N vs) H):wD P w K mg base MF (k+1) f fd ps sp:=by
 obtain⟨oc,od,kV,Ws,pm,an,VV,ct,WI,rfl,lk,WO⟩:=F.ex;refine KQ lk WO S len λA outer s H vs Q E hr Xi=>?_;obtain⟨t,h,q⟩:=Wa VV A outer s H vs Q E hr Xi;exact⟨t,h.nX,q⟩
def Pi.binds{x qual:Str}{st:Stmt}{f:Addr}{fd:FuncData}{ps:List Str}(F:Pi K x qual st f fd) (h:∀(kV Ws pm:Vl) (an:Option Addr) (VV ct:Vl) (us:List Vl),us.length=ps.length->bindArgs (W.fnOf x qual (tO st) (rm st) (pL st) .none kV Ws pm an VV ct) ⟨us,[]⟩=pure (ps.zip us)):ut K fd ps []:=by
 obtain⟨oc,od,kV,Ws,pm,an,VV,ct,WI,rfl,lk,WO⟩:=F.ex;exact .all (h kV Ws pm an VV ct)
def Ku{x qual:Str}{st:Stmt}{f:Addr}{oc:Vl}{od an:Option Addr}{WI:Array (Option Vl)}{kV Ws pm VV ct:Vl}(l:K.lookup f=some ⟨oc,od,.func (W.fnOf x qual (tO st) (rm st) (pL st) .none kV Ws pm an VV ct),WI⟩) (c:W.codeIn K VV qual=true) (k:W.keepIn K (.ref f)=true):Pi K x qual st f (W.fnOf x qual (tO st) (rm st) (pL st) .none kV Ws pm an VV ct):=⟨⟨oc,od,kV,Ws,pm,an,VV,ct,WI,rfl,l,c⟩,k⟩
end
variable {X:Cx}
def pv(i:Nat){x:Str}{pos:Pos}(hN:X.N[i]?=some x:=by rfl)(hv:Qk X.env.scope x:=by first|exact Or.inl rfl|exact Or.inr (Or.inl rfl)|exact Or.inr (Or.inr rfl))(hd:yb x:=by decide)
  (WO:(x==("__classdict__":Str))=false:=by decide):PE X (.Name x pos) (ES i):=Mo hN hv hd WO
def JU{A B:Prop}(h:B):if false=true then A else B:=by rw[cW dw];exact h
def Pm{A B:Prop}(h:A):if true=true then A else B:=by rw[cY rfl];exact h
def qm{c A B:Prop}[Decidable c](h1:c->A)(h2:¬c->B):if c then A else B:=by
 by_cases h:c
 .rw[cY h];exact h1 h
 .rw[cW h];exact h2 h
def OE(H H':Hp):Prop:=∀b o,H b=some o->H' b=some o
def OE.trans{H H1 H2:Hp}(a:OE H H1)(b:OE H1 H2):OE H H2:=λc o h=>b c o (a c o h)
section
variable {κ:Type}[DecidableEq κ]
def vW(kvs:List (κ×V))(k:κ):Option V:=(kvs.find? λkv=>decide (kv.1=k)).map (·.2)
def xc(kvs:List (κ×V))(k:κ)(v:V):List (κ×V):=
 if (kvs.any λkv=>decide (kv.1=k))=true then kvs.map (λkv=>if kv.1=k then(kv.1,v)else kv)else kvs++[(k,v)]
def BO{p:κ×V}{r:List (κ×V)}{k:κ}(e:p.1=k):vW (p::r) k=some p.2:=by simp[vW,fH,e]
def Bs{p:κ×V}{r:List (κ×V)}{k:κ}(e:¬p.1=k):vW (p::r) k=vW r k:=by simp[vW,fH,e]
theorem FE(k:κ):∀kvs:List (κ×V),(kvs.any λkv=>decide (kv.1=k))=(vW kvs k).isSome
 | []=>rfl
 | p::r=>by
  rw[gc];by_cases e:p.1=k
  .simp only[BO e,dQ e,hW,Option.isSome_some]
  .rw[Bs e,eO e,fF];exact FE k r
def zN(kvs:List (κ×V))(k:κ)(v:V):(xc kvs k v).length<=kvs.length+1:=by
 unfold xc;split
 .rw[cR];omega
 .rw[cU,dY,dD];omega
def xQ.m9{o:Option V}{u:Option Vl}(r:xQ o u):o.isSome=u.isSome:=by
 cases o with
 | none=>cases u with
  | none=>rfl
  | some _=>exact(show False from r).elim
 | some _=>cases u with
  | none=>exact(show False from r).elim
  | some _=>rfl
def KV.val{kvs:List (κ×V)}{vs:List (κ×Vl)}(r:KV kvs vs)(k:κ):xQ (vW kvs k) (valueAt vs k):=by
 unfold KV at r;induction r with
 | nil=>exact True.intro
 | @cons p q ps qs h t ih=>
  obtain⟨h1,h2⟩:=h;by_cases e:p.1=k
  .have e':q.1=k:=h1.symm.trans e;have b:valueAt (q::qs) k=some q.2:=by simp[valueAt,fH,e']
   rw[BO e,b];exact h2
  .have e':¬q.1=k:=λz=>e (h1.trans z);have b:valueAt (q::qs) k=valueAt qs k:=by simp[valueAt,fH,e']
   rw[Bs e,b];exact ih
def KV.any{kvs:List (κ×V)}{vs:List (κ×Vl)}(r:KV kvs vs)(k:κ):(kvs.any λkv=>decide (kv.1=k))=vs.any λkv=>decide (kv.1=k):=by
 unfold KV at r;induction r with
 | nil=>rfl
 | cons h t ih=>rw[gc,gc,ih,h.1]
def KV.n9{kvs:List (κ×V)}{vs:List (κ×Vl)}(r:KV kvs vs)(k:κ){y:V}{u:Vl}(ry:qp y u):
  KV (kvs.map λkv=>if kv.1=k then(kv.1,y)else kv) (vs.map λkv=>if kv.1=k then(kv.1,u)else kv):=by
 unfold KV at r ⊢;induction r with
 | nil=>exact .nil
 | @cons p q ps qs h t ih=>
  rw[dR,dR];refine .cons ?_ ih;obtain⟨h1,h2⟩:=h;by_cases e:p.1=k
  .rw[cY e,cY (h1.symm.trans e)];exact⟨h1,ry⟩
  .rw[cW e,cW (λz=>e (h1.trans z))];exact⟨h1,h2⟩
def KV.put{kvs:List (κ×V)}{vs:List (κ×Vl)}(r:KV kvs vs)(k:κ){y:V}{u:Vl}(ry:qp y u):KV (xc kvs k y) (stored vs k u):=by
 unfold xc stored;rw[r.any k];by_cases e:(vs.any λkv=>decide (kv.1=k))=true
 .rw[cY e,cY e];exact r.n9 k ry
 .rw[cW e,cW e];exact mj r ⟨rfl,ry⟩
def KV.length{kvs:List (κ×V)}{vs:List (κ×Vl)}(r:KV kvs vs):kvs.length=vs.length:=jf r
end
def FB{P:Pg}{w:Wo}{k:qK}{u:Vl}(r:qp (kV k) u):(qZ P w).is k u=true:=by
 cases k with
 | inl i=>obtain⟨t,e⟩:=(show ∃t,u=Value.int i t from r);subst e;exact Fs P w i t
 | inr x=>obtain⟨t,e⟩:=(show ∃t,u=Value.str x t from r);subst e;exact zT P w x t
theorem CV{P:Pg}{w:Wo}:∀{ks:List qK} {us:List Vl},qh (ks.map kV) us->ItemsAre (qZ P w) ks us
 | [],_,r=>by rw[hU]at r;cases r;exact .nil
 | k::ks,_,r=>by
  rw[dR]at r;cases r with
  | cons h t=>exact .cons (FB h) (CV t)
abbrev KT(H:Hp):List (List qK×V)->List (List qK×Addr×Vl)->Prop:=Paired λp q=>p.1=q.1/\H q.2.1=some (.tup (p.1.map kV))/\qp p.2 q.2.2
def KT.val{H:Hp}{kvs:List (List qK×V)}{xs:List (List qK×Addr×Vl)}(r:KT H kvs xs)(k:List qK):xQ (vW kvs k) ((atKey xs k).map (·.2)):=by
 induction r with
 | nil=>exact True.intro
 | @cons p q ps qs h t ih=>
  obtain⟨h1,_,h2⟩:=h;by_cases e:p.1=k
  .have e':q.1=k:=h1.symm.trans e;have b:atKey (q::qs) k=some q.2:=by simp[atKey,fH,e']
   rw[BO e,b];exact h2
  .have e':¬q.1=k:=λz=>e (h1.trans z);have b:atKey (q::qs) k=atKey qs k:=by simp[atKey,fH,e']
   rw[Bs e,b];exact ih
def KT.n9{H:Hp}{kvs:List (List qK×V)}{xs:List (List qK×Addr×Vl)}(r:KT H kvs xs)(k:List qK){y:V}{u:Vl}(ry:qp y u):
  KT H (kvs.map λkv=>if kv.1=k then(kv.1,y)else kv) (xs.map (putAt k u)):=by
 induction r with
 | nil=>exact .nil
 | @cons p q ps qs h t ih=>
  rw[dR,dR];refine .cons ?_ ih;obtain⟨h1,h2,h3⟩:=h;unfold putAt;by_cases e:p.1=k
  .rw[cY e,cY (h1.symm.trans e)];exact⟨h1,h2,ry⟩
  .rw[cW e,cW (λz=>e (h1.trans z))];exact⟨h1,h2,h3⟩
def KT.put{H:Hp}{kvs:List (List qK×V)}{xs:List (List qK×Addr×Vl)}(r:KT H kvs xs)(k:List qK){b:Addr}{y:V}{u:Vl}(hb:H b=some (.tup (k.map kV)))(ry:qp y u):
  KT H (xc kvs k y) (storedH xs k b u):=by
 have e:(kvs.any λkv=>decide (kv.1=k))=(atKey xs k).isSome:=by rw[FE,(r.val k).m9,jk]
 unfold xc storedH;rw[e];by_cases q:(atKey xs k).isSome=true
 .rw[cY q,cY q];exact r.n9 k ry
 .rw[cW q,cW q];exact mj r ⟨rfl,hb,ry⟩
def KT.keeps{H H':Hp}{kvs:List (List qK×V)}{xs:List (List qK×Addr×Vl)}(r:KT H kvs xs)(ht:∀b ys,H b=some (.tup ys)->H' b=some (.tup ys)):KT H' kvs xs:=
 Paired.nY r λ_ _ z=>⟨z.1,ht _ _ z.2.1,z.2.2⟩
variable {H:Hp}{h:Heap}{a:Addr}
section
variable {w:Wo}
def Px{u:HO}(ok:xN P w H h)(e:Rd H a u):rK P w H h a u:=e.ok ok
def Iy{kvs:List (qK×V)}(ok:xN P w H h)(e:Rd H a (.dK kvs)):kvs.length<=sizeLine/\(a==sysModules)=false/\∃vs,KV kvs vs/\h.DictOf (qZ P w) a vs:=
 show rK P w H h a (.dK kvs)from Px ok e
def SD{kvs:List (qK×V)}(ok:xN P w H h)(e:H a=some (.dK kvs)):kvs.length<=sizeLine/\(a==sysModules)=false/\∃vs,KV kvs vs/\h.DictOf (qZ P w) a vs:=Iy ok (.inl e)
def DA{ks:List qK}(ok:xN P w H h)(e:H a=some (.tup (ks.map kV))):(tupleKind (qZ P w)).is h ks a:=by obtain⟨_,its,r,o,h1,h2,⟨n,h3⟩,_⟩:=(show rK P w H h a (.tup (ks.map kV))from ok a _ e);exact⟨o,its.toArray,n,h1,h2,h3,by simpa using CV r⟩
def HG{kvs:List (List qK×V)}(ok:xN P w H h)(e:Rd H a (.dT kvs)):kvs.length<=sizeLine/\(a==sysModules)=false/\
  ∃xs,KT H kvs xs/\h.DictOfH (tupleKind (qZ P w)) a xs:=by
 obtain⟨z,y,xs,r,o,es,ep,h1,h2,h3,h4,h5⟩:=(show rK P w H h a (.dT kvs)from Px ok e);refine⟨z,y,xs,r,o,es,ep,h1,h2,h3,h4,λx hx=>?_,h5⟩;have all:∀{l:List (List qK×V)} {m:List (List qK×Addr×Vl)},KT H l m->∀x∈m,(tupleKind (qZ P w)).is h x.1 x.2.1:=by
  intro l m q;induction q with
  | nil=>intro x hx;exact nomatch hx
  | @cons p q ps qs hq t ih=>
   intro x hx;rcases c9.mp hx with e|hx
   .subst e;exact DA ok (by rw[<-hq.1];exact hq.2.1)
   .exact ih x hx
 exact all r x hx
def To{kvs:List (List qK×V)}(ok:xN P w H h)(e:H a=some (.dT kvs)):kvs.length<=sizeLine/\(a==sysModules)=false/\
  ∃xs,KT H kvs xs/\h.DictOfH (tupleKind (qZ P w)) a xs:=HG ok (.inl e)
end
def Dy(H:Hp)(a:Addr)(y:V)(r:Option V):Prop:=
 (∃kvs k,Rd H a (.dK kvs)/\y=kV k/\r=vW kvs k)\/∃kvs k b,Rd H a (.dT kvs)/\y=.ref b/\H b=some (.tup (k.map kV))/\r=vW kvs k
def KP(H:Hp)(a:Addr)(y v:V)(H':Hp):Prop:=
 (∃kvs k,H a=some (.dK kvs)/\y=kV k/\kvs.length<sizeLine/\H'=upd H a (.dK (xc kvs k v)))\/
 ∃kvs k b,H a=some (.dT kvs)/\y=.ref b/\H b=some (.tup (k.map kV))/\kvs.length<sizeLine/\H'=upd H a (.dT (xc kvs k v))
def Dy.k{H:Hp}{a:Addr}{kvs:List (qK×V)}{k:qK}(e:H a=some (.dK kvs)):Dy H a (kV k) (vW kvs k):=.inl ⟨kvs,k,.inl e,rfl,rfl⟩
def KP.k{H:Hp}{a:Addr}{kvs:List (qK×V)}{k:qK}{v:V}(e:H a=some (.dK kvs))(hl:kvs.length<sizeLine):KP H a (kV k) v (upd H a (.dK (xc kvs k v))):=.inl ⟨kvs,k,e,rfl,hl,rfl⟩
variable {VL:List (Addr × Obj)}{σ:St}{y v:V}{u r:Vl}
section
variable {s:Sd}{o:Option V}{A:Ar}{E:Vl→Sd→Prop}
def Inv.big(I:Inv X VL σ H s):sysModules<s.heap.objs.size:=by have h:mainGlobals<s.heap.objs.size:=(I.mod.glob.keeps I.bk).lt;exact jy (by decide) h
def Jo{Q:Vl->Sd->Prop}(hu:A.units+1<cLine)(I:Inv X VL σ H s)(g:Dy H a y (some v))(ry:qp y u)(h:∀w' s',Inv X VL σ H s'->qp v w'->Q w' s'):
  wpAny (model X.prog X.w) A (getItem (.ref a) u) Q E s:=by
 rcases g with⟨kvs,k,e,ey,l⟩|⟨kvs,k,b,e,ey,eb,l⟩
 .subst ey;obtain⟨z,hd,vs,rel,dd⟩:=Iy I.mG e;obtain⟨w',hw,X1⟩:=xQ.some_of (v:=v) (o:=valueAt vs k) (by rw[l];exact rel.val k);exact wpAny_getItem_of (FB ry) dd.mapOf hw (h w' _ (I.tok _) X1)
 .subst ey;cases(show u=Value.ref b from ry);obtain⟨z,hd,xs,rel,dd⟩:=HG I.mG e;obtain⟨w',hw,X1⟩:=xQ.some_of (v:=v) (o:=(atKey xs k).map (·.2)) (by rw[l];exact rel.val k);obtain⟨p,hp,VT⟩:=iy.mp hw;refine wpAny_getItem_heap (jb hu) (DA I.mG eb) dd hp ?_;rw[VT];exact h w' _ (I.tok _) X1
def UC{Q:Vl->Sd->Prop}(hu:A.units+1<cLine)(I:Inv X VL σ H s)(g:Dy H a y o)(ry:qp y u)(h:∀s',Inv X VL σ H s'->Q (.bool o.isSome) s'):
  wpAny (model X.prog X.w) A (compareOp .In u (.ref a)) Q E s:=by
 rcases g with⟨kvs,k,e,ey,l⟩|⟨kvs,k,b,e,ey,eb,l⟩
 .subst ey;obtain⟨z,hd,vs,rel,dd⟩:=Iy I.mG e;refine wpAny_in_of (FB ry) hd dd.mapOf ?_;rw[<-(rel.val k).m9,<-l];exact h _ (I.tok _)
 .subst ey;cases(show u=Value.ref b from ry);obtain⟨z,hd,xs,rel,dd⟩:=HG I.mG e;refine wpAny_in_heap (jb hu) (DA I.mG eb) hd dd ?_;have q:=(rel.val k).m9;rw[jk]at q;rw[<-q,<-l];exact h _ (I.tok _)
def Ic{h':Heap}{t':Nat}{ob:HO}(I:Inv X VL σ H s)(mu:SN (H a))(hs:Heap.SameBut a s.heap h')(he:∃q,h'.get? a=some q)(new:rK X.prog X.w (upd H a ob) h' a ob):
  Inv X VL σ (upd H a ob) {s with heap:=h',toks:=t'}:=
 I.write (x:=a) (e:=a) mu (.inl rfl) (λb q hb z=>(hs.2 b hb).trans z) he new
def J7{P:Pg}{w:Wo}{H':Hp}{h':Heap}{kvs:List (qK×V)}{vs:List (qK×Vl)}(z:kvs.length<=sizeLine)(hd:(a==sysModules)=false)(rel:KV kvs vs)(dd:h'.DictOf (qZ P w) a vs):
  rK P w H' h' a (.dK kvs):=⟨z,hd,vs,rel,dd⟩
def JF{H':Hp}{Q:Unit->Sd->Prop}(hu:A.units+1<cLine)(I:Inv X VL σ H s)(g:KP H a y v H')(ry:qp y u)(rv:qp v r)(h:∀s',Inv X VL σ H' s'->Q () s'):
  wpAny (model X.prog X.w) A (setItem (.ref a) u r) Q E s:=by
 rcases g with⟨kvs,k,e,ey,l,eH⟩|⟨kvs,k,b,e,ey,eb,l,eH⟩
 .subst ey eH;obtain⟨z,hd,vs,rel,dd⟩:=SD I.mG e;have hz:vs.length<=sizeLine:=by rw[<-rel.length];exact z
  have hl:(xc kvs k v).length<=sizeLine:=by have:=zN kvs k v;omega
  refine wpAny_setItem_pairs (hsz:=hz) (FB ry) dd λh' dd' hs=>h _ ?_;have he:∃q,h'.get? a=some q:=let⟨q,_,_,hq,_⟩:=dd';⟨q,hq⟩;exact Ic I (by rw[e];exact True.intro) hs he (J7 hl hd (rel.put k rv) dd')
 .subst ey eH;cases(show u=Value.ref b from ry);obtain⟨z,hd,xs,rel,dd⟩:=To I.mG e;have hz:xs.length<=sizeLine:=by rw[<-jf rel];exact z
  have hl:(xc kvs k v).length<=sizeLine:=by have:=zN kvs k v;omega
  refine wpAny_setItem_heap (hsz:=hz) (jb hu) (DA I.mG eb) dd λh' dd' hs=>h _ ?_;obtain⟨q,es,ep,hq,h2,h3,h4,_,h5⟩:=dd';refine Ic I (by rw[e];exact True.intro) hs ⟨q,hq⟩ ⟨hl,hd,_,(rel.put k eb rv).keeps λc ys ec=>?_,q,es,ep,hq,h2,h3,h4,h5⟩;rw[pF (Sr ec e (λz=>nomatch z))];exact ec
end
variable {kvs:List (qK × V)}{k:qK}
section
variable {s:Sd}{A:Ar}{E:Vl→Sd→Prop}
end
def Fi{X:Cx}{VL:List (Addr×Obj)}{σ:St}{H:Hp}{s:Sd}{a:Addr}{y:V}{o:Option V}(I:Inv X VL σ H s)(g:Dy H a y o):s.TypeIs (.ref a) "dict":=by
 rcases g with⟨kvs,k,e,_,_⟩|⟨kvs,k,b,e,_,_,_⟩
 .obtain⟨_,_,vs,_,dd⟩:=Iy I.mG e;exact dd.typeIs
 .obtain⟨_,_,xs,_,dd⟩:=HG I.mG e;exact dd.typeIs
def Si(td ty tv:TE):TS:=λD σ H=>tv σ H λv H1=>td σ H1 λx H2=>ty σ H2 λy H3=>∃a H4,x=.ref a/\KP H3 a y v H4/\D.nx σ H4
variable {i e value:Expr}{pos VU X0:Pos}{td ty tv:TE}
section
variable {o:Expr}
def Ng(hu:X.A.units+1<cLine)(ho:PE X o td)(hi:PE X i ty)(hv:PE X value tv)(hs:swapsWith value (some (.Subscript o i VU)) pos.line X.env=pure false):
  PS X (.Assign [.Subscript o i VU] value pos) (Si td ty tv):=by
 intro VL s σ H D I h;refine wpAny_Assign_Subscript (rR (hv VL s σ H _ I h) λr s1 zz=>x5 zz λv H1 I1 rv q1=>rR (ho VL s1 σ H1 _ I1 q1) λu s2 zz=>x5 zz λx H2 I2 rx q2=>rR (hi VL s2 σ H2 _ I2 q2) λiv s3 zz=>?_) hs;obtain⟨y,H3,I3,ry,a,H4,ex,g,q3⟩:=zz;subst ex;obtain rfl:u=Value.ref a:=rx;exact JF hu I3 g ry rv λs4 I4=>⟨σ,H4,I4,q3⟩
end
def Qe(kvs more:List (qK×V)):List (qK×V):=more.foldl (λacc kv=>xc acc kv.1 kv.2) kvs
def KV.merge:∀{more:List (qK×V)} {rs:List (qK×Vl)} {kvs:List (qK×V)} {vs:List (qK×Vl)},KV more rs->KV kvs vs->KV (Qe kvs more) (merged vs rs):=by
 intro more rs kvs vs r;unfold KV at r;induction r generalizing kvs vs with
 | nil=>intro q;exact q
 | @cons p q ps qs h t ih=>
  intro r0;have e:KV (xc kvs p.1 p.2) (stored vs q.1 q.2):=by have:=r0.put p.1 h.2;rw[<-h.1];exact this
  exact ih e
structure M1(X:Cx)(o:Expr)(m:Str)(VO:Pos)(e:Expr)(VS:Pos):Prop where
 base:attributeBase o m X.env (eval o X.env)=eval o X.env
 oK:((backTo VS (starEach [e] X.env)).all (λx=>!x.1)&&(backToKw VS (keywordEach [] X.env)).all (λx=>x.1.isSome)
  &&decide (([e]:List Expr).length+([]:List Keyword).length+(if ([]:List Keyword).isEmpty then 0 else 1)<30))=true
 line:(VO.endLine==VS.line)=true
 trees:backTo VS (starEach [e] X.env)=[(false,eval e X.env)]
structure M2(X:Cx)(o:Expr)(m:Str)(VO:Pos)(e f:Expr)(VS:Pos):Prop where
 base:attributeBase o m X.env (eval o X.env)=eval o X.env
 oK:((backTo VS (starEach [e,f] X.env)).all (λx=>!x.1)&&(backToKw VS (keywordEach [] X.env)).all (λx=>x.1.isSome)
  &&decide (([e,f]:List Expr).length+([]:List Keyword).length+(if ([]:List Keyword).isEmpty then 0 else 1)<30))=true
 line:(VO.endLine==VS.line)=true
 trees:backTo VS (starEach [e,f] X.env)=[(false,eval e X.env),(false,eval f X.env)]
variable {d:V}
section
variable {s:Sd}{o:Option V}{A:Ar}{E:Vl→Sd→Prop}
end
variable {f:Expr}{VO VS:Pos}{tx:TE}
section
variable {o:Expr}
end
section
variable {s:Sd}{A:Ar}{E:Vl→Sd→Prop}
end
section
variable {s:Sd}{A:Ar}{E:Vl→Sd→Prop}
end
section
variable {κ:Type}[DecidableEq κ]
end
def zX(env:Env):List (Str×NameKind)->List (Str×Addr)->List (Str×Addr)
 | [],acc=>acc
 | (n,k)::r,acc=>zX env r (if k==.free then(n,(env.cells.lookup n).getD 0)::acc else acc)
theorem E5{env:Env}{f:(Str×NameKind)->List (Str×Addr)->Sem (ForInStep (List (Str×Addr)))} (hf:∀x cs,(x.2=.free->∃c,env.cells.lookup x.1=some c)->f x cs=pure (.yield (if x.2==.free then(x.1,(env.cells.lookup x.1).getD 0)::cs else cs))):
  ∀(l:List (Str×NameKind)) (acc:List (Str×Addr)),(∀x∈l,x.2=.free->∃c,env.cells.lookup x.1=some c)->forIn l acc f=pure (zX env l acc)
 | [],acc,_=>by rw[jT];rfl
 | (n,k)::r,acc,h=>by rw[jJ,hf (n,k) acc (h _ dO),pure_bind];exact E5 hf r _ λx hx=>h x (dC _ hx)
def xR{scope:Scope}{env:Env}(h:∀x∈scope.names,x.2=.free->∃c,env.cells.lookup x.1=some c):closureFor scope env=pure (zX env scope.names []):=by
 unfold closureFor;have e:=E5 (env:=env) (f:=λ(x:Str×NameKind) (cs:List (Str×Addr))=>(do
   if x.2==.free then
    let a<-cellOf env x.1
    pure (ForInStep.yield ((x.1,a)::cs))
   else pure (ForInStep.yield cs))) (λx cs hx=>by
  cases hk:x.2==NameKind.free with
  | false=>simp
  | true=>
   obtain⟨c,hc⟩:=hx (by simpa using hk);simp[cellOf,hc]) scope.names [] h
 first
  | exact(eQ (·>>=pure) e).trans (by simp)
  | (simp only[bind_pure];exact e)
  | (rw[<-e];rfl)
theorem Mg{env:Env}{x:Str}{c:Addr}:∀{l:List (Str×NameKind)} {acc:List (Str×Addr)},(∀x∈l,x.2=.free->∃c,env.cells.lookup x.1=some c)->(∀x c,acc.lookup x=some c->env.cells.lookup x=some c)->(zX env l acc).lookup x=some c->env.cells.lookup x=some c
 | [],acc,_,ha,h=>ha x c h
 | (n,k)::r,acc,hl,ha,h=>by
  refine Mg (l:=r) (acc:=if k==.free then(n,(env.cells.lookup n).getD 0)::acc else acc) (λy hy=>hl y (dC _ hy)) (λy d hd=>?_) h;cases hk:k==NameKind.free with
  | false=>rw[hk]at hd;exact ha y d (by simpa using hd)
  | true=>
   rw[hk,cY rfl]at hd;obtain⟨e,he⟩:=hl (n,k) dO (by simpa using hk);rw[eL]at hd;cases hy:y==n with
   | true=>
    rw[hy]at hd;have yn:y=n:=by simpa using hy
    subst yn;have he:env.cells.lookup y=some e:=he;rw[he]at hd ⊢;exact hd
   | false=>rw[hy]at hd;exact ha y d hd
theorem L4{env:Env}{x:Str}:∀{l:List (Str×NameKind)} {acc:List (Str×Addr)},(∃c,acc.lookup x=some c)->∃c,(zX env l acc).lookup x=some c
 | [],_,h=>h
 | (n,k)::r,acc,h=>by
  refine L4 (l:=r) ?_;cases hk:k==NameKind.free with
  | false=>simpa using h
  | true=>
   rw[cY rfl,eL];cases hy:x==n with
   | true=>exact⟨_,rfl⟩
   | false=>exact h
theorem GU{env:Env}{x:Str}:∀{l:List (Str×NameKind)} {acc:List (Str×Addr)},l.lookup x=some .free->∃c,(zX env l acc).lookup x=some c
 | [],_,h=>by simp at h
 | (n,k)::r,acc,h=>by
  rw[eL]at h;cases hy:x==n with
  | true=>rw[hy]at h;have hk:k=.free:=df h;subst hk;refine L4 (l:=r) ⟨(env.cells.lookup n).getD 0,?_⟩;show List.lookup x (if NameKind.free==NameKind.free then(n,(env.cells.lookup n).getD 0)::acc else acc)=some ((env.cells.lookup n).getD 0);rw[cY (by rfl),eL,hy]
  | false=>rw[hy]at h;exact GU (l:=r) h
theorem tR{env:Env}{x:Str}:∀{l:List (Str×NameKind)},(l.map λ(n,k)=>if (k==NameKind.free&&env.scope.kind==.function&&env.kindOf n==some .cell)then(n,NameKind.cell)else(n,k)).lookup x
   = (l.lookup x).map λk=>if (k==NameKind.free&&env.scope.kind==.function&&env.kindOf x==some .cell)then NameKind.cell else k
 | []=>rfl
 | (n,k)::r=>by
  rw[dR];show List.lookup x ((if (k==NameKind.free&&env.scope.kind==.function&&env.kindOf n==some .cell)=true then(n,NameKind.cell)else(n,k))::_)=_;cases hy:x==n with
  | true=>
   have yn:x=n:=by simpa using hy
   subst yn;by_cases hc:(k==NameKind.free&&env.scope.kind==.function&&env.kindOf x==some .cell)=true
   .rw[cY hc,eL,eL,hy];simp only[jK];rw[cY hc]
   .rw[cW hc,eL,eL,hy];simp only[jK];rw[cW hc]
  | false=>
   by_cases hc:(k==NameKind.free&&env.scope.kind==.function&&env.kindOf n==some .cell)=true
   .rw[cY hc,eL,eL,hy];exact tR
   .rw[cW hc,eL,eL,hy];exact tR
def O0(ix:List (Option Nat))(σ:St):St:=ix.map λo=>o.bind λi=>(σ[i]?).join
abbrev Cx.comp(X:Cx)(scope:Scope)(N':List Str)(C:Addr)(s0:Sd)(H0:Hp)(ex:List Addr):Cx:=
 {X with N:=N',s₀:=s0,H₀:=H0,env:=compEnvC scope (zX X.env scope.names []) C X.env,outer:=X.stack,ex:=ex,fn:=λ_=>false,pn:=[],xe:=λ_ _=>False}
structure rF(X:Cx)(scope:Scope)(ix:List (Option Nat))(N':List Str):Prop where
 kind:scope.kind=.function
 nV:∀y∈scope.names,y.2≠.cell
 nam:∀y∈scope.names,y.2=.local->scope.names.lookup y.1=some .local
 fre:∀y∈scope.names,y.2=.free->X.env.scope.names.lookup y.1=some .cell\/X.env.scope.names.lookup y.1=some .free
 len:ix.length=N'.length
 at_:∀(j i:Nat) (x:Str),ix[j]?=some (some i)->N'[j]?=some x->X.N[i]?=some x/\scope.names.lookup x=some .free
variable {scope:Scope}{ix:List (Option Nat)}{N':List Str}{fp:List Addr}
section
variable {s:Sd}
def rF.cells(S:rF X scope ix N')(ok:X.Ok):∀x∈scope.names,x.2=.free->∃c,X.env.cells.lookup x.1=some c:=λx hx hk=>ok.has x.1 (S.fre x hx hk)
def rF.sub(S:rF X scope ix N')(ok:X.Ok){x:Str}{c:Addr}(h:(zX X.env scope.names []).lookup x=some c):X.env.cells.lookup x=some c:=Mg (S.cells ok) (λ_ _ z=>by simp at z) h
theorem uW{x:Str}{k:NameKind}:∀{l:List (Str×NameKind)},l.lookup x=some k->(x,k)∈l
 | [],h=>by simp at h
 | (n,j)::r,h=>by
  rw[eL]at h;cases hy:x==n with
  | true=>
   rw[hy]at h;have yn:x=n:=by simpa using hy
   subst yn;rw[df h];exact dO
  | false=>rw[hy]at h;exact dC _ (uW h)
def Inv.comp{C:Addr}{h1:Heap}{tk:Nat}(I:Inv X VL σ H s)(S:rF X scope ix N')(hf:∀b∈fp,Ap X VL H b)(VX:∀b∈fp,b<s.heap.objs.size)(hC:s.heap.objs.size<=C) (k:∀b o,s.heap.get? b=some o->h1.get? b=some o) (hn:h1.Ns C (λ_=>none)):Inv (X.comp scope N' C s H fp) (X.pn++VL) (O0 ix σ) H {s with heap:=h1,toks:=tk}:=by
 have sub:∀{x:Str} {c:Addr},(zX X.env scope.names []).lookup x=some c->X.env.cells.lookup x=some c:=λh=>S.sub I.ok h;refine⟨⟨I.ok.mod,S.kind,I.ok.glob,I.ok.blt,hC,λx y c e1 e2=>I.ok.inj x y c (sub e1) (sub e2),λx hx=>?_,λ_ _ z=>(dw z).elim,I.ok.hd,I.ok.frames,.inl rfl,λb hb=>⟨dG (dI (VX b hb) hC),λx c e=>(hf b hb).2.2.2.2.1 x c (sub e)⟩,I.bs,dX I.ok.nN I.sz,λb o e hb=>?_,λb hb hfs=>?_,I.stack,I.nq⟩,rfl,I.bare,Un.kept k,⟨_,hn,λi x v e1 e2 e3=>?_⟩,λx c e=>?_,I.mG.fresh hC,λx c e=>I.mM x c (sub e),λp hp=>?_,I.mG.kept k,?_⟩
 .have hx:(relabel scope X.env).names.lookup x=some .cell\/(relabel scope X.env).names.lookup x=some .free:=hx;have e:(relabel scope X.env).names.lookup x=(scope.names.lookup x).map λk=>if (k==NameKind.free&&X.env.scope.kind==.function&&X.env.kindOf x==some .cell)then NameKind.cell else k:=tR
  rw[e]at hx;cases q:scope.names.lookup x with
  | none=>rw[q]at hx;rcases hx with hx|hx<;>simp at hx
  | some kd=>
   cases kd with
   | free=>exact GU q
   | cell=>exact absurd rfl (S.nV _ (uW q))
   | _=>rw[q]at hx;rcases hx with hx|hx<;>simp at hx
 .rcases(hf b hb).2.2.2.1 with z|z
  .exact I.ok.nF b o e z
  .exact absurd (dI (dv e) (dX I.ok.nN z)) (eY _)
 .rcases c9.mp (I.ng b hfs)with z|z
  .exact(hf b hb).2.1 z
  .exact(hf b hb).2.2.1 z
 .have X3:(ix[i]?).map (λo=>o.bind λi=>(σ[i]?).join)=some (some v):=by have z:(O0 ix σ)[i]?=some (some v):=e2;unfold O0 at z;rw[dA]at z;exact z
  cases q:ix[i]? with
  | none=>rw[q]at X3;cases X3
  | some o=>
   rw[q]at X3;cases o with
   | none=>cases X3
   | some j=>
    have X4:(σ[j]?).join=some v:=df X3;have e4:σ[j]?=some (some v):=by
     cases r:σ[j]? with
     | none=>rw[r]at X4;cases X4
     | some w=>rw[r]at X4;exact eQ some X4
    obtain⟨n1,n2⟩:=S.at_ i j x q e1;obtain⟨m,hm,hl⟩:=I.loc;have hk:=S.fre _ (uW n2) rfl;have hv:Qk X.env.scope x:=by
     rcases hk with z|z
     .exact .inr (.inl z)
     .exact .inr (.inr z)
    obtain⟨u,ru,lk⟩:=hl j x v n1 e4 hv;refine⟨u,ru,?_⟩;have YK:X.env.kindOf x=some .cell\/X.env.kindOf x=some .free:=hk;rcases lk with⟨z,_⟩|⟨_,c,hc,hcell⟩
    .rcases YK with y|y<;>(rw[y]at z;cases z)
    .obtain⟨c',hc'⟩:=GU (env:=X.env) (acc:=[]) n2;have:=sub hc';rw[hc]at this;cases this;refine .inr ⟨?_,c,hc',hcell.keeps k⟩;show(relabel scope X.env).names.lookup x=some .cell\/(relabel scope X.env).names.lookup x=some .free;have e:(relabel scope X.env).names.lookup x=(scope.names.lookup x).map λk=>if (k==NameKind.free&&X.env.scope.kind==.function&&X.env.kindOf x==some .cell)then NameKind.cell else k:=tR
     rw[e,n2];simp only[jK];split
     .exact .inl rfl
     .exact .inr rfl
 .obtain⟨v,q⟩:=I.cell x c (sub e);exact⟨v,q.keeps k⟩
 .obtain⟨e,n,ne,nf,d⟩:=I.pin p (by simpa using hp);refine⟨k _ _ e,n,dG (dI (dv e) hC),λz=>?_,d⟩;rcases c9.mp (I.ng p.1 z)with y|y
  .exact ne y
  .exact nf y
 .show(O0 ix σ).length=N'.length;unfold O0;rw[cR];exact S.len
end
section
variable {prog:Pg}{w:Wo}{A:Ar}{R:Result→Sd→Prop}{s:Sd}
def wQ{WG Wk iter:Expr}{Wq:List Expr}{scope:Scope}{pos:Pos}{it acc:Vl}{env:Env}(I:Nat->Sd->Prop){EX:Vl->Sd->Prop}(hEX:∀e s',EX e s'->notedBy (model prog w) A env (λx s'=>R (.error x) s') e s') (turn:∀n s,I n s->wpAny (model prog w) A (pyNext it) (λr s₁=>match r with
   | none=>R (.ok .next) s₁
   | some v=>wpAny (model prog w) A (letOwnedTupleGo Wk it v) (λ_ s₁=>wpAny (model prog w) A (assign Wk env v) (λ_ s₂=>
     wpAny (model prog w) A (forIn Wq true λc r=>if r=true then do let ok<-isTrue c env (eval c env);pure (ForInStep.yield ok)else pure (ForInStep.yield r)) (λok s₃=>
      if ok=true then wpAny (model prog w) A (eval WG env) (λx s₄=>
       wpAny (model prog w) A (call (.builtin "list.append") [acc,x]) (λ_ s₅=>∃m,m<n/\I m s₅) (λ_ _=>False) s₄) EX s₃
      else ∃m,m<n/\I m s₃) (λ_ _=>False) s₂) (λ_ _=>False) s₁) (λ_ _=>False) s₁) (λ_ _=>False) s)
  (n:Nat) (h:I n s):
  codeAny (model prog w) A (.compLoop (.ListComp WG [⟨Wk,iter,Wq,0⟩] scope pos) 0 it acc env) R s:=by
 refine codeAny_loop rfl I (λn s hI=>?_) n h;show wpAny _ A ((compTurn (.ListComp WG [⟨Wk,iter,Wq,0⟩] scope pos) 0 it acc env).onRaise (λx=>do noteFrame x env;theTreesLotGoes x)) _ _ s;refine wpAny_noted ?_;rw[compTurn_list];refine cS (gR (cS (d9 (turn n s hI) (λr s₁ h₁=>?_) λ_ _ h'=>h'.elim)));cases r with
 | none=>exact cZ h₁
 | some v=>
  refine cS (d9 h₁ (λ_ s₁' h₁'=>?_) λ_ _ h'=>h'.elim);refine cS (d9 h₁' (λ_ s₂ h₂=>cS (d9 h₂ (λok s₃ h₃=>?_) λ_ _ h'=>h'.elim)) λ_ _ h'=>h'.elim);cases ok with
  | false=>exact cZ ⟨rfl,h₃⟩
  | true=>exact cS (cS (d9 h₃ (λx s₄ h₄=>cS (d9 h₄ (λ_ s₅ h₅=>cZ (cZ ⟨rfl,h₅⟩)) λ_ _ h'=>h'.elim)) hEX))
end
def PF(X:Cx)(Wq:List Expr)(t:TT):Prop:=
 ∀(VL:List (Addr×Obj)) (s:Sd) (σ:St) (H:Hp) (Q:Bool->Hp->Prop),Inv X VL σ H s->t σ H Q->
  wpAny (model X.prog X.w) X.A (forIn Wq true λc r=>if r=true then do let ok<-isTrue c X.env (eval c X.env);pure (ForInStep.yield ok)else pure (ForInStep.yield r)) (TP X VL σ Q) X.xe s
def Sn:TT:=λ_ H Q=>Q true H
def P3{X:Cx}:PF X [] Sn:=λ_ _ _ H _ I h=>wpAny_tests_nil ⟨H,I,h⟩
def RE{X:Cx}{c:Expr}{t:TT}(h:PT X c t):PF X [c] t:=λVL s σ H Q I q=>wpAny_tests_one (h VL s σ H Q I q)
def Pw(ix:List (Option Nat))(g:TG)(tt:TT)(te:TE)(σ:St)(J:It)(Q:VK)(H:Hp):Prop:=
 ∃W:Nat->Nat->List V->St->Hp->Prop,(∃m,W 0 m [] (O0 ix σ) H)/\∀i m ys σ' H,W i m ys σ' H->
  (J.stop i H/\ys.length<=sizeLine/\∀D,H D=none->Q (.ref D) (upd H D (.lst ys)))\/
  (J.go i H/\ys.length<sizeLine/\∀x H',J.oq i H x H'->g x σ' H' λσ2 H2=>tt σ2 H2 λb H3=>if b=true then te σ2 H3 λy H4=>∃m',m'<m/\W (i+1) m' (ys++[y]) σ2 H4 else ∃m',m'<m/\W (i+1) m' ys σ2 H3)
def Kl(ix:List (Option Nat))(wi:TI)(g:TG)(tt:TT)(te:TE):TE:=λσ H Q=>wi σ H λJ H1=>Pw ix g tt te σ J Q H1
variable {tg iter WG:Expr}{Wq:List Expr}{g:TG}{tt:TT}{te:TE}{J:It}{it:Addr}{tn:Nat→Heap→Prop}{Q:VK}
section
variable {s:Sd}
def Bi{XP:Addr->Sd->Hp->List Addr->List (Addr×Obj)->St->Vl->Sd->Prop}{RR:Vl->Addr->Result->Sd->Prop}{E:Vl->Sd->Prop}(hc:X.calm=true)(S:rF X scope ix N')(I:Inv X VL σ H s)(T:F' X.prog X.w X.K tg J fp it tn)(st:tn 0 s.heap)(hf:∀b∈fp,Ap X VL H b) (hg:∀C s0 H0 ex,PG (X.comp scope N' C s0 H0 ex) tg g) (ht:∀C s0 H0 ex,PF (X.comp scope N' C s0 H0 ex) Wq tt) (he:∀C s0 H0 ex VL s σ H Q,Inv (X.comp scope N' C s0 H0 ex) VL σ H s->te σ H Q->wpAny (model X.prog X.w) X.A (eval WG (X.comp scope N' C s0 H0 ex).env) (EP (X.comp scope N' C s0 H0 ex) VL σ Q) (XP C s0 H0 ex VL σ) s) (hx:∀C D e s',s.heap.objs.size<=C->(∃WN σ',(∀b∈fp,∃o,(b,o)∈WN)/\XP C s H fp WN σ' e s')->notedBy (model X.prog X.w) X.A (compEnvC scope (zX X.env scope.names []) C X.env) (λx s'=>RR D C (.error x) s') e s') (hw:Pw ix g tt te σ J Q H) (VP:∀D C s' H' m,s.heap.objs.size<=C->H' C=none->s'.heap.Ns C m->Inv X VL σ H' s'->Q (.ref D) H'->RR (.ref D) C (.ok .next) s'):
  wpAny (model X.prog X.w) X.A (newList []) (λacc s₃=>wpAny (model X.prog X.w) X.A (newFunctionEnv scope X.env.globals (zX X.env scope.names []) [] X.env.qual none .none (some X.env)) (λWw s₄=>
   codeAny (model X.prog X.w) X.A (.compStart (.ListComp WG [⟨tg,iter,Wq,0⟩] scope pos) 0 (.ref it) acc {Ww with scope:=relabel scope X.env}) (RR acc Ww.locals) s₄) E s₃) E s:=by
 obtain⟨W,⟨m0,w0⟩,turn⟩:=hw;have VX:∀b∈fp,b<s.heap.objs.size:=λb hb=>by obtain⟨o,e,_⟩:=T.obj _ _ st b hb;exact dv e
 refine fT (wpAny_newFunctionEnv S.nV (by intro y hy;simp at hy) (λh₁ Xy X5=>?_) S.kind);dsimp only at Xy X5 ⊢;generalize hH2:s.heap.push {cls:=.type "list",dict:=none,data:=.seq ([]:List Vl).toArray}=H2 at Xy X5 ⊢;have hC:H2.objs.size=s.heap.objs.size+1:=by rw[<-hH2,fm]
 have hDC:s.heap.objs.size≠H2.objs.size:=by rw[hC];exact dG (fA _)
 have X6:s.heap.objs.size<=H2.objs.size:=by rw[hC];exact gY _
 have Yp:∀b,b<s.heap.objs.size->b≠H2.objs.size/\b≠s.heap.objs.size:=λb hb=>⟨by rw[hC];exact dG (g9 hb),dG hb⟩;have Wx:∀b o,s.heap.get? b=some o->h₁.get? b=some o:=λb o e=>X5.extBut b o (Yp b (dv e)).1 (cX _ (hH2 ▸ cX _ e));have hacc:h₁.get? s.heap.objs.size=some {cls:=.type "list",data:=.seq ([]:List Vl).toArray 0}:=X5.extBut _ _ hDC (cX _ (hH2 ▸ dF _ rfl));have Xy:h₁.Ns H2.objs.size (λ_=>none):=Xy;have W0:∀{H':Hp} {pl:List (Addr×Obj)},(∀b∈fp,H' b=none)->(∀p∈pl,p.1∉fp)->∀b∈fp,Ap (X.comp scope N' H2.objs.size s H fp) (X.pn++VL++pl) H' b:=λ{H' pl} hn V4 b hb=>by
  refine⟨hn b hb,dG (dI (VX b hb) X6),λz=>?_,.inl hb,λx c e=>(hf b hb).2.2.2.2.1 x c (S.sub I.ok e),λp hp=>?_⟩
  .rcases c9.mp (I.ng b z)with y|y
   .exact(hf b hb).2.1 y
   .exact(hf b hb).2.2.1 y
  .rcases dU.mp (show p∈X.pn++VL++pl by simpa using hp)with z|z
   .exact(hf b hb).2.2.2.2.2 p z
   .intro q;exact V4 p z (q ▸ hb)
 have loop:∀s₃:Sd,s₃={s with heap:=h₁,toks:=s.toks+([]:List (Str×Vl)).length}->
   codeAny (model X.prog X.w) X.A (.compLoop (.ListComp WG [⟨tg,iter,Wq,0⟩] scope pos) 0 (.ref it) (.ref s.heap.objs.size) (compEnvC scope (zX X.env scope.names []) H2.objs.size X.env))
    (RR (.ref s.heap.objs.size) H2.objs.size) s₃:=by
  rintro s₃ rfl
  refine wQ (hEX:=λe s' z=>hx _ _ e s' X6 z) (λn s'=>∃(i:Nat) (ys:List V) (us:List Vl) (k:Nat) (σ':St) (H':Hp),Inv (X.comp scope N' H2.objs.size s H fp) (X.pn++VL) σ' H' s'/\tn i s'.heap/\(∀b∈fp,H' b=none)/\H' s.heap.objs.size=none/\
   s'.heap.get? s.heap.objs.size=some {cls:=.type "list",data:=.seq us.toArray k}/\qh ys us/\ys.length<=sizeLine/\W i n ys σ' H') ?_ m0
   ⟨0,[],[],0,O0 ix σ,H,I.comp S hf VX X6 Wx Xy,T.keep _ _ _ st λb _ o e=>Wx b o e,λb hb=>(hf b hb).1,I.mG.fresh (de _),hacc,.nil,eZ _,w0⟩
  rintro n s' ⟨i,ys,us,k,σ',H',I',Xc,fr',hD',Wu,rv',hz',w'⟩
  have cellD:∀x c,(X.comp scope N' H2.objs.size s H fp).env.cells.lookup x=some c->c≠s.heap.objs.size:=λx c e=>by obtain⟨v,q⟩:=I.cell x c (S.sub I.ok e);exact dG q.lt
  have pinD:∀p∈X.pn++VL,p.1≠s.heap.objs.size:=λp hp=>dG (dv (I.pin p hp).1);have dfs:s.heap.objs.size∉(X.comp scope N' H2.objs.size s H fp).fs:=λz=>by
   rcases c9.mp (I.ng _ z)with y|y
   .exact absurd I.lt (by rw[<-y];exact eY _)
   .exact I.oB (de _) y
  have dfp:s.heap.objs.size∉fp:=λz=>absurd (VX _ z) (eY _);have IpD:Inv (X.comp scope N' H2.objs.size s H fp) (X.pn++VL++[(s.heap.objs.size,{cls:=.type "list",data:=.seq us.toArray k})]) σ' H' s':=I'.nA λp hp=>by
   rcases dU.mp hp with z|z
   .exact I'.pin p (eA _ z)
   .have e:p=(s.heap.objs.size,{cls:=.type "list",data:=.seq us.toArray k}):=by simpa using z
    subst e;exact⟨Wu,hD',hDC,dfs,λv z=>by cases z⟩
  have pfp:∀p∈[((s.heap.objs.size,{cls:=.type "list",data:=.seq us.toArray k}):Addr×Obj)],p.1∉fp:=λp hp=>by
   have e:p=(s.heap.objs.size,{cls:=.type "list",data:=.seq us.toArray k}):=by simpa using hp
   subst e;exact dfp
  rcases turn i n ys σ' H' w' with⟨stop,hz,q⟩|⟨go,hz,step⟩
  .refine d9 (T.done (X.comp scope N' H2.objs.size s H fp) rfl rfl rfl hc i _ s' σ' H' (λ_ _=>False) IpD (W0 fr' pfp) Xc stop) (λr s1 ⟨hr,I1⟩=>?_) λ_ _ z=>z;subst hr;show RR _ _ _ _;have ho1:s1.heap.get? s.heap.objs.size=some {cls:=.type "list",data:=.seq us.toArray k}:=(I1.pin (s.heap.objs.size,{cls:=.type "list",data:=.seq us.toArray k}) (by simp)).1;obtain⟨m,hnC,_⟩:=id I1.loc;refine VP _ _ s1 (upd H' s.heap.objs.size (.lst ys)) m X6 (by rw[pF (dM hDC)];exact I1.free) hnC ?_ (q _ hD');have nD:∀b o,s.heap.get? b=some o->b≠s.heap.objs.size:=λb o e=>(Yp b (dv e)).2;have hD0:H s.heap.objs.size=none:=I.mG.fresh (de _);refine I.oC (s':=s1) (ch:=fp) I1.os ⟨λb o e n1 n2 n3=>?_,λb o e n1 n2 n3=>?_,λb o e n1 n2=>?_,λb o e n1=>?_,λb xs e=>?_,λb o u e=>?_,λb ps e=>?_⟩ (λb u e=>?_) I1.bare λb hb=>⟨(hf b hb).2.2.2.1,(hf b hb).2.1,(hf b hb).2.2.2.2.1,(hf b hb).2.2.2.2.2⟩
   .exact I1.base.keep b o e n1 n2 n3
   .exact I1.base.slot b o e n1 n2 n3
   .rw[pF (nD b o e)];exact I1.base.free b o e n1 n2
   .exact I1.base.there b o e n1
   .rw[pF (qz e hD0)];exact I1.base.m7 b xs e
   .rw[pF (qz e hD0)];exact I1.base.mX b o u e
   .obtain⟨more,z⟩:=I1.base.nj b ps e;exact⟨more,by rw[pF (qz e hD0)];exact z⟩
   .by_cases hb:b=s.heap.objs.size
    .subst hb;rw[pM]at e;cases e;exact⟨hz,us,k,rv',ho1⟩
    .rw[pF hb]at e;exact(I1.mG b u e).mV (λc v _ z=>z) (λc z=>by rw[pF (qz z hD')];exact z) (λc xs z=>by rw[pF (qz z hD')];exact z)
  .refine d9 (T.item (X.comp scope N' H2.objs.size s H fp) rfl rfl rfl hc i _ s' σ' H' (λ_ _=>False) IpD (W0 fr' pfp) Xc go) (λr s1 ⟨v,hr,h4⟩=>?_) λ_ _ z=>z;subst hr;show wpAny _ _ (letOwnedTupleGo tg (.ref it) v) _ _ s1;refine d9 h4 (λ_ s2 zz=>?_) λ_ _ z=>z;obtain⟨x,H5,I5,r5,y5,Ym,fr5⟩:=zz;have I5':=I5.pinned (W0 fr5 pfp) (T.obj _ _ Ym);refine d9 (hg H2.objs.size s H fp _ s2 σ' H5 x v _ I5' r5 (step x H5 y5)) (λ_ s3 ⟨σ6,H6,I6,q6⟩=>?_) λ_ _ z=>z;refine d9 (ht H2.objs.size s H fp _ s3 σ6 H6 _ I6 q6) (λok s4 ⟨H7,I7,q7⟩=>?_) λ_ _ z=>z;have Yq:∀{σ7:St} {H7:Hp} {s7:Sd},Inv (X.comp scope N' H2.objs.size s H fp) (X.pn++VL++[(s.heap.objs.size,{cls:=.type "list",data:=.seq us.toArray k})]++Bb fp s2.heap) σ7 H7 s7->
     tn (i+1) s7.heap/\(∀b∈fp,H7 b=none)/\H7 s.heap.objs.size=none/\s7.heap.get? s.heap.objs.size=some {cls:=.type "list",data:=.seq us.toArray k}:=λ{σ7 H7 s7} K7=>by
    have pd:=K7.pin (s.heap.objs.size,{cls:=.type "list",data:=.seq us.toArray k}) (by simp);refine⟨T.keep _ _ _ Ym λb hb o e=>(K7.pin (b,o) (eA _ (eA _ (uV hb e)))).1,λb hb=>?_,pd.2.1,pd.1⟩;obtain⟨o,e,d⟩:=T.obj _ _ Ym b hb;exact(K7.pin (b,o) (eA _ (eA _ (uV hb e)))).2.1
   cases ok with
   | false=>rw[cW dw]at q7 ⊢;obtain⟨m',hm,w7⟩:=q7;obtain⟨t7,f7,d7,o7⟩:=Yq I7;exact⟨m',hm,i+1,ys,us,k,σ6,H7,I7.mP.mP,t7,f7,d7,o7,rv',hz',w7⟩
   | true=>
    rw[cY rfl]at q7 ⊢;refine d9 (he H2.objs.size s H fp _ s4 σ6 H7 _ I7 q7) (λyv s5 ⟨y,H8,I8,r8,m',hm,w8⟩=>?_) λ_ _ z=>⟨_,_,λb hb=>(by
     obtain⟨o,e,_⟩:=T.obj _ _ Ym b hb;exact⟨o,eA _ (uV hb e)⟩),z⟩
    obtain⟨t8,f8,d8,o8⟩:=Yq I8;have hsz:us.toArray.size<=sizeLine:=by rw[dh,<-rv'.length];exact hz'
    refine append_at (hsz:=hsz) o8 λh' sb od=>?_;refine⟨m',hm,i+1,ys++[y],us++[yv],k+1,σ6,H8,?_,T.keep _ _ _ t8 λb hb o e=>(sb.2 b λq=>dfp (q ▸ hb)).trans e,f8,d8,?_,rv'.append (.cons r8 .nil),?_,w8⟩
    .exact I8.mP.mP.turned (it:=s.heap.objs.size) (t':=s5.toks) (λb o hb e=>(sb.2 b hb).trans e) d8 hDC (.inr (de _)) cellD (by simpa using pinD)
    .rw[od,List.push_toArray]
    .rw[cU,dH];exact hz
 exact codeAny_compStart_list (loop _ rfl) (T.self _ 0 _ _ _ (T.keep _ _ _ st λb _ o e=>Wx b o e) (loop _ rfl))
def Inv.letGo{C:Addr}{s':Sd}{H':Hp}{σ':St}{h':Heap}(I:Inv X VL σ H s)(I':Inv X VL σ' H' s')(hC:s.heap.objs.size<=C)(hn:H' C=none)(hs:Heap.SameBut C s'.heap h'):Inv X VL σ' H' {s' with heap:=h'}:=
 I'.turned (t':=s'.toks) (it:=C) (λb o hb e=>(hs.2 b hb).trans e) hn (λz=>absurd (dI I.lt hC) (by rw[z];exact eY _)) (.inr (dX I.sz hC))
  (λx c e z=>by
   obtain⟨v,r⟩:=I.cell x c e;exact absurd (dI r.lt hC) (by rw[z];exact eY _))
  (λp hp z=>absurd (dI (dv (I.pin p hp).1) hC) (by rw[z];exact eY _))
def Oi{wi:TI}(hc:X.calm=true)(S:rF X scope ix N')(hi:PI X tg iter wi)(hg:∀C s0 H0 ex,PG (X.comp scope N' C s0 H0 ex) tg g)(ht:∀C s0 H0 ex,PF (X.comp scope N' C s0 H0 ex) Wq tt)(he:∀C s0 H0 ex,PE (X.comp scope N' C s0 H0 ex) WG te) (hs:∀x,foldedSetIterable iter X.env x=pure x:=by intro _;rfl):PE X (.ListComp WG [⟨tg,iter,Wq,0⟩] scope pos) (Kl ix wi g tt te):=by
 intro VL s σ H Q I h;rw[eval_ListComp];refine jz (use:=none) rfl hs (xR (S.cells I.ok)) S.kind S.nam (d9 (hi VL s σ H _ I h) (λxv s₁ h₁=>d9 h₁ (λitv s₂ h₂=>?_) λ_ _ e=>e) λ_ _ e=>e);obtain⟨it,fp,tn,J,H2,e,I2,T,Wd,f2,hw⟩:=h₂;subst e;refine Bi (RR:=λacc C=>compPost (model X.prog X.w) X.A X.xe none (EP X VL σ Q) acc C) hc S I2 T Wd f2 hg ht (XP:=λ_ _ _ _ _ _ _ _=>False) he (λ_ _ _ _ _ z=>by obtain⟨_,_,_,z⟩:=z;exact z.elim) hw λD C s' H' m hCs hCn hn I3 q=>?_;exact⟨m,hn,λh' Yr=>⟨.ref D,_,I2.letGo I3 hCs hCn Yr,rfl,q⟩⟩
def Hf{wi:TI}{i:Nat}{x:Str}{px Xz:Pos}(hN:X.N.Nodup)(X7:X.N[i]?=some x)(hx:JV X.env.scope x)(hc:X.calm=true)(S:rF X scope ix N')(hi:PI X tg iter wi)(hg:∀C s0 H0 ex,PG (X.comp scope N' C s0 H0 ex) tg g)(ht:∀C s0 H0 ex,PF (X.comp scope N' C s0 H0 ex) Wq tt) (he:∀C s0 H0 ex,PE (X.comp scope N' C s0 H0 ex) WG te) (Xj:swapsWith (.ListComp WG [⟨tg,iter,Wq,0⟩] scope pos) (some (.Name x px)) Xz.line X.env=pure true) (hf:JW X x:=by first|exact .inl rfl|exact .inr rfl|assumption) (hs:∀x,foldedSetIterable iter X.env x=pure x:=by intro _;rfl):
  PS X (.Assign [.Name x px] (.ListComp WG [⟨tg,iter,Wq,0⟩] scope pos) Xz) (N0 (Kl ix wi g tt te) (Iq i)):=by
 intro VL s σ H D I h;rw[exec_Assign_Name_used _ _ _ _ Xj];refine cS (gR (cS ?_));show wpAny _ X.A (do let _<-comprehension (.ListComp WG [⟨tg,iter,Wq,0⟩] scope pos) scope X.env _ (newList []) false (eval iter X.env) (some (assign (.Name x px) X.env))) _ _ s;refine cS (d9 (jz (use:=some (assign (.Name x px) X.env)) (Q:=λ_ s'=>SP X VL D .next s') rfl hs (xR (S.cells I.ok)) S.kind S.nam
  (d9 (hi VL s σ H _ I h) (λxv s₁ h₁=>d9 h₁ (λitv s₂ h₂=>?_) λ_ _ e=>e) λ_ _ e=>e)) (λ_ s' hq=>cZ (cZ hq)) λ_ _ e=>e)
 obtain⟨it,fp,tn,J,H2,e,I2,T,Wd,f2,hw⟩:=h₂;subst e;refine Bi (RR:=λacc C=>compPost (model X.prog X.w) X.A X.xe (some (assign (.Name x px) X.env)) (λ_ s'=>SP X VL D .next s') acc C) hc S I2 T Wd f2 hg ht (XP:=λ_ _ _ _ _ _ _ _=>False) he (λ_ _ _ _ _ z=>by obtain⟨_,_,_,z⟩:=z;exact z.elim) hw λDa C s' H' m hCs hCn hn I3 q=>?_;show wpAny _ X.A (assign (.Name x px) X.env (.ref Da)) _ _ _;refine kU (Dg I3 hN X7 hx (v:=.ref Da) rfl (λs4 I4 ⟨a,sb,ha⟩=>?_) hf);have ca:C≠a:=λz=>by
  rcases ha with y|y
  .exact absurd (dI I2.lt hCs) (by rw[z,y];exact eY _)
  .obtain⟨v,r⟩:=I2.cell x a y;exact absurd (dI r.lt hCs) (by rw[z];exact eY _)
 exact⟨m,hn.sameBut sb ca,λh' Yr=>⟨_,H',I2.letGo I4 hCs hCn Yr,q⟩⟩
end
def Af:typeLookup (.type "list") "__getattr__"=pure none:=by rw[typeLookup_type,jU];kernel_rfl
def Dp:typeLookup (.type "list") "keys"=pure none:=by rw[typeLookup_type,jU];kernel_rfl
section
variable {prog:Pg}{w:Wo}{A:Ar}{E:Vl→Sd→Prop}
def KI(a:Addr)(u:Tok)(its:Array Vl)(n:Nat)(sl:Array (Option Vl)):
  Meets (Builtin.«object.__getattribute__» ⟨[.ref a,.str "keys" u],[]⟩) λA R s=>s.heap.get? a=some ⟨.type "list",none,.seq its n,sl⟩/\A.handled=none/\∀h' tk e,Heap.NewAttrErr s.heap h' e (.ref a) "keys"->R (.error (.ref e)) {s with heap:=h',toks:=tk}:=
 Meets.of_wp λprog w A R s hs=>by
  obtain⟨hp,g,d,tk,os⟩:=s;obtain⟨h1,h2,h3⟩:=hs;have hT:(⟨hp,g,d,tk,os⟩:Sd).TypeIs (.ref a) "list":=⟨_,h1,rfl⟩;have f1:=Dp;unfold Builtin.«object.__getattribute__»
  repeat (any_goals(first|assumption|wp_step))
  exact wpAny_raiseAttrError h2 h3 (attrMsg_fits (by decide+kernel) (by decide))
def EK{s:Sd}{a:Addr}{its:Array Vl}{n:Nat}{sl:Array (Option Vl)}{Q:Option Vl->Sd->Prop}(ha:s.heap.get? a=some ⟨.type "list",none,.seq its n,sl⟩)(hA:A.handled=none) (h:∀h' tk,(∀b o,s.heap.get? b=some o->h'.get? b=some o)->Q none {s with heap:=h',toks:=tk}):wpAny (model prog w) A (getAttr? (.ref a) "keys") Q E s:=by
 obtain⟨hp,g,d,tk,os⟩:=s;have hT:(⟨hp,g,d,tk,os⟩:Sd).TypeIs (.ref a) "list":=⟨_,ha,rfl⟩;have f1:=sub_AttributeError;have f3:=ik.lookup;have f4:=ik.bind (.ref a);have f5:=Af;unfold getAttr? getAttrBy? getAttrBy
 repeat (any_goals(first|assumption|((with_reducible show wpAny _ _ (call (Value.builtin "list.__getattribute__") _ _) _ _ _);refine jo ik hT F.entry_list_ga (F.args_list_getattribute_2 _ _) (KI a _ its n sl) ⟨ha,hA,λh' tk' e hx=>?_⟩)|wp_step))
 obtain⟨t',u',he⟩:=hx.there;show wpAny _ _ (getattributeRaised _ _ _ _ _ _ _) _ _ _;unfold getattributeRaised
 repeat (any_goals(first|assumption|wp_step))
 all_goals first|exact h _ _ hx.keeps|skip
end
def zS:entryFor table "dict.update.loop"=some Builtin.«dict.update.loop»:=entryFor_of_tree (by kernel_rfl)
def vc:plainId "dict.update.loop"=true:=by decide+kernel
section
variable {prog:Pg}{w:Wo}{A:Ar}{E:Vl→Sd→Prop}{R:Result→Sd→Prop}{κ:Type}[DecidableEq κ]{knd:PySem.KeyKind prog w κ}
 {I:Addr} {fp wr:List Addr} {G:Array GenState->Array GenState->Prop} {P:Nat->Vl->Prop} {St:Nat->Sd->Prop}
def Pk{s:Sd}{t:Addr}{x y:Vl}{Q:List Vl->Sd->Prop}(h:s.heap.IsTuple t #[x,y])(q:Q [x,y] s):wpAny (model prog w) A (Builtin.Dict.pairItems (.ref t)) Q E s:=by
 obtain⟨⟨oc,od,oda,WI⟩,h1,h2,n,h3⟩:=h;simp only at h2 h3;subst h2 h3;have hT:s.TypeIs (.ref t) "tuple":=⟨_,h1,rfl⟩;obtain⟨hp,g,d,tk,os⟩:=s;unfold Builtin.Dict.pairItems
 repeat (any_goals(first|assumption|wp_step))
def JQ{all:List (κ×Vl)}(W:WalksS prog w A.in1 I fp wr G all.length P St)(d:Addr)(Yo:d∉fp)(kv:Nat->Vl)(tp:Nat->Addr)(hP:∀i v,P i v->v=.ref (tp i))(hw:∀j,j<all.length->tp j∉wr/\tp j≠d) (hk:∀j p,all[j]?=some p->knd.is p.1 (kv j)=true) (hz:all.length<=sizeLine):
  ∀(k i:Nat) (z:Int) (s:Sd),all.length - i=k->i<=all.length->St i s->(∀j p,all[j]?=some p->s.heap.IsTuple (tp j) #[kv j,p.2])->s.heap.DictOf knd d (merged [] (all.take i))->
   (∀s',Moved (d::wr) G s s'->s'.heap.DictOf knd d (merged [] all)->R (.ok (.ret .none)) s')->codeAny (model prog w) A (.builtin "dict.update.loop" ⟨[.ref d,.ref I,.int z 0,.none],[]⟩) R s:=by
 have hdw:d∉wr:=λh=>Yo (W.sub _ h);have XA:∀b∈wr,b∈d::wr:=λb hb=>dC _ hb;intro k;induction k with
 | zero=>
  intro i z s hk0 hi V9 hT hD hR;have XM:i=all.length:=by omega
  subst XM;refine gU zS ?_;rw[ib vc _];show wpAny _ A.in1 (pyNext (.ref I)>>=_) _ _ s;refine cS (W.done s _ _ V9 λs' hm=>?_);show wpAny _ A.in1 (Builtin.Dict.addKeywords d []>>=_) _ _ s';refine cS (cZ (cZ (hR s' (hm.mono XA) ?_)));rw[eW]at hD;obtain⟨o,es,ep,ho,rest⟩:=hD;exact⟨o,es,ep,hm.heap d _ hdw ho,rest⟩
 | succ k ih=>
  intro i z s hk0 hi V9 hT hD hR;have VX:i<all.length:=by omega
  have W4:all[i]?=some all[i]:=cT VX;refine gU zS ?_;rw[ib vc _];show wpAny _ A.in1 (pyNext (.ref I)>>=_) _ _ s;refine cS (W.item i s _ _ VX V9 λv s' hPv YL hm=>?_);obtain rfl:=hP i v hPv;have hT':∀j p,all[j]?=some p->s'.heap.IsTuple (tp j) #[kv j,p.2]:=λj p e=>by obtain⟨o,h1,h2⟩:=hT j p e;exact⟨o,hm.heap _ _ (hw j (cV.mp e).1).1 h1,h2⟩
  have hD':s'.heap.DictOf knd d (merged [] (all.take i)):=by obtain⟨o,es,ep,ho,rest⟩:=hD;exact⟨o,es,ep,hm.heap d _ hdw ho,rest⟩
  show wpAny _ A.in1 (holding [Value.ref (tp i)] _>>=_) _ _ s';refine cS (eC (cS (wpAny_tryCatch (Pk (hT' i _ W4) ?_))));show wpAny _ A.in1 (holding [kv i,all[i].2] (dictSet d (kv i) all[i].2)) _ _ s';refine eC ?_;unfold dictSet;refine eC (cS (knd.pyHash (hk i _ W4) ?_));have hl:(merged [] (all.take i)).length<=sizeLine:=by have:=merged_length_le [] (all.take i);rw[fB]at this;simp only[dD]at this;omega
  refine wpAny_dictSetHashed_pairs (hsz:=hl) (hk i _ W4) hD' λh' dd hs=>?_;rw[<-merged_take_succ [] all i _ W4]at dd;refine cZ ⟨kh vc _,ih (i+1) _ _ (by omega) VX (W.frame _ s' _ _ YL (gY _) λb hb o e=>?_) (λj p e=>?_) dd λYF YM hD''=>?_⟩
  .rw[hs.2 b (λz:b=d=>Yo (z ▸ hb))];exact e
  .obtain⟨o,h1,h2⟩:=hT' j p e;refine⟨o,?_,h2⟩;show h'.get? (tp j)=some o;rw[hs.2 _ (hw j (cV.mp e).1).2];exact h1
  .refine hR YF (mo W.gtrans ((hm.mono XA).then_heap (gY _) λb o hb e=>?_) YM) hD'';rw[hs.2 b (λz:b=d=>hb (by rw[z];exact dO))];exact e
end
section
variable {prog:Pg}{w:Wo}{A:Ar}{E:Vl→Sd→Prop}{κ:Type}[DecidableEq κ]{knd:PySem.KeyKind prog w κ}{s:Sd}
def Ai{l:Addr}{its:Array Vl}{n:Nat}{sl:Array (Option Vl)}{all:List (κ×Vl)}{Q:Vl->Sd->Prop}(kv:Nat->Vl)(tp:Nat->Addr)(hh:A.handled=none)(hl:s.heap.get? l=some ⟨.type "list",none,.seq its n,sl⟩) (hits:∀(j:Nat) (v:Vl),its[j]?=some v->v=.ref (tp j)) (VR:its.size=all.length) (hT:∀j p,all[j]?=some p->s.heap.IsTuple (tp j) #[kv j,p.2]) (hk:∀j p,all[j]?=some p->knd.is p.1 (kv j)=true) (hz:all.length<=sizeLine) (h:∀h' tk,h'.DictOf knd s.heap.objs.size (merged [] all)->(∀b o,s.heap.get? b=some o->h'.get? b=some o)->Q (.ref s.heap.objs.size) {s with heap:=h',toks:=tk}):
  wpAny (model prog w) A (call (.type "dict") [.ref l]) Q E s:=by
 refine callType_codes (Q₁:=λobj s₁=>obj=Value.ref s.heap.objs.size/\s₁={s with heap:=s.heap.push {cls:=.type "dict",data:=.dict #[]}}) PySem.F.kt_called_dict (PySem.F.kt_typeCall_dict_1 _) F.entry_dict_init (kt_code_dict_new _ ⟨rfl,rfl⟩) ?_
 rintro obj s₁ ⟨rfl,rfl⟩
 have Xw:(s.heap.push {cls:=.type "dict",data:=.dict #[]}).DictOf knd s.heap.objs.size []:=Heap.DictOf.new s.heap;have hl':(s.heap.push {cls:=.type "dict",data:=.dict #[]}).get? l=some ⟨.type "list",none,.seq its n,sl⟩:=cX _ hl;have hTl:Shared.TypeIs {s with heap:=s.heap.push {cls:=.type "dict",data:=.dict #[]}} (.ref l) "list":=⟨_,hl',rfl⟩;have lsz:l<s.heap.objs.size:=dv hl;refine⟨Xw.typeIs,F.args_dict_init_2 _ _,?_⟩;unfold Builtin.«dict.__init__»;refine cS ?_;unfold Builtin.Dict.selfAndRest;refine cS (wpAny_notOrdered_dict Xw.typeIs ?_);show wpAny _ _ (pure (s.heap.objs.size,[Value.ref l])) _ _ _;refine cZ ?_;show wpAny _ _ (Builtin.Dict.updateFrom "dict.__init__" s.heap.objs.size (.ref l) [] .none) _ _ _;unfold Builtin.Dict.updateFrom;refine cS (jx hTl ?_);rw[cY (by decide)];refine cS (EK hl' (by simpa using hh) λh' tk keep=>?_);have hl2:h'.IsList l its:=⟨_,keep _ _ hl',rfl,n,rfl⟩;show wpAny _ _ (rule _>>=_) _ _ _;refine cS (j6 (cS (gG hl2 ?_)));have nd:h'.objs.size>s.heap.objs.size:=by have z:h'.get? s.heap.objs.size=some _:=keep _ _ (dF _ rfl);exact dv z
 have hDn:h'.DictOf knd s.heap.objs.size []:=by obtain⟨o,es,ep,ho,rest⟩:=Xw;exact⟨o,es,ep,keep _ _ ho,rest⟩
 have hTs:∀j p,all[j]?=some p->h'.IsTuple (tp j) #[kv j,p.2]:=λj p e=>by obtain⟨o,h1,h2⟩:=hT j p e;exact⟨o,keep _ _ (cX _ h1),h2⟩
 have Wc:l≠h'.objs.size:=dG (jy lsz nd);have W:=(j7 (prog:=prog) (w:=w) (A:=A.in1.in1) (by simpa using hh) h'.objs.size l Wc its).toS;rw[VR]at W;refine cZ ⟨kh vc _,JQ (A:=A.in1) W s.heap.objs.size ?_ kv tp (λi v e=>hits i v e) (λj hj=>?_) hk hz all.length 0 0 _ (by omega) (eZ _) ⟨⟨_,dF _ rfl,rfl,rfl⟩,hl2.push _⟩ (λj p e=>(hTs j p e).push _) ?_ λs' hm hD=>?_⟩
 .simp only[c9,dB,eU,fJ];exact⟨dG nd,gM lsz⟩
 .have hj':all[j]?=some all[j]:=cT hj;obtain⟨o,h1,_⟩:=hT j _ hj';have tsz:=dv h1;simp only[c9,dB,eU];exact⟨dG (jy tsz nd),dG tsz⟩
 .obtain⟨o,es,ep,ho,rest⟩:=hDn;exact⟨o,es,ep,cX _ ho,rest⟩
 .obtain⟨h2,g2,d2,t2,o2⟩:=s';have eg:g2=s.gens:=hm.gens;have ed:d2=s.drawn:=hm.drawn;have eo:o2=s.os:=hm.os;subst eg ed eo;refine⟨rfl,h h2 t2 hD λb o e=>?_⟩;have hb:=dv e;refine hm.heap b o ?_ (cX _ (keep _ _ (cX _ e)));simp only[c9,dB,eU,fJ];exact⟨dG hb,dG (jy hb nd)⟩
end
def sj{κ:Type}[DecidableEq κ](l:List κ):List κ:=l.foldl (λacc k=>if k∈acc then acc else acc++[k]) []
def xD{κ:Type}[DecidableEq κ](l:List κ)(k:κ):sj (l++[k])=if k∈sj l then sj l else sj l++[k]:=by unfold sj;rw[k9];rfl
def HW{κ:Type}[DecidableEq κ]:∀l:List κ,(sj l).length<=l.length:=by
 have go:∀(l acc:List κ),(l.foldl (λacc k=>if k∈acc then acc else acc++[k]) acc).length<=acc.length+l.length:=by
  intro l;induction l with
  | nil=>intro acc;simp
  | cons k r ih=>
   intro acc;rw[fV];refine dX (ih _) ?_;split
   .simp only[dY];omega
   .simp only[dY,cU,dD];omega
 intro l;have:=go l []
 simpa [sj]using this
def LK{κ:Type}[DecidableEq κ](x:κ):∀l:List κ,x∈sj l↔x∈l:=by
 have go:∀(l acc:List κ),x∈l.foldl (λacc k=>if k∈acc then acc else acc++[k]) acc↔x∈acc\/x∈l:=by
  intro l;induction l with
  | nil=>intro acc;simp
  | cons k r ih=>
   intro acc;rw[fV,ih];by_cases h:k∈acc
   .rw[cY h,c9];constructor
    .rintro (z|z)
     .exact .inl z
     .exact .inr (.inr z)
    .rintro (z|z|z)
     .exact .inl z
     .subst z;exact .inl h
     .exact .inr z
   .rw[cW h,dU,dg,c9,or_assoc]
 intro l;have:=go l []
 simpa [sj]using this
def G2{κ:Type}[DecidableEq κ]:∀l:List κ,l.Nodup->sj l=l:=by
 have go:∀(l acc:List κ),(acc++l).Nodup->l.foldl (λacc k=>if k∈acc then acc else acc++[k]) acc=acc++l:=by
  intro l;induction l with
  | nil=>intro acc _;simp
  | cons k r ih=>
   intro acc h;have hk:k∉acc:=λz=>by rw[fN]at h;exact h.2.2 k z k dO rfl
   rw[fV,cW hk,ih]
   .rw[fi];rfl
   .rw[fi];exact h
 intro l h;have:=go l [] (by simpa using h)
 simpa [sj]using this
section
variable {prog:Pg}{w:Wo}{A:Ar}{E:Vl→Sd→Prop}{R:Result→Sd→Prop}{κ:Type}[DecidableEq κ][BEq κ][LawfulBEq κ]{knd:PySem.KeyKind prog w κ}
 {I:Addr} {fp wr:List Addr} {G:Array GenState->Array GenState->Prop} {P:Nat->Vl->Prop} {St:Nat->Sd->Prop}
def Fg{all:List κ}(W:WalksS prog w A.in1 I fp wr G all.length P St)(S:Addr)(hSf:S∉fp)(hval:∀i v k,P i v->all[i]?=some k->knd.is k v=true/\v.scannable=true)(hb:all.length+1<scanBound):
  ∀(n i:Nat) (s:Sd),all.length - i=n->i<=all.length->St i s->s.heap.SetOf knd S (λx=>decide (x∈sj (all.take i))) (sj (all.take i)).length->
   (∀s',Moved (S::wr) G s s'->s'.heap.SetOf knd S (λx=>decide (x∈sj all)) (sj all).length->R (.ok (.ret .none)) s')->codeAny (model prog w) A (.builtin "set.update.loop" ⟨[.ref S,.ref I],[]⟩) R s:=by
 have hSw:S∉wr:=λh=>hSf (W.sub _ h);have up:∀b∈wr,b∈S::wr:=λb hb=>dC _ hb;have kept:∀{s s':Sd} {T:κ->Bool} {m:Nat},Moved wr G s s'->s.heap.SetOf knd S T m->s'.heap.SetOf knd S T m:=λhm ⟨o,es,ep,t,ho,rest⟩=>⟨o,es,ep,t,hm.heap S _ hSw ho,rest⟩;intro n;induction n with
 | zero=>
  intro i s h0 hi V9 hS hR;obtain rfl:i=all.length:=by omega
  refine gU il ?_;rw[ib gx _];rw[eW]at hS;exact cS (W.done s _ _ V9 λs' hm=>cZ (hR s' (hm.mono up) (kept hm hS)))
 | succ n ih=>
  intro i s h0 hi V9 hS hR;have VX:i<all.length:=by omega
  have W4:all[i]?=some all[i]:=cT VX;refine gU il ?_;rw[ib gx _];refine cS (W.item i s _ _ VX V9 λv s' hP YL hm=>?_);obtain⟨k1,k2⟩:=hval i v _ hP W4;have X8:=kept hm hS;show wpAny _ A.in1 (holding [v] (setAdd S v)>>=_) _ _ s';refine cS (eC ?_);unfold setAdd;refine eC (cS (knd.pyHash k1 ?_));have room:(sj (all.take i)).length+1<scanBound:=by have h1:=HW (all.take i);rw[fB]at h1;omega
  refine wpAny_setAddHashed_of (knd:=knd) (s:={s' with toks:=s'.toks+1}) k1 k2 X8 room λh' hsb hS2=>?_;have et:all.take (i+1)=all.take i++[all[i]]:=by rw[gH,W4];rfl
  have hSi:h'.SetOf knd S (λx=>decide (x∈sj (all.take (i+1)))) (sj (all.take (i+1))).length:=by
   refine im hS2 (λx=>?_) ?_
   .rw[et];by_cases VN:all[i]∈sj (all.take i)
    .rw[xD,cY VN];by_cases hx:x=all[i]
     .subst hx;simp[VN]
     .simp[hx]
    .rw[xD,cW VN];by_cases hx:x=all[i]
     .subst hx;simp
     .simp[hx]
   .rw[et,xD];by_cases VN:all[i]∈sj (all.take i)
    .rw[cY VN];simp[VN]
    .rw[cW VN];simp[VN]
  refine cZ ⟨kh gx _,ih (i+1) _ (by omega) VX (W.frame _ s' _ _ YL (gY _) λb hb o e=>?_) hSi λYF YM hS''=>?_⟩
  .rw[hsb.2 b (λz:b=S=>hSf (z ▸ hb))];exact e
  .refine hR YF (mo W.gtrans ((hm.mono up).then_heap (gY _) λb o hb e=>?_) YM) hS'';rw[hsb.2 b (λz:b=S=>hb (by rw[z];exact dO))];exact e
end
def Eb:isSubtype (.type "list") (.type "set")=pure false:=by rw[iW];kernel_rfl
def Aw:isSubtype (.type "list") (.type "frozenset")=pure false:=by rw[iW];kernel_rfl
section
variable {prog:Pg}{w:Wo}{A:Ar}{E:Vl→Sd→Prop}{κ:Type}[DecidableEq κ][BEq κ][LawfulBEq κ]{knd:PySem.KeyKind prog w κ}{s:Sd}
set_option maxHeartbeats 4000000 in
def B2{l:Addr}{VM:Array Vl}{all:List κ}{Q:Vl->Sd->Prop}(hh:A.handled=none)(hl:s.heap.IsList l VM)(hn:VM.size=all.length)(hi:∀(i:Nat) (v:Vl) (k:κ),VM[i]?=some v->all[i]?=some k->knd.is k v=true/\v.scannable=true)(hb:all.length+1<scanBound) (h:∀(h':Heap) (tk:Nat),h'.SetOf knd s.heap.objs.size (λx=>decide (x∈sj all)) (sj all).length->(∀b o,s.heap.get? b=some o->h'.get? b=some o)->Q (.ref s.heap.objs.size) {s with heap:=h',toks:=tk}):
  wpAny (model prog w) A (call (.type "set") [.ref l]) Q E s:=by
 obtain⟨c,tl,YN⟩:=ft.mro;have hmade:=ft.made;have XA:=ft.sub;refine ia (jL ?_);show wpAny _ _ (callAny (.type "set") _) _ _ _;refine cZ ⟨io _ (by decide+kernel),gU lb ?_⟩;rw[kM (jV "set" [.ref l] []) rfl];have h1:=ft.notType;have h2:=ft.canCreate;have hct:=lG (.ref l)
 repeat (any_goals(first|assumption|wp_step))
 have fresh:∀Wg:Bool,(s.heap.push {cls:=.type "set",dict:=none,data:=.set #[] 0 (.fresh 0 0 Wg)}).get? s.heap.objs.size=some {cls:=.type "set",dict:=none,data:=.set #[] 0 (.fresh 0 0 Wg)}:=λWg=>dF _ rfl;refine gj (code_set_new_1 (.ref l) (E:=E) (Q₁:=λobj s₁=>∃Wg:Bool,obj=Value.ref s.heap.objs.size/\s₁={s with heap:=s.heap.push {cls:=.type "set",dict:=none,data:=.set #[] 0 (.fresh 0 0 Wg)}}) λWg=>⟨Wg,rfl,rfl⟩) λr s₁ hr=>?_;cases r with
 | error e=>exact hr
 | ok fl=>
  cases fl with
  | ret obj=>
   obtain⟨Wg,rfl,rfl⟩:=hr;have hS:=fresh Wg;have hT:Shared.TypeIs {s with heap:=s.heap.push {cls:=.type "set",dict:=none,data:=.set #[] 0 (.fresh 0 0 Wg)}} (.ref s.heap.objs.size) "set":=⟨_,hS,rfl⟩;have hli:=ft.init.lookup;have hbi:=ft.init.bind (.ref s.heap.objs.size)
   repeat (any_goals(first|assumption|wp_step))
   refine gj (ic (R:=wants (λr s₂=>r=.none/\∃h' tk,s₂={s with heap:=h',toks:=tk}/\h'.SetOf knd s.heap.objs.size (λx=>decide (x∈sj all)) (sj all).length/\(∀b o,s.heap.get? b=some o->h'.get? b=some o)) E) ft.init.plain lH (lJ hT ?_)) λr₂ s₂ YO=>?_
   .obtain⟨ol,hol,Ys,nl,hdl⟩:=hl;obtain⟨ocls,XB,odata,W5⟩:=ol;simp only at Ys hdl;subst Ys;subst hdl;have YQ:(s.heap.push {cls:=.type "set",dict:=none,data:=.set #[] 0 (.fresh 0 0 Wg)}).get? l=some {cls:=.type "list",dict:=XB,data:=.seq VM nl,slots:=W5}:=cX _ hol;have hsls:=Eb;have hslf:=Aw;have hnd:(Value.type "list"==Value.type "dict")=false:=by decide
    have hl1:(s.heap.push {cls:=.type "set",dict:=none,data:=.set #[] 0 (.fresh 0 0 Wg)}).IsList l VM:=⟨_,YQ,rfl,nl,rfl⟩;unfold Builtin.«set.__init__» noKeywords Builtin.Frozenset.updateFrom;generalize hPI:pyIter=PI
    wp_walk
    subst hPI;refine gG hl1 ?_;refine cS (wpAny_runValue ?_);have lS:l<s.heap.objs.size:=dv hol;have hh3:A.in1.in1.in1.handled=none:=by simp[hh]
    have lI:l≠(s.heap.push {cls:=.type "set",dict:=none,data:=.set #[] 0 (.fresh 0 0 Wg)}).objs.size:=by rw[fm];exact dG (g9 lS)
    have W:=(j7 (prog:=prog) (w:=w) hh3 _ l lI VM).toS;rw[hn]at W;refine Fg W s.heap.objs.size ?hf (λi v k e1 e2=>hi i v k e1 e2) hb all.length 0 _ (by omega) (eZ _) ⟨⟨_,dF _ rfl,rfl,rfl⟩,(hl1.push _)⟩ ?h0 ?hR;case hf=>rw[fm];simp only[c9,dB,eU,fJ];exact⟨dG (fA _),gM lS⟩
    case h0=>exact im ((jc (knd:=knd) Wg).setOf (cX _ hS) (by unfold scanBound;omega)) (λ_=>rfl) rfl
    case hR=>intro s' hm X8;obtain⟨h',g',d',tk',YE⟩:=s';have eg:g'=s.gens:=hm.gens;have ed:d'=s.drawn:=hm.drawn;have eo:YE=s.os:=hm.os;subst eg;subst ed;subst eo;refine cZ ?_;show wpAny _ _ (ret Value.none) _ _ _;refine cZ ⟨rfl,h',tk',rfl,X8,λb o e=>?_⟩;have hb:=dv e;refine hm.heap b o ?_ (cX _ (cX _ e));rw[fm];simp only[c9,dB,eU,fJ];exact⟨dG hb,dG (g9 hb)⟩
   .cases r₂ with
    | error e=>exact YO
    | ok fl₂=>
     cases fl₂ with
     | ret r=>
      obtain⟨rfl,h',tk,rfl,X8,YK⟩:=YO
      repeat (any_goals(first|assumption|wp_step))
      exact h _ _ X8 YK
     | _=>exact YO.elim
  | _=>exact hr.elim
end
def Cb:isSubtype (.type "tuple") (.type "set")=pure false:=by rw[iW];kernel_rfl
def zA:isSubtype (.type "tuple") (.type "frozenset")=pure false:=by rw[iW];kernel_rfl
section
variable {prog:Pg}{w:Wo}{A:Ar}{E:Vl→Sd→Prop}{κ:Type}[DecidableEq κ][BEq κ][LawfulBEq κ]{knd:PySem.KeyKind prog w κ}{s:Sd}
set_option maxHeartbeats 4000000 in
def BB{l:Addr}{VM:Array Vl}{all:List κ}{Q:Vl->Sd->Prop}(hh:A.handled=none)(hl:s.heap.IsTuple l VM)(hn:VM.size=all.length)(hi:∀(i:Nat) (v:Vl) (k:κ),VM[i]?=some v->all[i]?=some k->knd.is k v=true/\v.scannable=true)(hb:all.length+1<scanBound) (h:∀(h':Heap) (tk:Nat),h'.SetOf knd s.heap.objs.size (λx=>decide (x∈sj all)) (sj all).length->(∀b o,s.heap.get? b=some o->h'.get? b=some o)->Q (.ref s.heap.objs.size) {s with heap:=h',toks:=tk}):
  wpAny (model prog w) A (call (.type "set") [.ref l]) Q E s:=by
 obtain⟨c,tl,YN⟩:=ft.mro;have hmade:=ft.made;have XA:=ft.sub;refine ia (jL ?_);show wpAny _ _ (callAny (.type "set") _) _ _ _;refine cZ ⟨io _ (by decide+kernel),gU lb ?_⟩;rw[kM (jV "set" [.ref l] []) rfl];have h1:=ft.notType;have h2:=ft.canCreate;have hct:=lG (.ref l)
 repeat (any_goals(first|assumption|wp_step))
 have fresh:∀Wg:Bool,(s.heap.push {cls:=.type "set",dict:=none,data:=.set #[] 0 (.fresh 0 0 Wg)}).get? s.heap.objs.size=some {cls:=.type "set",dict:=none,data:=.set #[] 0 (.fresh 0 0 Wg)}:=λWg=>dF _ rfl;refine gj (code_set_new_1 (.ref l) (E:=E) (Q₁:=λobj s₁=>∃Wg:Bool,obj=Value.ref s.heap.objs.size/\s₁={s with heap:=s.heap.push {cls:=.type "set",dict:=none,data:=.set #[] 0 (.fresh 0 0 Wg)}}) λWg=>⟨Wg,rfl,rfl⟩) λr s₁ hr=>?_;cases r with
 | error e=>exact hr
 | ok fl=>
  cases fl with
  | ret obj=>
   obtain⟨Wg,rfl,rfl⟩:=hr;have hS:=fresh Wg;have hT:Shared.TypeIs {s with heap:=s.heap.push {cls:=.type "set",dict:=none,data:=.set #[] 0 (.fresh 0 0 Wg)}} (.ref s.heap.objs.size) "set":=⟨_,hS,rfl⟩;have hli:=ft.init.lookup;have hbi:=ft.init.bind (.ref s.heap.objs.size)
   repeat (any_goals(first|assumption|wp_step))
   refine gj (ic (R:=wants (λr s₂=>r=.none/\∃h' tk,s₂={s with heap:=h',toks:=tk}/\h'.SetOf knd s.heap.objs.size (λx=>decide (x∈sj all)) (sj all).length/\(∀b o,s.heap.get? b=some o->h'.get? b=some o)) E) ft.init.plain lH (lJ hT ?_)) λr₂ s₂ YO=>?_
   .obtain⟨ol,hol,Ys,nl,hdl⟩:=hl;obtain⟨ocls,XB,odata,W5⟩:=ol;simp only at Ys hdl;subst Ys;subst hdl;have YQ:(s.heap.push {cls:=.type "set",dict:=none,data:=.set #[] 0 (.fresh 0 0 Wg)}).get? l=some {cls:=.type "tuple",dict:=XB,data:=.seq VM nl,slots:=W5}:=cX _ hol;have hsls:=Cb;have hslf:=zA;have hnd:(Value.type "tuple"==Value.type "dict")=false:=by decide
    have hl1:(s.heap.push {cls:=.type "set",dict:=none,data:=.set #[] 0 (.fresh 0 0 Wg)}).IsTuple l VM:=⟨_,YQ,rfl,nl,rfl⟩;unfold Builtin.«set.__init__» noKeywords Builtin.Frozenset.updateFrom;generalize hPI:pyIter=PI
    wp_walk
    subst hPI;refine ip hl1 ?_;refine cS (wpAny_runValue ?_);have lS:l<s.heap.objs.size:=dv hol;have hh3:A.in1.in1.in1.handled=none:=by simp[hh]
    have lI:l≠(s.heap.push {cls:=.type "set",dict:=none,data:=.set #[] 0 (.fresh 0 0 Wg)}).objs.size:=by rw[fm];exact dG (g9 lS)
    have W:=(Walks.tuple (prog:=prog) (w:=w) hh3 _ l lI VM).toS;rw[hn]at W;refine Fg W s.heap.objs.size ?hf (λi v k e1 e2=>hi i v k e1 e2) hb all.length 0 _ (by omega) (eZ _) ⟨⟨_,dF _ rfl,rfl,rfl⟩,(hl1.push _)⟩ ?h0 ?hR;case hf=>rw[fm];simp only[c9,dB,eU,fJ];exact⟨dG (fA _),gM lS⟩
    case h0=>exact im ((jc (knd:=knd) Wg).setOf (cX _ hS) (by unfold scanBound;omega)) (λ_=>rfl) rfl
    case hR=>intro s' hm X8;obtain⟨h',g',d',tk',YE⟩:=s';have eg:g'=s.gens:=hm.gens;have ed:d'=s.drawn:=hm.drawn;have eo:YE=s.os:=hm.os;subst eg;subst ed;subst eo;refine cZ ?_;show wpAny _ _ (ret Value.none) _ _ _;refine cZ ⟨rfl,h',tk',rfl,X8,λb o e=>?_⟩;have hb:=dv e;refine hm.heap b o ?_ (cX _ (cX _ e));rw[fm];simp only[c9,dB,eU,fJ];exact⟨dG hb,dG (g9 hb)⟩
   .cases r₂ with
    | error e=>exact YO
    | ok fl₂=>
     cases fl₂ with
     | ret r=>
      obtain⟨rfl,h',tk,rfl,X8,YK⟩:=YO
      repeat (any_goals(first|assumption|wp_step))
      exact h _ _ X8 YK
     | _=>exact YO.elim
  | _=>exact hr.elim
end
end L2
namespace HT
open PySem PyProof.Rows
variable {prog:Pg}{w:Wo}{A:Ar}{E:Vl→Sd→Prop}{s:Sd}
def yY{t sl:Addr}{VM:Array Vl}{vl vu:Vl}{lo hi:Option Int}{Q:Vl->Sd->Prop}(ht:IsTup s.heap t VM)(hs:s.heap.IsSliceOf sl vl vu .none)(pl:IsPart vl lo)(pu:IsPart vu hi) (hw:sy VM.size 0 lo=0/\sy VM.size VM.size hi=VM.size) (h:Q (.ref t) s):wpAny (model prog w) A (getItem (.ref t) (.ref sl)) Q E s:=by
 obtain⟨os,YG,Yn,W1⟩:=id hs;have hTs:s.TypeIs (.ref sl) "slice":=⟨os,YG,Yn⟩;unfold getItem
 try with_reducible refine eC ?_
 first|refine cS (cZ ?_)|skip
 refine cS (jj ht.typeIs (by decide) ?_);refine cS (fK (name:=Str.ofString "__getitem__") ht.typeIs fv (gg fv ht.typeIs kr ?_ (kI _ _)));show wpAny _ _ (Builtin.Tuple.tupleItemsOf (.ref t)>>=_) _ _ s;refine cS (tupleItemsOf_ ht ?_);refine cS (jx hTs ?_);rw[cY (by decide)];refine cS (vF hs pl pu ?_);have yes:(((sy VM.size 0 lo:Nat):Int)==0&&(1:Int)==1&&(sy VM.size VM.size hi - sy VM.size 0 lo)==VM.size)=true:=by rw[hw.1,hw.2];simp
 show wpAny _ _ (if (((sy VM.size 0 lo:Nat):Int)==0&&(1:Int)==1&&(sy VM.size VM.size hi - sy VM.size 0 lo)==VM.size)=true then _ else _) _ _ s;rw[cY yes];have hT:=ht.typeIs;obtain⟨hp,g,d,tk,o⟩:=s
 repeat (any_goals(first|assumption|wp_step))
 exact⟨_,rfl,cZ h⟩
end HT
namespace L2
open PySem PySem.Spec PyProof.Rows
variable {X:Cx}{p p2 pos XC:Pos}{e:Expr}{te:TE}
section
def Uo(K:pU):V->Option Int->Option Int->Hp->VK->Prop:=λx lo hi H Q=>∃a xs,x=.ref a/\uG K H a xs/\(HT.sy xs.length 0 lo=0/\HT.sy xs.length xs.length hi=xs.length)/\Q (.ref a) H
def QK:TQ X (Uo X.K):=by
 intro VL s σ H x v vl vu lo hi sl Q I rx hs pl pu h;obtain⟨a,xs,rfl,hx,hw,q⟩:=h;cases rx;obtain⟨its,r,ht,hz⟩:=I.tuple hx;have VR:its.toArray.size=xs.length:=by rw[dh];exact r.length.symm
 exact⟨"tuple",_,fv.lookup,ht.typeIs,HT.yY ht hs pl pu (by rw[VR];exact hw) ⟨.ref a,H,I,rfl,q⟩⟩
local instance (priority:=5000) keyBEq:BEq qK:=instBEqOfDecidableEq
local instance (priority:=5000) keyLaw:LawfulBEq qK:=inferInstanceAs (LawfulBEq (Sum Int Str))
def Nc(K:pU)(te:TE):TE:=λσ H Q=>te σ H λx H1=>∃a,∃ss:List Str,x=.ref a/\(yu K H1 a (ss.map V.str)\/uG K H1 a (ss.map V.str))/\ss.length+1<scanBound/\Q (.int (sj ss).length) H1
def FY{P:Pg}{w:Wo}{ss:List Str}{us:List Vl}(r:qh (ss.map V.str) us):us.length=ss.length/\∀(i:Nat) (v:Vl) (k:qK),us[i]?=some v->(ss.map λx=>(Sum.inr x:qK))[i]?=some k->(qZ P w).is k v=true/\v.scannable=true:=by
 refine⟨by rw[<-r.length,cR],λi v k e1 e2=>?_⟩;rw[dA]at e2;cases q:ss[i]? with
 | none=>rw[q]at e2;cases e2
 | some x=>rw[q]at e2;cases e2;obtain⟨u,e3,t,rfl⟩:=r.get (i:=i) (x:=V.str x) (by rw[dA,q];rfl);rw[e3]at e1;cases e1;exact⟨zT P w x t,rfl⟩
def KY{ss:List Str}:(sj (ss.map λx=>(Sum.inr x:qK))).length=(sj ss).length:=by
 have go:∀(l acc:List Str),(l.map λx=>(Sum.inr x:qK)).foldl (λacc k=>if k∈acc then acc else acc++[k]) (acc.map Sum.inr)=(l.foldl (λacc k=>if k∈acc then acc else acc++[k]) acc).map Sum.inr:=by
  intro l;induction l with
  | nil=>intro acc;rfl
  | cons k r ih=>
   intro acc;rw[dR,fV,fV];have hm:(Sum.inr k:qK)∈acc.map Sum.inr↔k∈acc:=by
    rw[dz];constructor
    .rintro ⟨y,h1,h2⟩;cases h2;exact h1
    .exact λh=>⟨k,h,rfl⟩
   by_cases h:k∈acc
   .rw[cY h,cY (hm.mpr h)];exact ih acc
   .rw[cW h,cW λz=>h (hm.mp z)];have:=ih (acc++[k]);rw[dJ]at this;exact this
 have:=go ss [];unfold sj;rw[hU]at this;rw[this,cR]
def IW(hc:X.calm=true)(he:PE X e te)(hg1:Gl X "len")(VN:X.mg "len"=none)(hg2:Gl X "set")(V5:X.mg "set"=none)(b1:bootBuiltins "len"=some (.builtin "len"))(b2:bootBuiltins "set"=some (.type "set")) (hs:starEach [e] X.env=[(false,eval e X.env)]:=by rfl):PE X (.Call (.Name "len" p) [.Call (.Name "set" p2) [e] [] XC] [] pos) (Nc X.K te):=by
 intro VL s σ H Q I h;refine gh (xg I hg1 VN b1 ?_);refine iG ?_ rfl rfl;show wpAny _ _ (spliced ((false,eval (.Call (.Name "set" p2) [e] [] XC) X.env)::backTo pos (starEach [] X.env))) _ _ s;refine ja ?_;refine gh (xg I hg2 V5 b2 ?_);refine fU ?_ hs rfl;rw[hs];show wpAny _ _ (spliced ((false,eval e X.env)::backTo XC (starEach [] X.env))) _ _ s;refine ja (rR (he VL s σ H _ I h) λu s1 ⟨x,H1,I1,r1,a,ss,ex,hq,hb,q⟩=>jh ?_);subst ex;obtain rfl:u=Value.ref a:=r1;have WH:(ss.map λx=>(Sum.inr x:qK)).length+1<scanBound:=by rw[cR];exact hb
 have VP:∀(h':Heap) (tk:Nat),h'.SetOf (qZ X.prog X.w) s1.heap.objs.size (λx=>decide (x∈sj (ss.map λx=>(Sum.inr x:qK)))) (sj (ss.map λx=>(Sum.inr x:qK))).length->(∀b o,s1.heap.get? b=some o->h'.get? b=some o)->
   wpAny (model X.prog X.w) X.A (spliced (backTo pos (starEach [] X.env))) (λvs s₁=>wpAny (model X.prog X.w) X.A (call (.builtin "len") (.ref s1.heap.objs.size::vs)) (EP X VL σ Q) X.xe s₁) X.xe {s1 with heap:=h',toks:=tk}:=λh' tk hS keep=>by
  refine jh ?_;obtain⟨o,es,ep,t,ho,hex,hd,_,_,hz,hf,hn⟩:=hS;have VX:(es.size:Int)<2 ^ 63:=by have:scanBound=4096:=rfl;omega
  refine call_len_set ho hex hd hf VX ?_;refine⟨.int es.size,H1,I1.kept keep,⟨_,rfl⟩,?_⟩;rw[hn,KY];exact q
 rcases hq with hq|hq
 .obtain⟨its,r,pl,hz⟩:=I1.list hq;obtain⟨k1,k2⟩:=FY (P:=X.prog) (w:=X.w) r;exact L2.B2 (knd:=qZ X.prog X.w) (all:=ss.map λx=>(Sum.inr x:qK)) (I1.ok.hd hc) pl.isList (by rw[dh,k1,cR]) (λi v k e1 e2=>k2 i v k (by simpa using e1) e2) WH VP
 .obtain⟨its,r,pl,hz⟩:=I1.tuple hq;obtain⟨k1,k2⟩:=FY (P:=X.prog) (w:=X.w) r;exact L2.BB (knd:=qZ X.prog X.w) (all:=ss.map λx=>(Sum.inr x:qK)) (I1.ok.hd hc) pl (by rw[dh,k1,cR]) (λi v k e1 e2=>k2 i v k (by simpa using e1) e2) WH VP
end
variable {VL:List (Addr × Obj)}{σ:St}{H:Hp}{s:Sd}
theorem Dh(I:Inv X VL σ H s):∀(ts:List Addr) (kvs:List (qK×V)),ts.length=kvs.length->(∀(j:Nat) (t:Addr) (p:qK×V),ts[j]?=some t->kvs[j]?=some p->uG X.K H t [kV p.1,p.2])->
  ∃(us:List Vl) (all:List (qK×Vl)),us.length=kvs.length/\KV kvs all/\∀(j:Nat) (t:Addr) (p:qK×Vl),ts[j]?=some t->all[j]?=some p->∃u,us[j]?=some u/\s.heap.IsTuple t #[u,p.2]/\(qZ X.prog X.w).is p.1 u=true
 | [],[],_,_=>⟨[],[],rfl,.nil,λj t p e=>by simp at e⟩
 | [],_::_,h,_=>by simp at h
 | _::_,[],h,_=>by simp at h
 | t::ts,(k,v)::kvs,h,hq=>by
  obtain⟨us,all,h1,h2,h3⟩:=Dh I ts kvs (by simpa using h) (λj t p e1 e2=>hq (j+1) t p (by simpa using e1) (by simpa using e2));obtain⟨its,r,pl,_⟩:=I.tuple (hq 0 t (k,v) (by simp) (by simp));cases r with
  | cons r1 r2=>
   cases r2 with
   | cons r3 r4=>
    cases r4;rename_i u w;refine⟨u::us,(k,w)::all,by simpa using h1,.cons ⟨rfl,r3⟩ h2,λj t' p e1 e2=>?_⟩;cases j with
    | zero=>
     have e1':t=t':=by simpa using e1
     have X3:(k,w)=p:=by simpa using e2
     subst e1' X3;exact⟨u,by simp,pl,FB r1⟩
    | succ j=>simpa using h3 j t' p (by simpa using e1) (by simpa using e2)
theorem Kv:∀{kvs:List (qK×V)} {all:List (qK×Vl)},KV kvs all->all.map (·.1)=kvs.map (·.1)
 | _,_,.nil=>rfl
 | _,_,.cons r rs=>by rw[dR,dR,Kv rs,r.1]
def Hh(hc:X.calm=true):yz X (.type "dict") (λxs H Q=>∃l,∃ts:List Addr,∃kvs:List (qK×V),xs=[V.ref l]/\yu X.K H l (ts.map V.ref)/\ts.length=kvs.length/\
  (∀(j:Nat) (t:Addr) (p:qK×V),ts[j]?=some t->kvs[j]?=some p->uG X.K H t [kV p.1,p.2])/\(kvs.map (·.1)).Nodup/\∀d,H d=none->Q (.ref d) (upd H d (.dK kvs))):=by
 intro VL s σ H xs us Q I r h;obtain⟨l,ts,kvs,rfl,hl,VR,hq,hnd,q⟩:=h;obtain⟨u,rfl,ru⟩:=xV r;cases ru;obtain⟨its,rv,⟨⟨c1,d1,t1,sl1⟩,n,g1,e1,e2,e3⟩,hz⟩:=I.list hl;simp only at e1 e2 e3;subst e1 e2 e3;obtain⟨ks,all,h1,h2,h3⟩:=Dh I ts kvs VR hq;have la:all.length=kvs.length:=(jf h2).symm;have li:its.length=kvs.length:=by rw[<-rv.length,cR,VR]
 have zl:all.length<=sizeLine:=by rw[la,<-VR];simpa using hz
 have at_:∀(j:Nat) (p:qK×Vl),all[j]?=some p->∃t,ts[j]?=some t:=λj p e=>by have:=(cV.mp e).1;exact⟨ts[j],cT (by omega)⟩
 refine Ai (knd:=qZ X.prog X.w) (all:=all) (λj=>(ks[j]?).getD .none) (λj=>(ts[j]?).getD 0) (I.ok.hd hc) g1 (λj v e=>?_) (by rw[dh,li,la]) (λj p e=>?_) (λj p e=>?_) zl λh' tk hD keep=>?_
 .have e':its[j]?=some v:=by simpa using e
  have hj:=(cV.mp e').1;have hj2:j<ts.length:=by omega
  obtain⟨w,e4,e5⟩:=rv.get (i:=j) (x:=V.ref ts[j]) (by rw[dA,cT hj2];rfl);rw[e']at e4;cases e4;show v=Value.ref ((ts[j]?).getD 0);rw[cT hj2];exact e5
 .obtain⟨t,et⟩:=at_ j p e;obtain⟨u,e4,e5,_⟩:=h3 j t p et e;show s.heap.IsTuple ((ts[j]?).getD 0) #[(ks[j]?).getD .none,p.2];rw[et,e4];exact e5
 .obtain⟨t,et⟩:=at_ j p e;obtain⟨u,e4,_,e6⟩:=h3 j t p et e;show(qZ X.prog X.w).is p.1 ((ks[j]?).getD .none)=true;rw[e4];exact e6
 .rw[merged_nil_of_nodup all (by rw[Kv h2];exact hnd)]at hD;have fr:=I.mG.fresh (de s.heap.objs.size);exact⟨.ref s.heap.objs.size,_,I.laid (t':=tk) (o:=.dK kvs) keep (de _) (J7 (by rw[<-la];exact zl) (fX.mpr (dM (dG I.big))) h2 hD),rfl,q _ fr⟩
def UH:R2:=λx y H Q=>∃a v,x=.ref a/\Dy H a y (some v)/\Q v H
def Np(hu:X.A.units+1<cLine):R5 X UH:=by
 intro value VW VL s σ H x y o i Q I rx ry h hs;obtain⟨a,v,rfl,g,q⟩:=h;obtain rfl:o=Value.ref a:=rx;have hT:=Fi I g;have h2:wpAny (model X.prog X.w) X.A (getItem (.ref a) i) (EP X VL σ Q) X.xe s:=Jo hu I g ry λw' s3 I3 X1=>⟨v,H,I3,X1,q⟩;unfold subscriptTail;refine cS ?_;rw[jW hT.not_modules];refine cS (iH hT jp.lookup ?_);have VP:wpAny (model X.prog X.w) X.A (subscripted VW false (.ref a) i) (λr s₃=>wpAny (model X.prog X.w) X.A (letTemporaryGo value (.ref a) r>>=λ_=>pure r) (EP X VL σ Q) X.xe s₃) X.xe s:=by rw[hs];exact wpAny_operating (d9 h2 (λr s₃ h₃=>cS (j8 (cZ h₃))) λ_ _ x=>x)
 first
  | exact cZ (cS VP)
  | exact cS (cZ (cS VP))
  | exact cS VP
def P8(hu:X.A.units+1<cLine):wH X (compareOp .In) (λx y H Q=>∃a o,y=.ref a/\Dy H a x o/\Q (.bl o.isSome) H):=by intro VL s σ H x y v u Q I rx ry h;obtain⟨a,o,rfl,g,q⟩:=h;obtain rfl:u=Value.ref a:=ry;exact UC hu I g rx λs3 I3=>⟨.bl o.isSome,H,I3,rfl,q⟩
variable {prog:Pg}{w:Wo}{A:Ar}{E:Vl→Sd→Prop}{a:Addr}{δ:Type}{k:Str}{tk:Tok}
section
variable {R:δ→Vl→Prop}{D:List (Str × δ)}
def ya(T:KTD.TabOf R s.heap a D):s.TypeIs (.ref a) "dict":=let⟨_,o,_,_,ho,hc,_⟩:=T;⟨o,ho,hc.1⟩
def Hy{Q:Option Vl->Sd->Prop}(T:KTD.TabOf R s.heap a D)(h1:∀d v,KTD.datumAt k D=some d->R d v->Q (some v) {s with toks:=s.toks+1})(h2:KTD.datumAt k D=none->Q none {s with toks:=s.toks+1}):
  wpAny (model prog w) A (dictGet a (.str k tk)) Q E s:=by
 obtain⟨_,o,es,ep,ho,hc,hd,hr⟩:=T;have hq:Q (findBy (λk v=>v.isStr k) es k) {s with toks:=s.toks+1}:=by
  have hf:findBy (λk v=>v.isStr k) es k=(es.toList.find? λe=>e.key.isStr k).map (·.val):=by obtain⟨l⟩:=es;simp[findBy]
  rw[hf];cases hat:KTD.datumAt k D with
  | none=>rw[hr.find_none hat];exact h2 hat
  | some d=>obtain⟨v,hv,hfl⟩:=hr.find_some hat;rw[hv];exact h1 d v hat hfl
 have Wv:(es.all λe=>isExactStrKey e.key)=true:=by
  obtain⟨l⟩:=es
  simpa using hr.exact
 unfold dictGet
 try with_reducible refine eC ?_
 refine cS (lz (cS (KTD.kt_dictFind_strs (s:={s with toks:=s.toks+1}) ho hd Wv ?_)));rw[findBy_of_findIdx?]at hq;cases hi:es.findIdx? λe=>e.key.isStr k with
 | none=>rw[hi]at hq;exact cZ hq
 | some i=>rw[hi]at hq;exact cS (wpAny_dictEntries (s:={s with toks:=s.toks+1}) ho hd (cZ hq))
def Re{Q:Vl->Sd->Prop}(T:KTD.TabOf R s.heap a D)(h:Q (.bool (KTD.datumAt k D).isSome) {s with toks:=s.toks+1}):wpAny (model prog w) A (compareOp .In (.str k tk) (.ref a)) Q E s:=by
 have hT:=ya T;show wpAny _ _ (do return .bool (<-contains (.ref a) (.str k tk))) Q E s;refine cS ?_;unfold contains
 try with_reducible refine eC ?_
 refine cS (iH hT jd.lookup ?_);show wpAny _ _ (if (some (Value.builtin "dict.__contains__")==some Value.none)=true then _ else _) _ E s;rw[cW (by rw[beq_builtin_none];exact dw)];refine cS (wpAny_callSpecialUnlessNone?_slot (name:=Str.ofString "__contains__") hT jd (gg jd hT entry_dict_contains ?_ (args_dict_contains _ _)));show wpAny _ _ (dictGet a (.str k tk)>>=_) _ _ s;refine cS (Hy T (λd v ha _=>?_) λhn=>?_)
 .rw[ha]at h;show wpAny _ _ (ret (.bool true)) _ _ _;exact cZ ⟨_,rfl,fh (cZ h)⟩
 .rw[hn]at h;show wpAny _ _ (Builtin.Dict.pendingKey? a (.str k tk)>>=_) _ _ _;exact cS (wpAny_pendingKey_other T.1 (cZ ⟨_,rfl,fh (cZ h)⟩))
def K0{Q:Vl->Sd->Prop}{d:δ}(T:KTD.TabOf R s.heap a D)(hd:KTD.datumAt k D=some d)(h:∀v,R d v->Q v {s with toks:=s.toks+1}):wpAny (model prog w) A (getItem (.ref a) (.str k tk)) Q E s:=by
 have hT:=ya T;unfold getItem
 try with_reducible refine eC ?_
 refine cS (jj hT (by decide) ?_);refine cS (fK (name:=Str.ofString "__getitem__") hT lh (gg lh hT entry_dict_getitem ?_ (args_dict_getitem _ _)));show wpAny _ _ (dictGet a (.str k tk)>>=_) _ _ s;refine cS (Hy T (λd' v ha hv=>cZ ⟨v,rfl,cZ (h v ?_)⟩) λhn=>?_)
 .rw[hd]at ha;cases ha;exact hv
 .rw[hd]at hn;cases hn
end
def KR(K:pU)(mg:Str->Option Vl)(x:Str)(F:List (Str×List Str)):Prop:=∃a o es ep,mg x=some (.ref a)/\(a==sysModules)=false/\K.lookup a=some o/\o.ExactDict/\o.data=.dict es ep/\
 KTD.Rows (λ(ss:List Str) v=>∃t,v=Value.ref t/\uG K (λ_=>none) t (ss.map V.str)) es.toList F
variable {x:Str}{F:List (Str × List Str)}
def ID{K:pU}{t:Addr}{xs:List V}{H:Hp}(h:uG K (λ_=>none) t xs):uG K H t xs:=by
 rcases h with(h|⟨o,h⟩)|h
 .cases h
 .cases h
 .exact .inr h
def Gg{K:pU}{mg:Str->Option Vl}(T:KR K mg x F):∃a,mg x=some (.ref a)/\∀h:Heap,K.In h->KTD.TabOf (λ(ss:List Str) v=>∃t,v=Value.ref t/\uG K (λ_=>none) t (ss.map V.str)) h a F:=by obtain⟨a,o,es,ep,h1,h2,h3,h4,h5,h6⟩:=T;exact⟨a,h1,λh hk=>⟨h2,o,es,ep,hk a o h3,h4,h5,h6⟩⟩
def Ul(x:Str):It:=⟨λi _=>i<x.cps.size,λi H v H'=>H'=H/\∃c,x.cps[i]?=some c/\v=.str ⟨#[c]⟩,λi _=>i=x.cps.size⟩
def FN{P:Pg}{w:Wo}{K:pU}{tg:Expr}{ty:String}{x:Str}{t:Tok}(it:Addr)(W:∀A':Ar,A'.handled=none->Walks P w A' it [it] [it] x.cps.size (SignAt x) (λi h=>h.IsStrIter it ty x t i)) (hself:∀(A:Ar) (i:Nat) (s:Sd) (Q:Vl->Sd->Prop) (E:Vl->Sd->Prop),s.heap.IsStrIter it ty x t i->Q (.ref it) s->wpAny (model P w) A (pyIter (.ref it)) Q E s) (hn:["enumerate","zip","dict_itemiterator","dict_reverseitemiterator","odict_iterator","itertools.zip_longest","itertools.pairwise"].contains ty=false):F' P w K tg (Ul x) [it] it (λi h=>h.IsStrIter it ty x t i) where
 mem:=by simp
 obj:=λi h st b hb=>by
  obtain rfl:b=it:=by simpa using hb
  obtain⟨o,e,c,d⟩:=st;exact⟨o,e,λv z=>by rw[d]at z;cases z⟩
 keep:=λi h h' st k=>by obtain⟨o,e,r⟩:=st;exact⟨o,k it (by simp) o e,r⟩
 item:=by intro X hP hw hK hc i VL s σ H E I hf st hg;subst hP hw hK;obtain⟨f0,f1,f2,f3,f4,f5⟩:=hf it (by simp);refine(W X.A (I.ok.hd hc)).item i s _ _ hg st λv h' tk hv Xc kp=>?_;obtain⟨c,u,e1,e2⟩:=hv;have I1:Inv X VL σ H {s with heap:=h',toks:=tk}:=I.turned (t':=tk) (λb o hb e=>kp b o (by simpa using hb) e) f0 f1 f3 f4 f5;obtain⟨o,e,cl,d⟩:=id Xc;exact⟨v,rfl,Hr (s:={s with heap:=h',toks:=tk}) e cl d hn ⟨.str ⟨#[c]⟩,H,I1,⟨u,e2⟩,⟨rfl,c,e1,rfl⟩,Xc,λb hb=>(hf b hb).1⟩⟩
 done:=by intro X hP hw hK hc i VL s σ H E I hf st hg;subst hP hw hK;obtain⟨f0,f1,f2,f3,f4,f5⟩:=hf it (by simp);obtain rfl:i=x.cps.size:=hg;exact(W X.A (I.ok.hd hc)).done s _ _ st λh' tk kp=>⟨rfl,I.turned (t':=tk) (λb o hb e=>kp b o (by simpa using hb) e) f0 f1 f3 f4 f5⟩
 self:=hself
variable {tg:Expr}
def Nv{l:Expr}{tl:TE}(hc:X.calm=true)(hl:PE X l tl):PI X tg l (λσ H R=>tl σ H λx H1=>(∃a,x=.ref a/\(((∃xs,yu X.K H1 a xs)/\R (TX X.K a) H1)\/((∃xs,uG X.K H1 a xs)/\R (UT X.K a) H1)))\/∃z,x=.str z/\R (Ul z) H1):=by
 intro VL s σ H R I h;refine rR (hl VL s σ H _ I h) λv s1 zz=>x5 zz λx H1 I1 r1 q1=>?_;rcases q1 with⟨a,e,q1⟩|⟨z,e,q⟩
 .subst e;cases r1;rcases q1 with⟨⟨xs,hq⟩,q⟩|⟨⟨xs,hq⟩,q⟩
  .obtain⟨its,rv,p,hz⟩:=I1.list hq;refine gG p.isList ?_;refine⟨s1.heap.objs.size,[s1.heap.objs.size],_,_,H1,rfl,I1.kept (t':=s1.toks) λb o e=>cX _ e,Js a _,⟨_,dF _ rfl,rfl,rfl⟩,λb hb=>?_,q⟩;obtain rfl:b=s1.heap.objs.size:=by simpa using hb
   exact I1.nL (de _) (I1.mG.fresh (de _))
  .obtain⟨its,rv,p,hz⟩:=I1.tuple hq;refine ip (show s1.heap.IsTuple a its.toArray from p) ?_;refine⟨s1.heap.objs.size,[s1.heap.objs.size],_,_,H1,rfl,I1.kept (t':=s1.toks) λb o e=>cX _ e,G' a _,⟨_,dF _ rfl,rfl,rfl⟩,λb hb=>?_,q⟩;obtain rfl:b=s1.heap.objs.size:=by simpa using hb
   exact I1.nL (de _) (I1.mG.fresh (de _))
 .subst e;obtain⟨t,rfl⟩:=r1;have fp:∀b∈[s1.heap.objs.size],Ap X VL H1 b:=λb hb=>by
   obtain rfl:b=s1.heap.objs.size:=by simpa using hb
   exact I1.nL (de _) (I1.mG.fresh (de _))
  cases ha:z.cps.all (·<128)
  .refine wpAny_pyIter_wide ha ?_;exact⟨s1.heap.objs.size,[s1.heap.objs.size],_,_,H1,rfl,I1.kept (t':=s1.toks) λb o e=>cX _ e,FN _ (λA' hA=>Walks.strWide hA _ z t) (λA i s Q E st h=>wpAny_pyIter_striter_wide st h) (by decide),⟨_,dF _ rfl,rfl,rfl⟩,fp,q⟩
  .refine wpAny_pyIter_ascii ha ?_;exact⟨s1.heap.objs.size,[s1.heap.objs.size],_,_,H1,rfl,I1.kept (t':=s1.toks) λb o e=>cX _ e,FN _ (λA' hA=>Walks.strAscii hA _ z t) (λA i s Q E st h=>wpAny_pyIter_striter_ascii st h) (by decide),⟨_,dF _ rfl,rfl,rfl⟩,fp,q⟩
end L2
namespace L2
inductive Bj{α0:Sort u}{α1:Sort v}(p:α0->α1->Prop):Prop
 | mk (a0:α0) (a1:α1) (h:p a0 a1):Bj p
inductive Cv{α0:Sort u}{α1:Sort v}{α2:Sort w}(p:α0->α1->α2->Prop):Prop
 | mk (a0:α0) (a1:α1) (a2:α2) (h:p a0 a1 a2):Cv p
def x7{α:Sort u}{β:Sort v}{γ:Sort w}{p q r s:α->β->γ->Prop}{C:Prop}(h:Cv λa b c=>p a b c/\q a b c/\r a b c/\s a b c)(f:∀a b c,p a b c->q a b c->r a b c->s a b c->C):C:=by obtain⟨a,b,c,h1,h2,h3,h4⟩:=h;exact f a b c h1 h2 h3 h4
def JX{α:Sort u}{β:Sort v}{γ:Sort w}{p q r s s1 s2 s3:α->β->γ->Prop}{C:Prop}(h:Cv λa b c=>p a b c/\q a b c/\r a b c/\s a b c/\s1 a b c/\s2 a b c/\s3 a b c)(f:∀a b c,p a b c->q a b c->r a b c->s a b c->s1 a b c->s2 a b c->s3 a b c->C):C:=by obtain⟨a,b,c,h1,h2,h3,h4,h5,h6,h7⟩:=h;exact f a b c h1 h2 h3 h4 h5 h6 h7
inductive zZ{α0:Sort u}{α1:Sort v}{α2:Sort w}{α3:Sort u1}(p:α0->α1->α2->α3->Prop):Prop
 | mk (a0:α0) (a1:α1) (a2:α2) (a3:α3) (h:p a0 a1 a2 a3):zZ p
inductive Gh{α0:Sort u}{α1:Sort v}{α2:Sort w}{α3:Sort u1}{α4:Sort u2}(p:α0->α1->α2->α3->α4->Prop):Prop
 | mk (a0:α0) (a1:α1) (a2:α2) (a3:α3) (a4:α4) (h:p a0 a1 a2 a3 a4):Gh p
inductive HL{α0:Sort u}{α1:Sort v}{α2:Sort w}{α3:Sort u1}{α4:Sort u2}{α5:Sort u3}(p:α0->α1->α2->α3->α4->α5->Prop):Prop
 | mk (a0:α0) (a1:α1) (a2:α2) (a3:α3) (a4:α4) (a5:α5) (h:p a0 a1 a2 a3 a4 a5):HL p
inductive RW{α0:Sort u}{α1:Sort v}{α2:Sort w}{α3:Sort u1}{α4:Sort u2}{α5:Sort u3}{α6:Sort u4}(p:α0->α1->α2->α3->α4->α5->α6->Prop):Prop
 | mk (a0:α0) (a1:α1) (a2:α2) (a3:α3) (a4:α4) (a5:α5) (a6:α6) (h:p a0 a1 a2 a3 a4 a5 a6):RW p
inductive RV{α0:Sort u}{α1:Sort v}{α2:Sort w}{α3:Sort u1}{α4:Sort u2}{α5:Sort u3}{α6:Sort u4}{α7:Sort u5}(p:α0->α1->α2->α3->α4->α5->α6->α7->Prop):Prop
 | mk (a0:α0) (a1:α1) (a2:α2) (a3:α3) (a4:α4) (a5:α5) (a6:α6) (a7:α7) (h:p a0 a1 a2 a3 a4 a5 a6 a7):RV p
inductive Tt{α0:Sort u}{α1:Sort v}{α2:Sort w}{α3:Sort u1}{α4:Sort u2}{α5:Sort u3}{α6:Sort u4}{α7:Sort u5}{α8:Sort u6}(p:α0->α1->α2->α3->α4->α5->α6->α7->α8->Prop):Prop
 | mk (a0:α0) (a1:α1) (a2:α2) (a3:α3) (a4:α4) (a5:α5) (a6:α6) (a7:α7) (a8:α8) (h:p a0 a1 a2 a3 a4 a5 a6 a7 a8):Tt p
inductive Ky{α0:Sort u}{α1:Sort v}{α2:Sort w}{α3:Sort u1}{α4:Sort u2}{α5:Sort u3}{α6:Sort u4}{α7:Sort u5}{α8:Sort u6}{α9:Sort u7}(p:α0->α1->α2->α3->α4->α5->α6->α7->α8->α9->Prop):Prop
 | mk (a0:α0) (a1:α1) (a2:α2) (a3:α3) (a4:α4) (a5:α5) (a6:α6) (a7:α7) (a8:α8) (a9:α9) (h:p a0 a1 a2 a3 a4 a5 a6 a7 a8 a9):Ky p
inductive Uq{α0:Sort u}{α1:Sort v}{α2:Sort w}{α3:Sort u1}{α4:Sort u2}{α5:Sort u3}{α6:Sort u4}{α7:Sort u5}{α8:Sort u6}{α9:Sort u7}{α10:Sort u8}(p:α0->α1->α2->α3->α4->α5->α6->α7->α8->α9->α10->Prop):Prop
 | mk (a0:α0) (a1:α1) (a2:α2) (a3:α3) (a4:α4) (a5:α5) (a6:α6) (a7:α7) (a8:α8) (a9:α9) (oM:α10) (h:p a0 a1 a2 a3 a4 a5 a6 a7 a8 a9 oM):Uq p
inductive UF{α0:Sort u}{α1:Sort v}{α2:Sort w}{α3:Sort u1}{α4:Sort u2}{α5:Sort u3}{α6:Sort u4}{α7:Sort u5}{α8:Sort u6}{α9:Sort u7}{α10:Sort u8}{α11:Sort u9}(p:α0->α1->α2->α3->α4->α5->α6->α7->α8->α9->α10->α11->Prop):Prop
 | mk (a0:α0) (a1:α1) (a2:α2) (a3:α3) (a4:α4) (a5:α5) (a6:α6) (a7:α7) (a8:α8) (a9:α9) (oM:α10) (a11:α11) (h:p a0 a1 a2 a3 a4 a5 a6 a7 a8 a9 oM a11):UF p
end L2
namespace L2
open PySem
def SH(a C:Addr)(h:Heap):Prop:=Bj λoe vs=>h.get? a=some oe/\oe.cls=.ref C/\oe.data=.fields vs/\oe.dict=none
end L2
namespace L3
open PySem PySem.Spec PyProof.Rows L2
inductive D where
 | mC|bl (b:Bool)|int (i:Int)|str (x:Str)|tup (ds:List D)|ref (a:Addr)|ty (n:String)
 | rl (ds:List D)
def NT(K:pU)(H:Hp)(a:Addr)(xs:List V):Prop:=(∃o,H a=some (.frz o (.lst xs)))\/
 ∃(o:Obj) (its:Array Vl) (n:Nat),K.lookup a=some o/\o.cls=.type "list"/\o.dict=none/\o.data=.seq its n/\its.size<=sizeLine/\qh xs its.toList
def NT.sq{K:pU}{H:Hp}{a:Addr}{xs:List V}(h:NT K H a xs):yu K H a xs:=by
 rcases h with⟨o,h⟩|h
 .exact .inl (.inr ⟨o,h⟩)
 .exact .inr h
mutual
def rj(K:pU)(H:Hp):D->V->Prop
 | .mC,v=>v=.mC
 | .bl b,v=>v=.bl b
 | .int i,v=>v=.int i
 | .str x,v=>v=.str x
 | .ref a,v=>v=.ref a
 | .ty n,v=>v=.ty n
 | .tup ds,v=>∃a xs,v=.ref a/\uG K H a xs/\pP K H ds xs
 | .rl ds,v=>∃a xs,v=.ref a/\NT K H a xs/\pP K H ds xs
def pP(K:pU)(H:Hp):List D->List V->Prop
 | [],xs=>xs=[]
 | d::ds,xs=>∃x r,xs=x::r/\rj K H d x/\pP K H ds r
end
structure qy(K:pU)(H H':Hp):Prop where
 t:∀a xs,uG K H a xs->uG K H' a xs
 f:∀a o xs,H a=some (.frz o (.lst xs))->H' a=some (.frz o (.lst xs))
def qy.refl{K:pU}{H:Hp}:qy K H H:=⟨λ_ _ h=>h,λ_ _ _ h=>h⟩
def qy.trans{K:pU}{H H1 H2:Hp}(a:qy K H H1)(b:qy K H1 H2):qy K H H2:=⟨λc xs h=>b.t c xs (a.t c xs h),λc o xs h=>b.f c o xs (a.f c o xs h)⟩
def qy.upd{K:pU}{H:Hp}{p:Addr}{o:HO}(h:∀xs,¬Rd H p (.tup xs))(h':∀u xs,H p≠some (.frz u (.lst xs))):qy K H (upd H p o):=⟨λa xs q=>by
 rcases q with q|q
 .have ne:a≠p:=λz=>h xs (z ▸ q);rcases q with q|⟨u,q⟩
  .exact .inl (.inl (by rw[pF ne];exact q))
  .exact .inl (.inr ⟨u,by rw[pF ne];exact q⟩)
 .exact .inr q,λa u xs q=>by
 have ne:a≠p:=λz=>h' u xs (z ▸ q);rw[pF ne];exact q⟩
def qy.new{K:pU}{H:Hp}{p:Addr}{o:HO}(h:H p=none):qy K H (L2.upd H p o):=.upd (λxs q=>by
 rcases q with q|⟨u,q⟩<;>(rw[h]at q;cases q)) λu xs q=>by rw[h]at q;cases q
def NT.mono{K:pU}{H H':Hp}{a:Addr}{xs:List V}(e:qy K H H')(h:NT K H a xs):NT K H' a xs:=by
 rcases h with⟨o,h⟩|h
 .exact .inl ⟨o,e.f a o xs h⟩
 .exact .inr h
mutual
theorem rj.mono{K:pU}{H H':Hp}(e:qy K H H'):∀{d:D} {v:V},rj K H d v->rj K H' d v
 | .mC,_,h=>h
 | .bl _,_,h=>h
 | .int _,_,h=>h
 | .str _,_,h=>h
 | .ref _,_,h=>h
 | .ty _,_,h=>h
 | .tup ds,v,h=>by unfold rj at h ⊢;obtain⟨a,xs,e1,e2,e3⟩:=h;exact⟨a,xs,e1,e.t _ _ e2,pP.mono e e3⟩
 | .rl ds,v,h=>by unfold rj at h ⊢;obtain⟨a,xs,e1,e2,e3⟩:=h;exact⟨a,xs,e1,e2.mono e,pP.mono e e3⟩
theorem pP.mono{K:pU}{H H':Hp}(e:qy K H H'):∀{ds:List D} {xs:List V},pP K H ds xs->pP K H' ds xs
 | [],_,h=>h
 | d::ds,xs,h=>by unfold pP at h ⊢;obtain⟨x,r,e1,e2,e3⟩:=h;exact⟨x,r,e1,rj.mono e e2,pP.mono e e3⟩
end
variable {K:pU}{H H':Hp}
def pP.nil:pP K H [] []:=by unfold pP;rfl
def pP.cons{d:D}{ds:List D}{x:V}{xs:List V}(a:rj K H d x)(b:pP K H ds xs):pP K H (d::ds) (x::xs):=by unfold pP;exact⟨x,xs,rfl,a,b⟩
def pP.inv{d:D}{ds:List D}{xs:List V}(h:pP K H (d::ds) xs):∃x r,xs=x::r/\rj K H d x/\pP K H ds r:=by unfold pP at h;exact h
def pP.nil_inv{xs:List V}(h:pP K H [] xs):xs=[]:=by unfold pP at h;exact h
theorem pP.length:∀{ds:List D} {xs:List V},pP K H ds xs->ds.length=xs.length
 | [],_,h=>by rw[h.nil_inv];rfl
 | d::ds,_,h=>by obtain⟨x,r,rfl,_,e⟩:=h.inv;simp[pP.length e]
theorem pP.get:∀{ds:List D} {xs:List V} {i:Nat} {d:D},pP K H ds xs->ds[i]?=some d->∃x,xs[i]?=some x/\rj K H d x
 | [],_,_,_,_,e=>by simp at e
 | d::ds,_,0,_,h,e=>by obtain⟨x,r,rfl,a,_⟩:=h.inv;simp at e;subst e;exact⟨x,by simp,a⟩
 | d::ds,_,i+1,_,h,e=>by obtain⟨x,r,rfl,_,b⟩:=h.inv;obtain⟨y,e1,e2⟩:=pP.get b (by simpa using e);exact⟨y,by simpa using e1,e2⟩
theorem pP.append:∀{ds es:List D} {xs ys:List V},pP K H ds xs->pP K H es ys->pP K H (ds++es) (xs++ys)
 | [],_,_,_,h,g=>by rw[h.nil_inv];exact g
 | d::ds,_,_,_,h,g=>by obtain⟨x,r,rfl,a,b⟩:=h.inv;exact .cons a (pP.append b g)
theorem pP.take:∀{ds:List D} {xs:List V} (n:Nat),pP K H ds xs->pP K H (ds.take n) (xs.take n)
 | _,_,0,_=>by simp only[List.take_zero];exact .nil
 | [],_,n+1,h=>by rw[h.nil_inv];exact .nil
 | d::ds,_,n+1,h=>by obtain⟨x,r,rfl,a,b⟩:=h.inv;exact .cons a (pP.take n b)
theorem pP.drop:∀{ds:List D} {xs:List V} (n:Nat),pP K H ds xs->pP K H (ds.drop n) (xs.drop n)
 | _,_,0,h=>h
 | [],_,n+1,h=>by rw[h.nil_inv];exact .nil
 | d::ds,_,n+1,h=>by obtain⟨x,r,rfl,a,b⟩:=h.inv;exact pP.drop n b
def pP.snoc{ds:List D}{xs:List V}{d:D}{x:V}(h:pP K H ds xs)(a:rj K H d x):pP K H (ds++[d]) (xs++[x]):=h.append (.cons a .nil)
theorem pP.ints:∀{ns:List Int},pP K H (ns.map D.int) (ns.map V.int)
 | []=>.nil
 | n::r=>.cons (by unfold rj;rfl) pP.ints
def rj.tup{ds:List D}{a:Addr}{xs:List V}(q:uG K H a xs)(h:pP K H ds xs):rj K H (.tup ds) (.ref a):=by unfold rj;exact⟨a,xs,rfl,q,h⟩
def rj.mE{ds:List D}{v:V}(h:rj K H (.tup ds) v):∃a xs,v=.ref a/\uG K H a xs/\pP K H ds xs:=by unfold rj at h;exact h
def rj.mQ{ds:List D}{v:V}(h:rj K H (.rl ds) v):∃a xs,v=.ref a/\NT K H a xs/\pP K H ds xs:=by unfold rj at h;exact h
def rj.int{i:Int}:rj K H (.int i) (.int i):=by unfold rj;rfl
def rj.bl{i:Bool}:rj K H (.bl i) (.bl i):=by unfold rj;rfl
def rj.str{i:Str}:rj K H (.str i) (.str i):=by unfold rj;rfl
def rj.ref{i:Addr}:rj K H (.ref i) (.ref i):=by unfold rj;rfl
def rj.mC:rj K H .mC .mC:=by unfold rj;rfl
def rj.int_inv{i:Int}{v:V}(h:rj K H (.int i) v):v=.int i:=by unfold rj at h;exact h
def rj.mB{i:Bool}{v:V}(h:rj K H (.bl i) v):v=.bl i:=by unfold rj at h;exact h
def rj.str_inv{i:Str}{v:V}(h:rj K H (.str i) v):v=.str i:=by unfold rj at h;exact h
def rj.mx{i:Addr}{v:V}(h:rj K H (.ref i) v):v=.ref i:=by unfold rj at h;exact h
def rj.nH{i:String}{v:V}(h:rj K H (.ty i) v):v=.ty i:=by unfold rj at h;exact h
def rj.mz{v:V}(h:rj K H .mC v):v=.mC:=by unfold rj at h;exact h
inductive uo where
 | lst (ds:List D)
 | ins (C:Addr) (fs:List (Str×D))
 | dk (kvs:List (qK×D))
 | exc (C:Addr)
abbrev Mp:=Addr->Option uo
def oX(M:Mp)(a:Addr)(c:uo):Mp:=λb=>if b=a then some c else M b
def pC{M:Mp}{a:Addr}{c:uo}:oX M a c a=some c:=by unfold oX;rw[cY rfl]
def tV{M:Mp}{a b:Addr}{c:uo}(h:b≠a):oX M a c b=M b:=by unfold oX;rw[cW h]
def ra{M:Mp}{a:Addr}{c d:uo}:oX (oX M a c) a d=oX M a d:=by funext b;unfold oX;split<;>rfl
def Pb{M:Mp}{a b:Addr}{c:uo}(h:M a=some c)(h':M b=none):a≠b:=by intro e;subst e;rw[h]at h';cases h'
def BJ(K:pU)(H:Hp)(fs:List (Str×D))(vs:List (Str×V)):Prop:=vs.map (·.1)=fs.map (·.1)/\pP K H (fs.map (·.2)) (vs.map (·.2))
def xu(K:pU)(H:Hp)(a:Addr):uo->Prop
 | .lst ds=>∃xs,H a=some (.lst xs)/\pP K H ds xs
 | .ins C fs=>∃dx vs,H a=some (.ins C dx vs)/\Cls K C/\(∀f,f∈fs.map (·.1)->tG K C f)/\BJ K H fs vs
 | .dk kvs=>∃vs,H a=some (.dK vs)/\vs.map (·.1)=kvs.map (·.1)/\pP K H (kvs.map (·.2)) (vs.map (·.2))
 | .exc C=>H a=some (.ext (SH a C))
def HM(K:pU)(H:Hp)(M:Mp):Prop:=∀a c,M a=some c->xu K H a c
variable {M:Mp}
def BJ.mono{fs:List (Str×D)}{vs:List (Str×V)}(e:qy K H H')(h:BJ K H fs vs):BJ K H' fs vs:=⟨h.1,h.2.mono e⟩
def xu.keep{a:Addr}{c:uo}(e:qy K H H')(k:H' a=H a)(h:xu K H a c):xu K H' a c:=by
 cases c with
 | lst ds=>obtain⟨xs,e1,e2⟩:=h;exact⟨xs,by rw[k];exact e1,e2.mono e⟩
 | ins C fs=>obtain⟨dx,vs,e1,c,n,e2⟩:=h;exact⟨dx,vs,by rw[k];exact e1,c,n,e2.mono e⟩
 | dk kvs=>obtain⟨vs,e1,e2,e3⟩:=h;exact⟨vs,by rw[k];exact e1,e2,e3.mono e⟩
 | exc C=>exact k.trans h
def xu.there{a:Addr}{c:uo}(h:xu K H a c):∃o,H a=some o/\(∀xs,¬Rd H a (.tup xs))/\∀u xs,H a≠some (.frz u (.lst xs)):=by
 have go:∀o,H a=some o->(∀xs,o≠.tup xs)->(∀u v,o≠.frz u v)->∃o,H a=some o/\(∀xs,¬Rd H a (.tup xs))/\∀u xs,H a≠some (.frz u (.lst xs)):=λo e n1 n2=>⟨o,e,λxs q=>by
  rcases q with q|⟨u,q⟩
  .rw[e]at q;exact n1 xs (df q)
  .rw[e]at q;exact n2 u _ (df q),λu xs q=>by rw[e]at q;exact n2 u _ (df q)⟩
 cases c with
 | lst ds=>obtain⟨xs,e1,e2⟩:=h;exact go _ e1 (λ_ z=>by cases z) λ_ _ z=>by cases z
 | ins C fs=>obtain⟨dx,vs,e1,e2⟩:=h;exact go _ e1 (λ_ z=>by cases z) λ_ _ z=>by cases z
 | dk kvs=>obtain⟨vs,e1,e2,e3⟩:=h;exact go _ e1 (λ_ z=>by cases z) λ_ _ z=>by cases z
 | exc C=>exact go _ h (λ_ z=>by cases z) λ_ _ z=>by cases z
def HM.fresh(h:HM K H M){p:Addr}(n:H p=none):M p=none:=by
 cases e:M p with
 | none=>rfl
 | some c=>obtain⟨o,q,_⟩:=(h p c e).there;rw[n]at q;cases q
def HM.keep(h:HM K H M)(e:qy K H H')(k:∀a c,M a=some c->H' a=H a):HM K H' M:=λa c q=>(h a c q).keep e (k a c q)
def HM.add(h:HM K H M){p:Addr}{o:HO}(n:H p=none):HM K (upd H p o) M:=h.keep (.new n) λa c q=>by obtain⟨u,e,_⟩:=(h a c q).there;rw[pF (qz e n)]
def HM.new(h:HM K H M){p:Addr}{o:HO}{c:uo}(n:H p=none)(ok:xu K (upd H p o) p c):HM K (upd H p o) (oX M p c):=λa d q=>by
 by_cases e:a=p
 .subst e;rw[pC]at q;cases q;exact ok
 .rw[tV e]at q;exact h.add n a d q
def HM.put(h:HM K H M){p:Addr}{o:HO}{c c0:uo}(e0:M p=some c0)(ok:qy K H (upd H p o)->xu K (upd H p o) p c):HM K (upd H p o) (oX M p c)/\qy K H (upd H p o):=by
 obtain⟨u,eu,nt,nf⟩:=(h p c0 e0).there;have x:qy K H (upd H p o):=.upd nt nf;refine⟨λa d q=>?_,x⟩;by_cases e:a=p
 .subst e;rw[pC]at q;cases q;exact ok x
 .rw[tV e]at q;exact(h a d q).keep x (pF e)
abbrev St:=L2.St
abbrev uJ:=List (Option D)
abbrev DK:=D->Mp->Prop
abbrev T3:=uJ->Mp->DK->Prop
abbrev zK:=uJ->Mp->(Bool->Mp->Prop)->Prop
abbrev wU:=uJ->Mp->(List D->Mp->Prop)->Prop
structure FG where
 nx:uJ->Mp->Prop
 rt:DK
 bk:uJ->Mp->Prop:=λ_ _=>False
 ct:uJ->Mp->Prop:=λ_ _=>False
abbrev xx:=FG->uJ->Mp->Prop
def yg(K:pU)(H:Hp)(σ:St)(δ:uJ):Prop:=∀(i:Nat) (d:D),δ[i]?=some (some d)->∃v,σ[i]?=some (some v)/\rj K H d v
def yg.mono{K:pU}{H H':Hp}{σ:St}{δ:uJ}(e:qy K H H')(h:yg K H σ δ):yg K H' σ δ:=λi d q=>by obtain⟨v,e1,e2⟩:=h i d q;exact⟨v,e1,e2.mono e⟩
def yg.set{K:pU}{H:Hp}{σ:St}{δ:uJ}{i:Nat}{d:D}{v:V}(h:yg K H σ δ)(hv:rj K H d v)(hi:i<σ.length):yg K H (σ.set i (some v)) (δ.set i (some d)):=λj e q=>by
 by_cases hj:j=i
 .subst hj;rw[eK hi];by_cases hl:j<δ.length
  .rw[eK hl]at q;cases q;exact⟨v,rfl,hv⟩
  .rw[gC (by simpa using hl)]at q;cases q
 .rw[eP (dM hj)]at q ⊢;exact h j e q
def lo(K:pU)(t:T3):TE:=λσ H Q'=>Cv λδ M Q=>yg K H σ δ/\HM K H M/\t δ M Q/\∀v H' d M',rj K H' d v->HM K H' M'->qy K H H'->Q d M'->Q' v H'
def RZ(K:pU)(t:zK):TT:=λσ H Q'=>Cv λδ M Q=>yg K H σ δ/\HM K H M/\t δ M Q/\∀b H' M',HM K H' M'->qy K H H'->Q b M'->Q' b H'
def Vq(K:pU)(t:wU):TA:=λσ H Q'=>Cv λδ M Q=>yg K H σ δ/\HM K H M/\t δ M Q/\∀vs H' ds M',pP K H' ds vs->HM K H' M'->qy K H H'->Q ds M'->Q' vs H'
def UQ(K:pU)(t:xx):TS:=λD' σ H=>Cv λδ M D=>yg K H σ δ/\HM K H M/\t D δ M/\(∀σ' H' δ' M',yg K H' σ' δ'->HM K H' M'->qy K H H'->σ'.length=σ.length->D.nx δ' M'->D'.nx σ' H')/\
 (∀v H' d M',rj K H' d v->HM K H' M'->qy K H H'->D.rt d M'->D'.rt v H')/\(∀σ' H' δ' M',yg K H' σ' δ'->HM K H' M'->qy K H H'->σ'.length=σ.length->D.bk δ' M'->D'.bk σ' H')/\
 (∀σ' H' δ' M',yg K H' σ' δ'->HM K H' M'->qy K H H'->σ'.length=σ.length->D.ct δ' M'->D'.ct σ' H')
def E3(X:Cx)(e:Expr)(t:T3):Prop:=PE X e (lo X.K t)
def B3(X:Cx)(e:Expr)(t:zK):Prop:=PT X e (RZ X.K t)
def A3(X:Cx)(es:List Expr)(t:wU):Prop:=PA X es (Vq X.K t)
def S3(X:Cx)(st:Stmt)(t:xx):Prop:=PS X st (UQ X.K t)
def Hd(X:Cx)(st:List Stmt)(t:xx):Prop:=AK X st (UQ X.K t)
def PE.mono{X:Cx}{e:Expr}{t t':TE}(h:PE X e t)(m:∀σ H Q,t' σ H Q->t σ H Q):PE X e t':=λVL s σ H Q I q=>h VL s σ H Q I (m σ H Q q)
def PT.mono{X:Cx}{e:Expr}{t t':TT}(h:PT X e t)(m:∀σ H Q,t' σ H Q->t σ H Q):PT X e t':=λVL s σ H Q I q=>h VL s σ H Q I (m σ H Q q)
def PA.mono{X:Cx}{e:List Expr}{t t':TA}(h:PA X e t)(m:∀σ H Q,t' σ H Q->t σ H Q):PA X e t':=λpos VL s σ H Q I q=>h pos VL s σ H Q I (m σ H Q q)
def PS.mono{X:Cx}{e:Stmt}{t t':TS}(h:PS X e t)(m:∀D σ H,t' D σ H->t D σ H):PS X e t':=λVL s σ H D I q=>h VL s σ H D I (m D σ H q)
def AK.mono{X:Cx}{e:List Stmt}{t t':TS}(h:AK X e t)(m:∀D σ H,t' D σ H->t D σ H):AK X e t':=λVL s σ H D I q=>h VL s σ H D I (m D σ H q)
def PS.nE{X:Cx}{e:Stmt}{t t':TS}(h:PS X e t)(m:∀D σ H,σ.length=X.N.length->t' D σ H->t D σ H):PS X e t':=λVL s σ H D I q=>h VL s σ H D I (m D σ H I.len q)
def vk{K:pU}{H H1:Hp}{Q':VK}{Q:DK}(x:qy K H H1)(f:∀v H' d M',rj K H' d v->HM K H' M'->qy K H H'->Q d M'->Q' v H'):∀v H' d M',rj K H' d v->HM K H' M'->qy K H1 H'->Q d M'->Q' v H':=
 λv H' d M' a b c e=>f v H' d M' a b (x.trans c) e
variable {X:Cx}{pos:Pos}
def v3(i:Nat):T3:=λδ M Q=>(δ.getD i none).elim False λd=>Q d M
def Jc{δ:uJ}{i:Nat}{P:D->Prop}(h:(δ.getD i none).elim False P):∃d,δ[i]?=some (some d)/\P d:=by
 cases e:δ[i]? with
 | none=>rw[gD,e]at h;exact h.elim
 | some o=>
  rw[gD,e]at h;cases o with
  | none=>exact h.elim
  | some d=>exact⟨d,rfl,h⟩
def QO(i:Nat){x:Str}(h:PE X (.Name x pos) (ES i)):E3 X (.Name x pos) (v3 i):=PE.mono h λσ H Q' zz=>x7 zz λδ M Q hs hm ht k=>by obtain⟨d,e,q⟩:=Jc ht;obtain⟨v,e1,e2⟩:=hs i d e;exact⟨v,e1,k v H d M e2 hm .refl q⟩
def c3(d:D):T3:=λ_ M Q=>Q d M
def oQ{i j}:E3 X (.Constant (.int i) j pos) (c3 (.int i)):=PE.mono Rp λσ H Q' zz=>x7 zz λδ M Q hs hm ht k=>k _ H _ M .int hm .refl ht
def wX{i j}:E3 X (.Constant (.bool i) j pos) (c3 (.bl i)):=PE.mono Tn λσ H Q' zz=>x7 zz λδ M Q hs hm ht k=>k _ H _ M .bl hm .refl ht
def oR{i j}:E3 X (.Constant (.str i) j pos) (c3 (.str i)):=PE.mono RC λσ H Q' zz=>x7 zz λδ M Q hs hm ht k=>k _ H _ M .str hm .refl ht
def rE{j}:E3 X (.Constant .none j pos) (c3 .mC):=PE.mono P6 λσ H Q' zz=>x7 zz λδ M Q hs hm ht k=>k _ H _ M .mC hm .refl ht
def TB{x:Str}{n:String}(hg:Gl X x)(hm:X.mg x=none)(hv:bootBuiltins x=some (.type n))(hn:x≠"__name__":=by decide)(hd:yb x:=by decide):E3 X (.Name x pos) (c3 (.ty n)):=
 PE.mono (Oy (v:=.ty n) hg hm hv rfl hn hd) λσ H Q' zz=>x7 zz λδ M Q hs hm ht k=>k _ H _ M (by unfold rj;rfl) hm .refl ht
def oy(M:Mp)(a:Addr):Option (List D):=match M a with
 | some (.lst ds)=>some ds
 | _=>none
def xY(x:Str)(n:Int):Str:=⟨(List.replicate n.toNat x.cps).foldl (·++·) #[]⟩
def T4(op:Operator)(x y:D)(M:Mp)(Q:DK):Prop:=match op,x,y with
 | .Add,.int i,.int j=>Q (.int (i+j)) M
 | .Add,.str i,.str j=>i.length+j.length<=sizeLine/\Q (.str (i++j)) M
 | .Add,.tup i,.tup j=>i≠[]/\i.length+j.length<=sizeLine/\Q (.tup (i++j)) M
 | .Add,.ref a,.ref b=>(oy M a).elim False λi=>(oy M b).elim False λj=>i.length+j.length<=sizeLine/\∀p,M p=none->Q (.ref p) (oX M p (.lst (i++j)))
 | .Add,.rl i,.ref b=>(oy M b).elim False λj=>i.length+j.length<=sizeLine/\∀p,M p=none->Q (.ref p) (oX M p (.lst (i++j)))
 | .Sub,.int i,.int j=>Q (.int (i - j)) M
 | .Mult,.int i,.int j=>Cp i j/\Q (.int (i*j)) M
 | .Mult,.str i,.int j=>(j<4096/\-4096<j/\i.length<4096)/\Q (.str (xY i j)) M
 | .FloorDiv,.int i,.int j=>Tp i j/\Q (.int (i / j)) M
 | .Mod,.int i,.int j=>0<j/\Q (.int (i % j)) M
 | _,_,_=>False
def o3(op:Operator)(ta tb:T3):T3:=λδ M Q=>ta δ M λx M1=>tb δ M1 λy M2=>T4 op x y M2 Q
def Up(K:pU)(H:Hp)(Q':VK)(Q:DK):Prop:=∀v H' d M',rj K H' d v->HM K H' M'->qy K H H'->Q d M'->Q' v H'
variable {ta tb:T3}
section
def pV{K:pU}{H:Hp}{M:Mp}{a:Addr}{ds:List D}(hm:HM K H M)(h:oy M a=some ds):∃xs,yu K H a xs/\pP K H ds xs/\Rd H a (.lst xs):=by
 unfold oy at h;cases e:M a with
 | none=>rw[e]at h;cases h
 | some c=>
  rw[e]at h;have ok:=hm a c e;cases c with
  | lst es=>cases h;obtain⟨xs,e1,e2⟩:=ok;exact⟨xs,.inl (.inl e1),e2,.inl e1⟩
  | ins _ _=>cases h
  | dk _=>cases h
  | exc _=>cases h
def qC{α:Type}{o:Option α}{P:α->Prop}(h:o.elim False P):∃a,o=some a/\P a:=by
 cases o with
 | none=>exact h.elim
 | some a=>exact⟨a,rfl,h⟩
def IA:wH X (binaryOp .Add) (λx y H Q=>∃l b xs zs,x=.ref l/\y=.ref b/\yu X.K H l xs/\yu X.K H b zs/\xs.length+zs.length<=sizeLine/\∀p,H p=none->Q (.ref p) (upd H p (.lst (xs++zs)))):=by
 intro VL s σ H x y v u Q I rx ry h;obtain⟨l,b,xs,zs,rfl,rfl,hH,hB,hz,q⟩:=h;cases rx;cases ry;obtain⟨its,r,⟨⟨c1,d1,t1,sl1⟩,n,g1,e1,_,f1⟩,_⟩:=I.list hH;obtain⟨XN,r2,⟨⟨c2,d2,t2,sl2⟩,m,g2,e2,_,f2⟩,_⟩:=I.list hB;simp only at e1 f1 e2 f2;subst e1 f1 e2 f2;have hl:=r.length;have hl2:=r2.length;refine kH ⟨_,g1,rfl⟩ ⟨_,g2,rfl⟩ noFill_list_add seq_list_add PySem.F.slot_list_add PySem.F.entry_list_add (PySem.F.args_list_add_2 _ _) (list_addW l b its.toArray XN.toArray n m d1 d2 sl1 sl2 (by rw[dh,dh];omega)) ⟨g1,g2,?_⟩;have ea:its.toArray++XN.toArray=(its++XN).toArray:=by simp
 rw[ea];exact⟨.ref _,_,I.oA (t':=s.toks) (r.append r2) (by rw[cU];omega),rfl,q _ I.fresh⟩
def Hu(x:Array Nat):∀k,((List.replicate k x).foldl (·++·) #[]:Array Nat).size=k*x.size:=by
 have go:∀(k:Nat) (acc:Array Nat),((List.replicate k x).foldl (·++·) acc).size=acc.size+k*x.size:=by
  intro k;induction k with
  | zero=>intro acc;simp
  | succ k ih=>intro acc;rw[eF,fV,ih,Array.size_append,l0];omega
 intro k;rw[go];simp
def OW:wH X (binaryOp .Mult) (λx y H Q=>∃i j,x=.str i/\y=.int j/\(j<4096/\-4096<j/\i.length<4096)/\Q (.str (xY i j)) H):=by
 intro VL s σ H x y v u Q I rx ry h;obtain⟨i,j,rfl,rfl,⟨h1,h2,h3⟩,q⟩:=h;obtain⟨t,rfl⟩:=rx;obtain⟨t',rfl⟩:=ry;refine PySem.P.mul_str ?_ ?_ ?_ ?_
 .rw[eO (by omega),eO (by omega)];rfl
 .intro h0 _;have:(4096:Int)<=(2 ^ 63 - 1) / j:=by
   have:(4096:Int)*j<=2 ^ 63 - 1:=by omega
   exact(Int.le_ediv_iff_mul_le (by omega)).mpr this
  omega
 .intro h0 _;have hm:i.length*j.toNat<=4096*4096:=jX (by omega) (by omega);have hz:=dN;unfold Builtin.Str.tooLong;exact eO (by omega)
 .by_cases h0:j<1
  .rw[cY h0];have e:xY i j=Str.empty:=by unfold xY;rw[show j.toNat=0 by omega];rfl
   rw[e]at q;exact⟨by decide,⟨.str Str.empty,H,I.tok _,⟨_,rfl⟩,q⟩⟩
  .rw[cW h0];by_cases hj:(j==1||i.length==0)=true
   .rw[cY hj];have e:xY i j=i:=by
     have hj':j=1\/i.length=0:=by simpa using hj
     unfold xY;rcases hj' with z|z
     .subst z;show(⟨#[]++i.cps⟩:Str)=i;simp
     .have ec:i.cps=#[]:=Array.size_eq_zero_iff.mp z;have er:∀k:Nat,((List.replicate k (#[]:Array Nat)).foldl (·++·) #[]:Array Nat)=#[]:=by
       intro k;induction k with
       | zero=>rfl
       | succ k ih=>rw[eF,fV];simpa using ih
      rw[ec,er,<-ec]
    rw[e]at q;exact⟨.str i,H,I,⟨t,rfl⟩,q⟩
   .rw[cW hj];refine⟨?_,⟨.str _,H,I.tok _,⟨_,rfl⟩,q⟩⟩;have hz:=dN;have hm:j.toNat*i.length<=4096*4096:=jX (by omega) (by omega);show((List.replicate j.toNat i.cps).foldl (·++·) #[]:Array Nat).size<=_;rw[Hu];have Xk:j.toNat*i.cps.size<=4096*4096:=hm;omega
def R3(K:pU)(f:D->D->Mp->DK->Prop):R2:=λvx vy H Q'=>zZ λx y M Q=>rj K H x vx/\rj K H y vy/\HM K H M/\f x y M Q/\Up K H Q' Q
def VB(op:Operator):wH X (binaryOp op) (R3 X.K (T4 op)):=by
 intro VL s σ H vx vy v u Q' I rx ry h;obtain⟨x,y,M,Q,hx,hy,hm,q,k⟩:=h;unfold T4 at q;split at q
 .cases hx.int_inv;cases hy.int_inv;exact RP VL s σ H _ _ v u Q' I rx ry ⟨_,_,rfl,rfl,k _ _ _ _ .int hm .refl q⟩
 .cases hx.str_inv;cases hy.str_inv;exact GO VL s σ H _ _ v u Q' I rx ry ⟨_,_,rfl,rfl,q.1,k _ _ _ _ .str hm .refl q.2⟩
 .rename_i i j;obtain⟨q1,q2,q3⟩:=q;obtain⟨a,xs,rfl,ha,Xr⟩:=hx.mE;obtain⟨b,ys,rfl,hb,WH⟩:=hy.mE;have l1:=Xr.length;have l2:=WH.length;refine Oa VL s σ H _ _ v u Q' I rx ry ⟨a,b,xs,ys,rfl,rfl,ha,hb,λz=>q1 (by rw[z]at l1;exact gq.mp l1),by omega,λz=>?_,λz p hp=>?_⟩
  .refine k _ _ _ _ (.tup ha ?_) hm .refl q3;rw[z]at WH;have e0:j=[]:=gq.mp (by simpa using WH.length);rw[e0,eM];exact Xr
  .have e:qy X.K H (upd H p (.tup (xs++ys))):=.new hp;exact k _ _ _ _ (.tup (.of pM) ((Xr.append WH).mono e)) (hm.add hp) e q3
 .obtain⟨i,ei,q⟩:=qC q;obtain⟨j,ej,q1,q2⟩:=qC q;cases hx.mx;cases hy.mx;obtain⟨xs,rx',YR,_⟩:=pV hm ei;obtain⟨ys,ry',hys,_⟩:=pV hm ej;have l1:=YR.length;have l2:=hys.length;refine IA VL s σ H _ _ v u Q' I rx ry ⟨_,_,xs,ys,rfl,rfl,rx',ry',by omega,λp hp=>?_⟩;have e:qy X.K H (upd H p (.lst (xs++ys))):=.new hp;exact k _ _ _ _ .ref (hm.new (c:=.lst (i++j)) hp ⟨_,pM,(YR.append hys).mono e⟩) e (q2 p (hm.fresh hp))
 .obtain⟨j,ej,q1,q2⟩:=qC q;obtain⟨l,xs,rfl,rx',YR⟩:=hx.mQ;cases hy.mx;obtain⟨ys,ry',hys,_⟩:=pV hm ej;have l1:=YR.length;have l2:=hys.length;refine IA VL s σ H _ _ v u Q' I rx ry ⟨_,_,xs,ys,rfl,rfl,rx'.sq,ry',by omega,λp hp=>?_⟩;have e:qy X.K H (upd H p (.lst (xs++ys))):=.new hp;exact k _ _ _ _ .ref (hm.new (c:=.lst (_++j)) hp ⟨_,pM,(YR.append hys).mono e⟩) e (q2 p (hm.fresh hp))
 .cases hx.int_inv;cases hy.int_inv;exact Rn VL s σ H _ _ v u Q' I rx ry ⟨_,_,rfl,rfl,k _ _ _ _ .int hm .refl q⟩
 .cases hx.int_inv;cases hy.int_inv;exact P9 VL s σ H _ _ v u Q' I rx ry ⟨_,_,rfl,rfl,q.1,k _ _ _ _ .int hm .refl q.2⟩
 .cases hx.str_inv;cases hy.int_inv;exact OW VL s σ H _ _ v u Q' I rx ry ⟨_,_,rfl,rfl,q.1,k _ _ _ _ .str hm .refl q.2⟩
 .cases hx.int_inv;cases hy.int_inv;exact Ny VL s σ H _ _ v u Q' I rx ry ⟨_,_,rfl,rfl,q.1,k _ _ _ _ .int hm .refl q.2⟩
 .cases hx.int_inv;cases hy.int_inv;exact Rj VL s σ H _ _ v u Q' I rx ry ⟨_,_,rfl,rfl,q.1,k _ _ _ _ .int hm .refl q.2⟩
 .exact q.elim
variable {a b:Expr}
def Hi{f:D->D->Mp->DK->Prop}:∀σ H Q',lo X.K (λδ M Q=>ta δ M λx M1=>tb δ M1 λy M2=>f x y M2 Q) σ H Q'->Sb (R3 X.K f) (lo X.K ta) (lo X.K tb) σ H Q':=λσ H Q' zz=>x7 zz λδ M Q hs hm ht k=>⟨δ,M,_,hs,hm,ht,λv H1 x M1 hx VN e1 q1=>⟨δ,M1,_,hs.mono e1,VN,q1,λu H2 y M2 hy V5 e2 q2=>⟨x,y,M2,Q,hx.mono e2,hy,V5,q2,vk (e1.trans e2) k⟩⟩⟩
def pH{op:Operator}(ha:E3 X a ta)(hb:E3 X b tb):E3 X (.BinOp a op b pos) (o3 op ta tb):=PE.mono (Pv (VB op) ha hb) Hi
end
def rX(f:D->D->Option Bool):List D->List D->Option Bool
 | x::a,y::b=>(f x y).bind λp=>(rX f a b).map λq=>p&&q
 | _,_=>some true
def yw(M:Mp):Nat->D->D->Option Bool
 | 0,_,_=>none
 | n+1,x,y=>match x,y with
  | .mC,.mC=>some true
  | .bl a,.bl b=>some (a==b)
  | .int a,.int b=>some (a==b)
  | .str a,.str b=>some (a==b)
  | .mC,.bl _=>some false
  | .mC,.int _=>some false
  | .mC,.str _=>some false
  | .bl _,.mC=>some false
  | .bl _,.str _=>some false
  | .int _,.mC=>some false
  | .int _,.str _=>some false
  | .str _,.mC=>some false
  | .str _,.bl _=>some false
  | .str _,.int _=>some false
  | .tup a,.tup b=>(rX (yw M n) a b).map λp=>p&&a.length==b.length
  | .ref a,.ref b=>(oy M a).bind λi=>(oy M b).bind λj=>if i.length=j.length then rX (yw M n) i j else some false
  | _,_=>none
variable {VL:List (Addr × Obj)}{σ:St}{s:Sd}
theorem yp{f:D->D->Option Bool}:∀{ds es:List D} {xs:List V} {b:Bool},pP X.K H ds xs->pP X.K H es xs->(∀x y v b,rj X.K H x v->rj X.K H y v->f x y=some b->b=true)->rX f ds es=some b->b=true
 | [],[],_,_,_,_,_,e=>(df e).symm
 | [],_::_,_,_,h,g,_,_=>by have h1:=h.length;have h2:=g.length;rw[<-h1]at h2;simp at h2
 | _::_,[],_,_,h,g,_,_=>by have h1:=h.length;have h2:=g.length;rw[<-h1]at h2;simp at h2
 | d::ds,e::es,xs,b,h,g,k,q=>by
  obtain⟨x,r,rfl,h1,h2⟩:=h.inv;obtain⟨x',r',e',g1,g2⟩:=g.inv;cases e';unfold rX at q;cases p1:f d e with
  | none=>rw[p1]at q;cases q
  | some b1=>
   rw[p1]at q;cases p2:rX f ds es with
   | none=>rw[p2]at q;cases q
   | some b2=>rw[p2]at q;have q':(b1&&b2)=b:=df q;rw[<-q',k _ _ _ _ h1 g1 p1,yp h2 g2 k p2];rfl
theorem yZ(I:Inv X VL σ H s)(hm:HM X.K H M):∀(n:Nat) (x y:D) (v:V) (b:Bool),rj X.K H x v->rj X.K H y v->yw M n x y=some b->b=true
 | 0,_,_,_,_,_,_,e=>by cases e
 | n+1,x,y,v,b,hx,hy,e=>by
  unfold yw at e;split at e
  .exact(df e).symm
  .rw[hx.mB]at hy;cases hy.mB;exact(df e).symm.trans (by simp)
  .rw[hx.int_inv]at hy;cases hy.int_inv;exact(df e).symm.trans (by simp)
  .rw[hx.str_inv]at hy;cases hy.str_inv;exact(df e).symm.trans (by simp)
  .rw[hx.mz]at hy;cases hy.mB
  .rw[hx.mz]at hy;cases hy.int_inv
  .rw[hx.mz]at hy;cases hy.str_inv
  .rw[hx.mB]at hy;cases hy.mz
  .rw[hx.mB]at hy;cases hy.str_inv
  .rw[hx.int_inv]at hy;cases hy.mz
  .rw[hx.int_inv]at hy;cases hy.str_inv
  .rw[hx.str_inv]at hy;cases hy.mz
  .rw[hx.str_inv]at hy;cases hy.mB
  .rw[hx.str_inv]at hy;cases hy.int_inv
  .obtain⟨a,xs,rfl,h1,h2⟩:=hx.mE;obtain⟨a',ys,e',g1,g2⟩:=hy.mE;cases e';rw[I.mU g1 h1]at g2;cases p:rX (yw M n) _ _ with
   | none=>rw[p]at e;cases e
   | some b1=>rw[p]at e;have e':=df e;rw[<-e',yp h2 g2 (yZ I hm n) p,h2.length,g2.length];simp
  .rw[hx.mx]at hy;cases hy.mx;cases p:oy M _ with
   | none=>rw[p]at e;cases e
   | some i=>rw[p]at e;have e:(if i.length=i.length then rX (yw M n) i i else some false)=some b:=e;rw[cY rfl]at e;obtain⟨xs,_,h2,_⟩:=pV hm p;exact yp h2 h2 (yZ I hm n) e
  .cases e
theorem BI{f:D->D->Option Bool}{A:Ar}:∀{ds es:List D} {xs ys:List V} {us ws:List Vl} {b:Bool},rX f ds es=some b->pP X.K H ds xs->pP X.K H es ys->qh xs us->qh ys ws->
  (∀x y b vx vy u w,f x y=some b->rj X.K H x vx->rj X.K H y vy->qp vx u->qp vy w->SeqAt.EqAt A s u w b)->
  ∃e:Nat->Bool,(∀j (h1:j<us.length) (h2:j<ws.length),SeqAt.EqAt A s us[j] ws[j] (e j))/\(List.range (min us.length ws.length)).all e=b
 | [],es,xs,ys,us,ws,b,q,hx,hy,rx,ry,k=>by
  have e1:=hx.nil_inv;subst e1;cases rx;refine⟨λ_=>true,λj h1=>absurd h1 (by simp),?_⟩;have q':some true=some b:=by cases es<;>exact q
  simpa using(df q')
 | d::ds,[],xs,ys,us,ws,b,q,hx,hy,rx,ry,k=>by
  have e1:=hy.nil_inv;subst e1;cases ry;refine⟨λ_=>true,λj _ h2=>absurd h2 (by simp),?_⟩;have q':some true=some b:=q
  simpa using(df q')
 | d::ds,e::es,xs,ys,us,ws,b,q,hx,hy,rx,ry,k=>by
  obtain⟨x,r,rfl,h1,h2⟩:=hx.inv;obtain⟨y,r',rfl,g1,g2⟩:=hy.inv;cases rx with
  | cons r1 r2=>
   cases ry with
   | cons t1 t2=>
    unfold rX at q;cases p1:f d e with
    | none=>rw[p1]at q;cases q
    | some b1=>
     rw[p1]at q;cases p2:rX f ds es with
     | none=>rw[p2]at q;cases q
     | some b2=>
      rw[p2]at q;have q':(b1&&b2)=b:=df q;obtain⟨e',he,ha⟩:=BI p2 h2 g2 r2 t2 k;refine⟨λj=>match j with|0=>b1|j+1=>e' j,λj l1 l2=>?_,?_⟩
      .cases j with
       | zero=>exact k _ _ _ _ _ _ _ p1 h1 g1 r1 t1
       | succ j=>exact he j (by simpa using l1) (by simpa using l2)
      .rw[<-q',<-ha];simp only[dY];rw[Nat.succ_min_succ,List.range_succ_eq_map,gp,l8];rfl
theorem DJ(I:Inv X VL σ H s)(hm:HM X.K H M):∀(n:Nat) (A:Ar) (x y:D) (b:Bool) (vx vy:V) (u w:Vl),A.units+n<cLine->yw M n x y=some b->rj X.K H x vx->rj X.K H y vy->qp vx u->qp vy w->
  SeqAt.RcAt A s u w b/\SeqAt.EqAt A s u w b/\SeqAt.RcNeAt A s u w (!b)
 | 0,_,_,_,_,_,_,_,_,_,e,_,_,_,_=>by cases e
 | n+1,A,x,y,b,vx,vy,u,w,hu,e,hx,hy,rx,ry=>by
  have hu1:A.units<cLine:=by omega
  have hui:A.in1.units+n<cLine:=by show A.units+1+n<cLine;omega
  unfold yw at e;split at e
  .cases hx.mz;cases hy.mz;cases rx;cases ry;cases e;exact⟨.none_none,.same _,.none_none⟩
  .cases hx.mB;cases hy.mB;cases rx;cases ry;cases e;exact⟨.bool_bool _ _,.bool_bool _ _,.bool_bool _ _⟩
  .cases hx.int_inv;cases hy.int_inv;obtain⟨t,rfl⟩:=rx;obtain⟨t',rfl⟩:=ry;cases e;exact⟨.int_int _ _ _ _,.int_int _ _ _ _,.int_int _ _ _ _⟩
  .cases hx.str_inv;cases hy.str_inv;obtain⟨t,rfl⟩:=rx;obtain⟨t',rfl⟩:=ry;cases e;exact⟨.str_str _ _ _ _,.str_str _ _ _ _,.str_str _ _ _ _⟩
  .cases hx.mz;cases hy.mB;cases rx;cases ry;cases e;exact⟨.none_bool _,.none_bool _,.none_bool _⟩
  .cases hx.mz;cases hy.int_inv;cases rx;obtain⟨t',rfl⟩:=ry;cases e;exact⟨.none_int _ _,.none_int _ _,.none_int _ _⟩
  .cases hx.mz;cases hy.str_inv;cases rx;obtain⟨t',rfl⟩:=ry;cases e;exact⟨.none_str _ _,.none_str _ _,.none_str _ _⟩
  .cases hx.mB;cases hy.mz;cases rx;cases ry;cases e;exact⟨.bool_none _,.bool_none _,.bool_none _⟩
  .cases hx.mB;cases hy.str_inv;cases rx;obtain⟨t',rfl⟩:=ry;cases e;exact⟨.bool_str _ _ _,.bool_str _ _ _,.bool_str _ _ _⟩
  .cases hx.int_inv;cases hy.mz;obtain⟨t,rfl⟩:=rx;cases ry;cases e;exact⟨.int_none _ _,.int_none _ _,.int_none _ _⟩
  .cases hx.int_inv;cases hy.str_inv;obtain⟨t,rfl⟩:=rx;obtain⟨t',rfl⟩:=ry;cases e;exact⟨.int_str _ _ _ _,.int_str _ _ _ _,.int_str _ _ _ _⟩
  .cases hx.str_inv;cases hy.mz;obtain⟨t,rfl⟩:=rx;cases ry;cases e;exact⟨.str_none _ _,.str_none _ _,.str_none _ _⟩
  .cases hx.str_inv;cases hy.mB;obtain⟨t,rfl⟩:=rx;cases ry;cases e;exact⟨.str_bool _ _ _,.str_bool _ _ _,.str_bool _ _ _⟩
  .cases hx.str_inv;cases hy.int_inv;obtain⟨t,rfl⟩:=rx;obtain⟨t',rfl⟩:=ry;cases e;exact⟨.str_int _ _ _ _,.str_int _ _ _ _,.str_int _ _ _ _⟩
  .rename_i da db;obtain⟨a1,xs,rfl,h1,h2⟩:=hx.mE;obtain⟨a2,ys,rfl,g1,g2⟩:=hy.mE;cases rx;cases ry;obtain⟨us,r1,p1,_⟩:=I.tuple h1;obtain⟨ws,r2,p2,_⟩:=I.tuple g1;cases p:rX (yw M n) da db with
   | none=>rw[p]at e;cases e
   | some b1=>
    have e0:=e;rw[p]at e;have e':(b1&&da.length==db.length)=b:=df e;obtain⟨f,hf,ha⟩:=BI (A:=A.in1) (s:=s) p h2 g2 r1 r2 λx y b vx vy u w q1 q2 q3 q4 q5=>(DJ I hm n A.in1 x y b vx vy u w hui q1 q2 q3 q4 q5).2.1;have hb:((List.range (min us.toArray.size ws.toArray.size)).all f&&us.toArray.size==ws.toArray.size)=b:=by rw[dh,dh,ha,<-e',<-r1.length,<-r2.length,h2.length,g2.length]
    have hf':∀j (l1:j<us.toArray.size) (l2:j<ws.toArray.size),SeqAt.EqAt A.in1 s us.toArray[j] ws.toArray[j] (f j):=λj l1 l2=>by simpa using hf j (by simpa using l1) (by simpa using l2)
    have c1:SeqAt.RcAt A s (.ref a1) (.ref a2) b:=by rw[<-hb];exact .tuples p1 p2 hu1 hf'
    have c3:SeqAt.RcNeAt A s (.ref a1) (.ref a2) (!b):=by have:=SeqAt.RcNeAt.tuples p1 p2 hu1 hf';rw[hb]at this;exact this
    refine⟨c1,?_,c3⟩;by_cases ea:a1=a2
    .subst ea;have:b=true:=yZ I hm (n+1) (.tup da) (.tup db) (.ref a1) b hx hy (by unfold yw;exact e0);rw[this];exact .same _
    .exact .of_refs ea c1
  .cases hx.mx;cases hy.mx;cases rx;cases ry;rename_i a1 a2;have e0:=e;cases p:oy M a1 with
   | none=>rw[p]at e;cases e
   | some i=>
    cases p':oy M a2 with
    | none=>rw[p,p']at e;cases e
    | some j=>
     rw[p,p']at e;have e:(if i.length=j.length then rX (yw M n) i j else some false)=some b:=e;obtain⟨xs,q1,h2,_⟩:=pV hm p;obtain⟨ys,q2,g2,_⟩:=pV hm p';obtain⟨us,r1,p1,_⟩:=I.list q1;obtain⟨ws,r2,p2,_⟩:=I.list q2;have VP:SeqAt.RcAt A s (.ref a1) (.ref a2) b/\SeqAt.RcNeAt A s (.ref a1) (.ref a2) (!b):=by
      by_cases hl:i.length=j.length
      .rw[cY hl]at e;obtain⟨f,hf,ha⟩:=BI (A:=A.in1) (s:=s) e h2 g2 r1 r2 λx y b vx vy u w q1 q2 q3 q4 q5=>(DJ I hm n A.in1 x y b vx vy u w hui q1 q2 q3 q4 q5).2.1;have hsz:us.toArray.size=ws.toArray.size:=by rw[dh,dh,<-r1.length,<-r2.length,<-h2.length,<-g2.length];exact hl
       have hf':∀j (l1:j<us.toArray.size) (l2:j<ws.toArray.size),SeqAt.EqAt A.in1 s us.toArray[j] ws.toArray[j] (f j):=λj l1 l2=>by simpa using hf j (by simpa using l1) (by simpa using l2)
       have hb:(List.range us.toArray.size).all f=b:=by rw[<-ha];rw[dh,dh]at hsz;rw[dh,<-hsz,Nat.min_self]
       rw[<-hb];exact⟨.lists p1.isList p2.isList hsz hu1 hf',.lists p1.isList p2.isList hsz hu1 hf'⟩
      .rw[cW hl]at e;cases e;have hsz:(us.toArray.size != ws.toArray.size)=true:=by
        rw[dh,dh,<-r1.length,<-r2.length,<-h2.length,<-g2.length]
        simpa using hl
       exact⟨.lists_lengths p1.isList p2.isList hsz hu1,.lists_lengths p1.isList p2.isList hsz hu1⟩
     refine⟨VP.1,?_,VP.2⟩;by_cases ea:a1=a2
     .subst ea;have:b=true:=yZ I hm (n+1) (.ref a1) (.ref a1) (.ref a1) b .ref .ref (by unfold yw;exact e0);rw[this];exact .same _
     .exact .of_refs ea VP.1
  .cases e
def uE:D->Bool
 | .mC=>true
 | .bl _=>true
 | .int _=>true
 | .str _=>true
 | _=>false
def OA:D->D->Bool
 | .mC,.mC=>true
 | .bl a,.bl b=>a==b
 | .bl a,.int b=>(if a then 1 else 0)==b
 | .int a,.bl b=>a==(if b then 1 else 0)
 | .int a,.int b=>a==b
 | .str a,.str b=>a==b
 | _,_=>false
def inD(x:D)(ds:List D):Bool:=ds.any λy=>OA y x
def LH(M:Mp):D->Option (List D)
 | .tup ds=>some ds
 | .ref a=>oy M a
 | .rl ds=>some ds
 | _=>none
def Co(i j:Str):Bool:=!(Builtin.Str.occurrences j i 0 j.length 1).isEmpty
def QH(Xq:Bool)(x y:D)(M:Mp)(Q:DK):Prop:=match x,y with
 | .str i,.str j=>Q (.bl (if Xq then !Co i j else Co i j)) M
 | _,_=>(LH M y).elim False λds=>uE x=true/\ds.all uE=true/\Q (.bl (if Xq then !inD x ds else inD x ds)) M
def OB(op:CmpOp)(x y:D)(M:Mp)(Q:DK):Prop:=match op with
 | .Eq=>(yw M 9 x y).elim False λb=>Q (.bl b) M
 | .NotEq=>(yw M 9 x y).elim False λb=>Q (.bl (!b)) M
 | .Lt=>match x,y with|.int i,.int j=>Q (.bl (decide (i<j))) M|_,_=>False
 | .LtE=>match x,y with|.int i,.int j=>Q (.bl (decide (i<=j))) M|_,_=>False
 | .Gt=>match x,y with|.int i,.int j=>Q (.bl (decide (j<i))) M|_,_=>False
 | .GtE=>match x,y with|.int i,.int j=>Q (.bl (decide (j<=i))) M|_,_=>False
 | .Is=>match y with|.mC=>Q (.bl (match x with|.mC=>true|_=>false)) M|_=>False
 | .IsNot=>match y with|.mC=>Q (.bl (match x with|.mC=>false|_=>true)) M|_=>False
 | .In=>QH false x y M Q
 | .NotIn=>QH true x y M Q
def k3(op:CmpOp)(ta tb:T3):T3:=λδ M Q=>ta δ M λx M1=>tb δ M1 λy M2=>OB op x y M2 Q
def yx{d:D}{v:V}(h:rj K H d v)(f:uE d=true):xU v=true:=by
 cases d with
 | mC=>rw[h.mz];rfl
 | bl _=>rw[h.mB];rfl
 | int _=>rw[h.int_inv];rfl
 | str _=>rw[h.str_inv];rfl
 | _=>cases f
def H9{d e:D}{v w:V}(h:rj K H d v)(g:rj K H e w)(f:uE d=true)(f':uE e=true):ML v w=OA d e:=by
 cases d with
 | mC=>
  rw[h.mz];cases e with
  | mC=>rw[g.mz];rfl
  | bl _=>rw[g.mB];rfl
  | int _=>rw[g.int_inv];rfl
  | str _=>rw[g.str_inv];rfl
  | _=>cases f'
 | bl _=>
  rw[h.mB];cases e with
  | mC=>rw[g.mz];rfl
  | bl _=>rw[g.mB];rfl
  | int _=>rw[g.int_inv];rfl
  | str _=>rw[g.str_inv];rfl
  | _=>cases f'
 | int _=>
  rw[h.int_inv];cases e with
  | mC=>rw[g.mz];rfl
  | bl _=>rw[g.mB];rfl
  | int _=>rw[g.int_inv];rfl
  | str _=>rw[g.str_inv];rfl
  | _=>cases f'
 | str _=>
  rw[h.str_inv];cases e with
  | mC=>rw[g.mz];rfl
  | bl _=>rw[g.mB];rfl
  | int _=>rw[g.int_inv];rfl
  | str _=>rw[g.str_inv];rfl
  | _=>cases f'
 | _=>cases f
theorem DI:∀{ds:List D} {xs:List V},pP K H ds xs->ds.all uE=true->xs.all xU=true
 | [],_,h,_=>by rw[h.nil_inv];rfl
 | d::ds,_,h,f=>by obtain⟨x,r,rfl,h1,h2⟩:=h.inv;rw[gp,dS]at f ⊢;exact⟨yx h1 f.1,DI h2 f.2⟩
theorem J8{e:D}{w:V}(g:rj K H e w)(f':uE e=true):∀{ds:List D} {xs:List V},pP K H ds xs->ds.all uE=true->inV w xs=inD e ds
 | [],_,h,_=>by rw[h.nil_inv];rfl
 | d::ds,_,h,f=>by obtain⟨x,r,rfl,h1,h2⟩:=h.inv;rw[gp,dS]at f;show(ML x w||inV w r)=(OA d e||inD e ds);rw[H9 h1 g f.1 f',J8 g f' h2 f.2]
def DX(hm:HM K H M){y:D}{v:V}{ds:List D}(h:rj K H y v)(q:LH M y=some ds):∃p xs,v=.ref p/\(yu K H p xs\/uG K H p xs)/\pP K H ds xs:=by
 cases y with
 | tup es=>cases q;obtain⟨a,xs,rfl,h1,h2⟩:=h.mE;exact⟨a,xs,rfl,.inr h1,h2⟩
 | ref a=>cases h.mx;obtain⟨xs,h1,h2,_⟩:=pV hm q;exact⟨a,xs,rfl,.inl h1,h2⟩
 | rl es=>cases q;obtain⟨a,xs,rfl,h1,h2⟩:=h.mQ;exact⟨a,xs,rfl,.inl h1.sq,h2⟩
 | _=>cases q
variable {c:Expr}{tc:T3}
section
def Ju(op:CmpOp)(hu:X.A.units+9<cLine):wH X (compareOp op) (R3 X.K (OB op)):=by
 intro VL s σ H vx vy v u Q' I rx ry h;obtain⟨x,y,M,Q,hx,hy,hm,q,k⟩:=h;have bk:∀b,Q (.bl b) M->EP X VL σ Q' (.bool b) s:=λb q=>⟨.bl b,H,I,rfl,k _ _ _ _ .bl hm .refl q⟩;have inn:∀Xq:Bool,((LH M y).elim False λds=>uE x=true/\ds.all uE=true/\Q (.bl (if Xq then !inD x ds else inD x ds)) M)->UK X.K Xq vx vy H Q':=λXq q=>by obtain⟨ds,e,f1,f2,q⟩:=qC q;obtain⟨p,xs,rfl,h1,h2⟩:=DX hm hy e;refine⟨p,xs,rfl,h1,yx hx f1,DI h2 f2,?_⟩;rw[J8 hx f1 h2 f2];exact k _ _ _ _ .bl hm .refl q
 cases op with
 | Eq=>obtain⟨b,e,q⟩:=qC q;exact(DJ I hm 9 X.A x y b vx vy v u hu e hx hy rx ry).1 _ _ _ _ (bk b q)
 | NotEq=>obtain⟨b,e,q⟩:=qC q;exact(DJ I hm 9 X.A x y b vx vy v u hu e hx hy rx ry).2.2 _ _ _ _ (bk _ q)
 | Lt=>
  cases x<;>first|exact q.elim|skip
  cases y<;>first|exact q.elim|skip
  cases hx.int_inv;cases hy.int_inv;exact S0 VL s σ H _ _ v u Q' I rx ry ⟨_,_,rfl,rfl,k _ _ _ _ .bl hm .refl q⟩
 | LtE=>
  cases x<;>first|exact q.elim|skip
  cases y<;>first|exact q.elim|skip
  cases hx.int_inv;cases hy.int_inv;exact SW VL s σ H _ _ v u Q' I rx ry ⟨_,_,rfl,rfl,k _ _ _ _ .bl hm .refl q⟩
 | Gt=>
  cases x<;>first|exact q.elim|skip
  cases y<;>first|exact q.elim|skip
  cases hx.int_inv;cases hy.int_inv;exact Sx VL s σ H _ _ v u Q' I rx ry ⟨_,_,rfl,rfl,k _ _ _ _ .bl hm .refl q⟩
 | GtE=>
  cases x<;>first|exact q.elim|skip
  cases y<;>first|exact q.elim|skip
  cases hx.int_inv;cases hy.int_inv;exact Tr VL s σ H _ _ v u Q' I rx ry ⟨_,_,rfl,rfl,k _ _ _ _ .bl hm .refl q⟩
 | Is=>
  cases y<;>first|exact q.elim|skip
  cases hy.mz;refine Rm VL s σ H _ _ v u Q' I rx ry ⟨rfl,k _ _ _ _ ?_ hm .refl q⟩;cases x with
  | mC=>rw[hx.mz];exact .bl
  | bl _=>rw[hx.mB];exact .bl
  | int _=>rw[hx.int_inv];exact .bl
  | str _=>rw[hx.str_inv];exact .bl
  | tup _=>obtain⟨a,xs,rfl,_⟩:=hx.mE;exact .bl
  | ref _=>rw[hx.mx];exact .bl
  | ty _=>rw[hx.nH];exact .bl
  | rl _=>obtain⟨a,xs,rfl,_⟩:=hx.mQ;exact .bl
 | IsNot=>
  cases y<;>first|exact q.elim|skip
  cases hy.mz;refine NM VL s σ H _ _ v u Q' I rx ry ⟨rfl,k _ _ _ _ ?_ hm .refl q⟩;cases x with
  | mC=>rw[hx.mz];exact .bl
  | bl _=>rw[hx.mB];exact .bl
  | int _=>rw[hx.int_inv];exact .bl
  | str _=>rw[hx.str_inv];exact .bl
  | tup _=>obtain⟨a,xs,rfl,_⟩:=hx.mE;exact .bl
  | ref _=>rw[hx.mx];exact .bl
  | ty _=>rw[hx.nH];exact .bl
  | rl _=>obtain⟨a,xs,rfl,_⟩:=hx.mQ;exact .bl
 | In=>
  have q:QH false x y M Q:=q;unfold QH at q;split at q
  .cases hx.str_inv;cases hy.str_inv;exact JS VL s σ H _ _ v u Q' I rx ry ⟨_,_,rfl,rfl,k _ _ _ _ .bl hm .refl q⟩
  .exact Jr VL s σ H _ _ v u Q' I rx ry (inn false q)
 | NotIn=>
  have q:QH true x y M Q:=q;unfold QH at q;split at q
  .cases hx.str_inv;cases hy.str_inv;exact EH VL s σ H _ _ v u Q' I rx ry ⟨_,_,rfl,rfl,k _ _ _ _ .bl hm .refl q⟩
  .exact Dv VL s σ H _ _ v u Q' I rx ry (inn true q)
variable {a b:Expr}
def pN{op:CmpOp}(hu:X.A.units+9<cLine)(ha:E3 X a ta)(hb:E3 X b tb)(hm:behindInMarks op b=false:=by first|exact GH _|with_unfolding_all rfl):E3 X (.Compare a [op] [b] pos) (k3 op ta tb):=PE.mono (HD (Ju op hu) ha hb hm) Hi
def b3(t:T3):zK:=λδ M Q=>t δ M λd M1=>match d with|.bl c=>Q c M1|_=>False
def uu{e:Expr}{t:T3}(h:E3 X e t)(he:∀Wm,isTrue e X.env Wm=(do let v<-Wm;standAt e.pos;holding [v] (truthy v)):=by intro _;rfl):B3 X e (b3 t):=PT.mono (RL h he) λσ H Q' zz=>x7 zz λδ M Q hs hm ht k=>
 ⟨δ,M,_,hs,hm,ht,λv H1 d M1 hd VN e1 q1=>by
  cases d with
  | bl c=>exact⟨c,hd.mB,k c H1 M1 VN e1 q1⟩
  | _=>exact q1.elim⟩
def oZ{op:CmpOp}(hu:X.A.units+9<cLine)(ha:E3 X a ta)(hb:E3 X b tb)(hm:behindInMarks op b=false:=by first|exact GH _|with_unfolding_all rfl):B3 X (.Compare a [op] [b] pos) (b3 (k3 op ta tb)):=PT.mono (HS (Ju op hu) ha hb hm) λσ H Q' zz=>x7 zz λδ M Q hs hm ht k=>
 Hi σ H _ ⟨δ,M,_,hs,hm,ht,λv H1 d M1 hd VN e1 q1=>by
  cases d with
  | bl c=>exact⟨c,hd.mB,k c H1 M1 VN e1 q1⟩
  | _=>exact q1.elim⟩
end
variable {tA tB:zK}{rest:List Expr}
section
variable {a b:Expr}
def MU(t u:zK):zK:=λδ M Q=>t δ M λc M1=>if c=true then u δ M1 Q else Q false M1
def VG(t u:zK):zK:=λδ M Q=>t δ M λc M1=>if c=true then Q true M1 else u δ M1 Q
def Ta(t:zK):zK:=λδ M Q=>t δ M λc M1=>Q (!c) M1
def W3(X:Cx)(e:Expr)(t:zK):Prop:=PW X e (RZ X.K t)
def PW.mono{X:Cx}{e:Expr}{t t':TT}(h:PW X e t)(m:∀σ H Q,t' σ H Q->t σ H Q):PW X e t':=λwh VL s σ H Q I q=>h wh VL s σ H Q I (m σ H Q q)
def W3.b3{e:Expr}{t:zK}(h:W3 X e t):B3 X e t:=PW.pt h
def wm(h:B3 X a tA):W3 X (.BoolOp .And [a] pos) tA:=Ob h
def xt(h:B3 X a tA):W3 X (.BoolOp .Or [a] pos) tA:=Qf h
def xl(ha:B3 X a tA)(hb:W3 X (.BoolOp .And (b::rest) pos) tB):W3 X (.BoolOp .And (a::b::rest) pos) (MU tA tB):=PW.mono (QP ha hb) λσ H Q' zz=>x7 zz λδ M Q hs hm ht k=>
 ⟨δ,M,_,hs,hm,ht,λc H1 M1 VN e1 q1=>by
  cases c with
  | true=>exact(cY rfl).mpr ⟨δ,M1,Q,hs.mono e1,VN,(cY rfl).mp q1,λb H' M' x1 x2 x3=>k b H' M' x1 (e1.trans x2) x3⟩
  | false=>exact(cW dw).mpr (k false H1 M1 VN e1 ((cW dw).mp q1))⟩
def xT(ha:B3 X a tA)(hb:W3 X (.BoolOp .Or (b::rest) pos) tB):W3 X (.BoolOp .Or (a::b::rest) pos) (VG tA tB):=PW.mono (S4 ha hb) λσ H Q' zz=>x7 zz λδ M Q hs hm ht k=>
 ⟨δ,M,_,hs,hm,ht,λc H1 M1 VN e1 q1=>by
  cases c with
  | true=>exact(cY rfl).mpr (k true H1 M1 VN e1 ((cY rfl).mp q1))
  | false=>exact(cW dw).mpr ⟨δ,M1,Q,hs.mono e1,VN,(cW dw).mp q1,λb H' M' x1 x2 x3=>k b H' M' x1 (e1.trans x2) x3⟩⟩
def vT(ha:B3 X a tA):B3 X (.UnaryOp .Not a pos) (Ta tA):=PT.mono (Qh ha) λσ H Q' zz=>x7 zz λδ M Q hs hm ht k=>⟨δ,M,_,hs,hm,ht,λc H1 M1 VN e1 q1=>k _ H1 M1 VN e1 q1⟩
def Sy(ta tb:T3):T3:=λδ M Q=>ta δ M λd M1=>match d with|.bl c=>if c=true then tb δ M1 Q else Q (.bl false) M1|_=>False
def Ub(ta tb:T3):T3:=λδ M Q=>ta δ M λd M1=>match d with|.bl c=>if c=true then Q (.bl true) M1 else tb δ M1 Q|_=>False
def Tw(ta:T3):T3:=λδ M Q=>ta δ M λd M1=>match d with|.bl c=>Q (.bl (!c)) M1|_=>False
def rY{op}(h:E3 X a ta):E3 X (.BoolOp op [a] pos) ta:=Qb h
def sD(ha:E3 X a ta)(hb:E3 X (.BoolOp .And (b::rest) pos) tb):E3 X (.BoolOp .And (a::b::rest) pos) (Sy ta tb):=PE.mono (QJ ha hb) λσ H Q' zz=>x7 zz λδ M Q hs hm ht k=>
 ⟨δ,M,_,hs,hm,ht,λv H1 d M1 hd VN e1 q1=>by
  cases d with
  | bl c=>
   refine⟨c,hd.mB,?_⟩;cases c with
   | true=>exact(cY rfl).mpr ⟨δ,M1,Q,hs.mono e1,VN,(cY rfl).mp q1,vk e1 k⟩
   | false=>exact(cW dw).mpr (k _ H1 _ M1 .bl VN e1 ((cW dw).mp q1))
  | _=>exact q1.elim⟩
def FZ(ha:E3 X a ta)(hb:E3 X (.BoolOp .Or (b::rest) pos) tb):E3 X (.BoolOp .Or (a::b::rest) pos) (Ub ta tb):=PE.mono (R6 ha hb) λσ H Q' zz=>x7 zz λδ M Q hs hm ht k=>
 ⟨δ,M,_,hs,hm,ht,λv H1 d M1 hd VN e1 q1=>by
  cases d with
  | bl c=>
   refine⟨c,hd.mB,?_⟩;cases c with
   | true=>exact(cY rfl).mpr (k _ H1 _ M1 .bl VN e1 ((cY rfl).mp q1))
   | false=>exact(cW dw).mpr ⟨δ,M1,Q,hs.mono e1,VN,(cW dw).mp q1,vk e1 k⟩
  | _=>exact q1.elim⟩
def Qq(ha:E3 X a ta):E3 X (.UnaryOp .Not a pos) (Tw ta):=PE.mono (Rr ha) λσ H Q' zz=>x7 zz λδ M Q hs hm ht k=>
 ⟨δ,M,_,hs,hm,ht,λv H1 d M1 hd VN e1 q1=>by
  cases d with
  | bl c=>exact⟨c,hd.mB,k _ H1 _ M1 .bl VN e1 q1⟩
  | _=>exact q1.elim⟩
def Vv(t:zK)(ta tb:T3):T3:=λδ M Q=>t δ M λc M1=>if c=true then ta δ M1 Q else tb δ M1 Q
def PR(hc:B3 X c tA)(ha:E3 X a ta)(hb:E3 X b tb):E3 X (.IfExp c a b pos) (Vv tA ta tb):=PE.mono (Mm hc ha hb) λσ H Q' zz=>x7 zz λδ M Q hs hm ht k=>
 ⟨δ,M,_,hs,hm,ht,λc H1 M1 VN e1 q1=>by
  cases c with
  | true=>exact(cY rfl).mpr ⟨δ,M1,Q,hs.mono e1,VN,(cY rfl).mp q1,vk e1 k⟩
  | false=>exact(cW dw).mpr ⟨δ,M1,Q,hs.mono e1,VN,(cW dw).mp q1,vk e1 k⟩⟩
def U9(x y:D)(M:Mp)(Q:DK):Prop:=match x,y with
 | .tup ds,.int i=>(vM ds i).elim False λd=>Q d M
 | .ref a,.int i=>(oy M a).elim False λds=>(vM ds i).elim False λd=>Q d M
 | .rl ds,.int i=>(vM ds i).elim False λd=>Q d M
 | .str z,.int i=>z.length<=sizeLine/\(vM z.cps.toList i).elim False λc=>Q (.str ⟨#[c]⟩) M
 | _,_=>False
def i3(ta tb:T3):T3:=λδ M Q=>ta δ M λx M1=>tb δ M1 λy M2=>U9 x y M2 Q
def EU{K:pU}{H:Hp}{ds:List D}{xs:List V}{i:Int}{d:D}(h:pP K H ds xs)(e:vM ds i=some d):∃v,vM xs i=some v/\rj K H d v:=by
 unfold vM at e ⊢;rw[<-h.length];cases q:Fj ds.length i with
 | none=>rw[q]at e;cases e
 | some j=>rw[q]at e;exact h.get e
def VI:R5 X (R3 X.K U9):=by
 intro value VW VL s σ H vx vy v u Q' I rx ry h hs;obtain⟨x,y,M,Q,hx,hy,hm,q,k⟩:=h;unfold U9 at q;split at q
 .obtain⟨d,e,q⟩:=qC q;obtain⟨p,xs,rfl,h1,h2⟩:=hx.mE;cases hy.int_inv;obtain⟨w,e1,e2⟩:=EU h2 e;exact RO value VW VL s σ H _ _ v u Q' I rx ry ⟨p,xs,_,w,rfl,rfl,h1,e1,k _ _ _ _ e2 hm .refl q⟩ hs
 .obtain⟨ds,e0,q⟩:=qC q;obtain⟨d,e,q⟩:=qC q;cases hx.mx;cases hy.int_inv;obtain⟨xs,h1,h2,_⟩:=pV hm e0;obtain⟨w,e1,e2⟩:=EU h2 e;exact IC value VW VL s σ H _ _ v u Q' I rx ry ⟨_,xs,_,w,rfl,rfl,h1,e1,k _ _ _ _ e2 hm .refl q⟩ hs
 .obtain⟨d,e,q⟩:=qC q;obtain⟨p,xs,rfl,h1,h2⟩:=hx.mQ;cases hy.int_inv;obtain⟨w,e1,e2⟩:=EU h2 e;exact IC value VW VL s σ H _ _ v u Q' I rx ry ⟨p,xs,_,w,rfl,rfl,h1.sq,e1,k _ _ _ _ e2 hm .refl q⟩ hs
 .obtain⟨q1,q⟩:=q;obtain⟨c,e,q⟩:=qC q;cases hx.str_inv;cases hy.int_inv;exact P0 value VW VL s σ H _ _ v u Q' I rx ry ⟨_,_,c,rfl,rfl,q1,e,k _ _ _ _ .str hm .refl q⟩ hs
 .exact q.elim
def pf(ha:E3 X a ta)(hb:E3 X b tb)(hs:AC b:=by exact λ_ _=>rfl):E3 X (.Subscript a b pos) (i3 ta tb):=PE.mono (K8 VI ha hb hs) Hi
def sZ(ds:List D)(lo hi:Option Int):List D:=(ds.drop (HT.sy ds.length 0 lo)).take (HT.sy ds.length ds.length hi - HT.sy ds.length 0 lo)
def DM{K:pU}{H:Hp}{ds:List D}{xs:List V}{l h:Option Int}(q:pP K H ds xs):pP K H (sZ ds l h) (AL xs l h):=by unfold sZ AL;rw[q.length];exact(q.drop _).take _
abbrev R1:=uJ->Mp->(Option Int->Mp->Prop)->Prop
def Vu(K:pU)(t:R1):TO:=λσ H Q'=>Cv λδ M Q=>yg K H σ δ/\HM K H M/\t δ M Q/\∀o H' M',HM K H' M'->qy K H H'->Q o M'->Q' o H'
def O3(X:Cx)(e:Option Expr)(t:R1):Prop:=PO X e (Vu X.K t)
def Nr:R1:=λ_ M Q=>Q none M
def R9(t:T3):R1:=λδ M Q=>t δ M λd M1=>match d with|.int i=>Q (some i) M1|_=>False
def PO.mono{X:Cx}{e:Option Expr}{t t':TO}(h:PO X e t)(m:∀σ H Q,t' σ H Q->t σ H Q):PO X e t':=λVL s σ H Q I q=>h VL s σ H Q I (m σ H Q q)
def sS:O3 X none Nr:=PO.mono O6 λσ H Q' zz=>x7 zz λδ M Q hs hm ht k=>k none H M hm .refl ht
def r6{e:Expr}{t:T3}(h:E3 X e t):O3 X (some e) (R9 t):=PO.mono (MQ h) λσ H Q' zz=>x7 zz λδ M Q hs hm ht k=>
 ⟨δ,M,_,hs,hm,ht,λv H1 d M1 hd VN e1 q1=>by
  cases d with
  | int i=>exact⟨i,hd.int_inv,k (some i) H1 M1 VN e1 q1⟩
  | _=>exact q1.elim⟩
def Vc(x:D)(lo hi:Option Int)(M:Mp)(Q:DK):Prop:=match x with
 | .tup ds=>Q (.tup (sZ ds lo hi)) M
 | .ref a=>(oy M a).elim False λds=>∀p,M p=none->Q (.ref p) (oX M p (.lst (sZ ds lo hi)))
 | .rl ds=>∀p,M p=none->Q (.ref p) (oX M p (.lst (sZ ds lo hi)))
 | _=>False
def s3(te:T3)(tl th:R1):T3:=λδ M Q=>te δ M λx M1=>tl δ M1 λl M2=>th δ M2 λu M3=>Vc x l u M3 Q
def Uw(K:pU):V->Option Int->Option Int->Hp->VK->Prop:=λvx l u H Q'=>Cv λx M Q=>rj K H x vx/\HM K H M/\Vc x l u M Q/\Up K H Q' Q
def OS{ds:List D}{lo hi:Option Int}(h:HT.sy ds.length 0 lo=0/\HT.sy ds.length ds.length hi=ds.length):sZ ds lo hi=ds:=by unfold sZ;rw[h.1,h.2,iX,kN,eW]
def UJ:TQ X (Uw X.K):=by
 intro VL s σ H vx v vl vu l u sl Q' I rx X9 pl pu h;obtain⟨x,M,Q,hx,hm,q,k⟩:=h;cases x with
 | tup ds=>
  have q2:Q (.tup (sZ ds l u)) M:=q;obtain⟨a,xs,rfl,h1,h2⟩:=hx.mE;by_cases q1:HT.sy ds.length 0 l=0/\HT.sy ds.length ds.length u=ds.length
  .rw[OS q1]at q2;exact QK VL s σ H _ v vl vu l u sl Q' I rx X9 pl pu ⟨a,xs,rfl,h1,by rw[<-h2.length];exact q1,k _ _ _ _ hx hm .refl q2⟩
  refine Q9 VL s σ H _ v vl vu l u sl Q' I rx X9 pl pu ⟨a,xs,rfl,h1,by rw[<-h2.length];exact q1,λp hp=>?_⟩;have e:qy X.K H (upd H p (.tup (AL xs l u))):=.new hp;exact k _ _ _ _ (.tup (.of pM) ((DM h2).mono e)) (hm.add hp) e q2
 | ref a=>obtain⟨ds,e0,q⟩:=qC q;cases hx.mx;obtain⟨xs,h1,h2,_⟩:=pV hm e0;refine HY VL s σ H _ v vl vu l u sl Q' I rx X9 pl pu ⟨a,xs,rfl,h1,λp hp=>?_⟩;have e:qy X.K H (upd H p (.lst (AL xs l u))):=.new hp;exact k _ _ _ _ .ref (hm.new (c:=.lst (sZ ds l u)) hp ⟨_,pM,(DM h2).mono e⟩) e (q p (hm.fresh hp))
 | rl ds=>obtain⟨a,xs,rfl,h1,h2⟩:=hx.mQ;refine HY VL s σ H _ v vl vu l u sl Q' I rx X9 pl pu ⟨a,xs,rfl,h1.sq,λp hp=>?_⟩;have e:qy X.K H (upd H p (.lst (AL xs l u))):=.new hp;exact k _ _ _ _ .ref (hm.new (c:=.lst (sZ ds l u)) hp ⟨_,pM,(DM h2).mono e⟩) e (q p (hm.fresh hp))
 | _=>exact q.elim
def rO{e:Expr}{te:T3}{lo hi:Option Expr}{tl th:R1}{p2:Pos}(he:E3 X e te)(hl:O3 X lo tl)(hu:O3 X hi th):E3 X (.Subscript e (.Slice lo hi none p2) pos) (s3 te tl th):=PE.mono (Mf UJ he hl hu) λσ H Q' zz=>x7 zz λδ M Q hs hm ht k=>⟨δ,M,_,hs,hm,ht,λv H1 x M1 hx VN e1 q1=>⟨δ,M1,_,hs.mono e1,VN,q1,λl H2 M2 V5 e2 q2=>⟨δ,M2,_,hs.mono (e1.trans e2),V5,q2,λu H3 M3 WJ e3 q3=>⟨x,M3,Q,hx.mono (e2.trans e3),WJ,q3,vk (e1.trans (e2.trans e3)) k⟩⟩⟩⟩
def xm:wU:=λ_ M Q=>Q [] M
def uL(ta:T3)(tr:wU):wU:=λδ M Q=>ta δ M λx M1=>tr δ M1 λxs M2=>Q (x::xs) M2
def sd:A3 X [] xm:=PA.mono QB λσ H Q' zz=>x7 zz λδ M Q hs hm ht k=>k [] H [] M .nil hm .refl ht
def pJ{e:Expr}{es:List Expr}{te:T3}{t:wU}(ha:E3 X e te)(hr:A3 X es t)(hs:Az X e es:=by rfl):A3 X (e::es) (uL te t):=PA.mono (Nq ha hr hs) λσ H Q' zz=>x7 zz λδ M Q hs hm ht k=>⟨δ,M,_,hs,hm,ht,λv H1 x M1 hx VN e1 q1=>⟨δ,M1,_,hs.mono e1,VN,q1,λvs H2 xs M2 YR V5 e2 q2=>k _ H2 _ M2 (.cons (hx.mono e2) YR) V5 (e1.trans e2) q2⟩⟩
def T8(t:wU):T3:=λδ M Q=>t δ M λds M1=>ds.length<=sizeLine/\Q (.tup ds) M1
def SU(t:wU):T3:=λδ M Q=>t δ M λds M1=>ds.length<=sizeLine/\∀p,M1 p=none->Q (.ref p) (oX M1 p (.lst ds))
def pz{x1}{es:List Expr}{t:wU}(h:A3 X es t):E3 X (.Tuple es x1 pos) (T8 t):=PE.mono (QL h) λσ H Q' zz=>x7 zz λδ M Q hs hm ht k=>
 ⟨δ,M,_,hs,hm,ht,λvs H1 ds M1 W1 VN e1 q1=>⟨by rw[<-W1.length];exact q1.1,λp hp=>by
  have e:qy X.K H1 (upd H1 p (.tup vs)):=.new hp;exact k _ _ _ M1 (.tup (.of pM) (W1.mono e)) (VN.add hp) (e1.trans e) q1.2⟩⟩
def qA{es:List Expr}{t:wU}(h:A3 X es t):E3 X (.List es pos) (SU t):=PE.mono (Q7 h) λσ H Q' zz=>x7 zz λδ M Q hs hm ht k=>
 ⟨δ,M,_,hs,hm,ht,λvs H1 ds M1 W1 VN e1 q1=>⟨by rw[<-W1.length];exact q1.1,λp hp=>by
  have e:qy X.K H1 (upd H1 p (.lst vs)):=.new hp;exact k _ _ _ _ .ref (VN.new (c:=.lst ds) hp ⟨_,pM,W1.mono e⟩) (e1.trans e) (q1.2 p (VN.fresh hp))⟩⟩
def uc(t u:xx):xx:=λD δ M=>t {D with nx:=u D} δ M
def Vf:xx:=λD δ M=>D.nx δ M
def pb:Hd X [] Vf:=AK.mono OD λD' σ H zz=>JX zz λδ M D hs hm ht k1 k2 k3 k4=>k1 σ H δ M hs hm .refl rfl ht
def oN{st:Stmt}{rest:List Stmt}{t u:xx}(h1:S3 X st t)(h2:Hd X rest u):Hd X (st::rest) (uc t u):=AK.mono (KJ h1 h2) λD' σ H zz=>JX zz λδ M D hs hm ht k1 k2 k3 k4=>
 ⟨δ,M,{D with nx:=u D},hs,hm,ht,λσ1 H1 δ1 M1 YS VN e1 l1 q1=>⟨δ1,M1,D,YS,VN,q1,λσ' H' δ' M' x1 x2 x3 x4 x5=>k1 σ' H' δ' M' x1 x2 (e1.trans x3) (x4.trans l1) x5,λv H' d M' x1 x2 x3 x4=>k2 v H' d M' x1 x2 (e1.trans x3) x4,λσ' H' δ' M' x1 x2 x3 x4 x5=>k3 σ' H' δ' M' x1 x2 (e1.trans x3) (x4.trans l1) x5,λσ' H' δ' M' x1 x2 x3 x4 x5=>k4 σ' H' δ' M' x1 x2 (e1.trans x3) (x4.trans l1) x5⟩,k2,k3,k4⟩
def oO{st:Stmt}{t:xx}(h1:S3 X st t):Hd X [st] t:=AK.mono (DN h1) λD' σ H h=>h
def PL(te:T3):xx:=λD δ M=>te δ M λ_ M1=>D.nx δ M1
def pq{e:Expr}{te:T3}(he:E3 X e te)(Xj:swapsWith e none pos.line X.env=pure false:=by rfl):S3 X (.Expr e pos) (PL te):=PS.mono (Nm he Xj) λD' σ H zz=>JX zz λδ M D hs hm ht k1 k2 k3 k4=>⟨δ,M,_,hs,hm,ht,λv H1 d M1 hd VN e1 q1=>k1 σ H1 δ M1 (hs.mono e1) VN e1 rfl q1⟩
def QX(te:T3):xx:=λD δ M=>te δ M D.rt
def oV{e:Expr}{te:T3}(he:E3 X e te):S3 X (.Return (some e) pos) (QX te):=PS.mono (RT he) λD' σ H zz=>JX zz λδ M D hs hm ht k1 k2 k3 k4=>⟨δ,M,_,hs,hm,ht,λv H1 d M1 hd VN e1 q1=>k2 v H1 d M1 hd VN e1 q1⟩
def RK(c:zK)(t u:xx):xx:=λD δ M=>c δ M λb M1=>if b=true then t D δ M1 else u D δ M1
def pA{c:Expr}{as bs:List Stmt}{tc:zK}{t u:xx}(hc:B3 X c tc)(ha:Hd X as t)(hb:Hd X bs u):S3 X (.If c as bs pos) (RK tc t u):=PS.mono (S9 hc ha hb) λD' σ H zz=>JX zz λδ M D hs hm ht k1 k2 k3 k4=>
 ⟨δ,M,_,hs,hm,ht,λb H1 M1 VN e1 q1=>by
  have up:∀t:xx,t D δ M1->UQ X.K t D' σ H1:=λt q=>⟨δ,M1,D,hs.mono e1,VN,q,λσ' H' δ' M' x1 x2 x3 x4 x5=>k1 σ' H' δ' M' x1 x2 (e1.trans x3) x4 x5,λv H' d M' x1 x2 x3 x4=>k2 v H' d M' x1 x2 (e1.trans x3) x4,λσ' H' δ' M' x1 x2 x3 x4 x5=>k3 σ' H' δ' M' x1 x2 (e1.trans x3) x4 x5,λσ' H' δ' M' x1 x2 x3 x4 x5=>k4 σ' H' δ' M' x1 x2 (e1.trans x3) x4 x5⟩
  cases b with
  | true=>exact(cY rfl).mpr (up t ((cY rfl).mp q1))
  | false=>exact(cW dw).mpr (up u ((cW dw).mp q1))⟩
def Qt:xx:=λ_ _ _=>False
def E7{st:Stmt}:S3 X st Qt:=PS.mono Mb λD' σ H ⟨δ,M,D,hs,hm,ht,_⟩=>ht
abbrev B':=D->uJ->Mp->(uJ->Mp->Prop)->Prop
def T1(K:pU)(g:B'):TG:=λv σ H Q'=>zZ λd δ M Q=>rj K H d v/\yg K H σ δ/\HM K H M/\g d δ M Q/\∀σ' H' δ' M',yg K H' σ' δ'->HM K H' M'->qy K H H'->σ'.length=σ.length->Q δ' M'->Q' σ' H'
def G3(X:Cx)(e:Expr)(g:B'):Prop:=PG X e (T1 X.K g)
def PG.nE{X:Cx}{e:Expr}{t t':TG}(h:PG X e t)(m:∀v σ H Q,σ.length=X.N.length->t' v σ H Q->t v σ H Q):PG X e t':=λVL s σ H v u Q I r q=>h VL s σ H v u Q I r (m v σ H Q I.len q)
def sW(i:Nat):B':=λd δ M Q=>Q (δ.set i (some d)) M
def Hv{i:Nat}{x:Str}(hN:X.N.Nodup)(hi:X.N[i]?=some x)(hx:JV X.env.scope x)(hf:JW X x:=by first|exact .inl rfl|exact .inr rfl|assumption):G3 X (.Name x pos) (sW i):=
 PG.nE (O9 hN hi hx hf) λv σ H Q' hl ⟨d,δ,M,Q,hd,hs,hm,ht,k⟩=>k _ H _ M (hs.set hd (by rw[hl];exact(cV.mp hi).1)) hm .refl (by simp) ht
abbrev B9:=List D->uJ->Mp->(uJ->Mp->Prop)->Prop
def UL(K:pU)(g:B9):OH:=λvs σ H Q'=>zZ λds δ M Q=>pP K H ds vs/\yg K H σ δ/\HM K H M/\g ds δ M Q/\∀σ' H' δ' M',yg K H' σ' δ'->HM K H' M'->qy K H H'->σ'.length=σ.length->Q δ' M'->Q' σ' H'
def Sf(X:Cx)(es:List Expr)(g:B9):Prop:=MJ X es (UL X.K g)
def MJ.mono{X:Cx}{e:List Expr}{t t':OH}(h:MJ X e t)(m:∀v σ H Q,t' v σ H Q->t v σ H Q):MJ X e t':=λVL s σ H v u Q I r q=>h VL s σ H v u Q I r (m v σ H Q q)
def PG.mono{X:Cx}{e:Expr}{t t':TG}(h:PG X e t)(m:∀v σ H Q,t' v σ H Q->t v σ H Q):PG X e t':=λVL s σ H v u Q I r q=>h VL s σ H v u Q I r (m v σ H Q q)
def CS:B9:=λds δ M Q=>match ds with|[]=>Q δ M|_=>False
def yt(t:B')(u:B9):B9:=λds δ M Q=>match ds with|d::r=>t d δ M λδ' M'=>u r δ' M' Q|[]=>False
def sr:Sf X [] CS:=MJ.mono Nn λvs σ H Q' ⟨ds,δ,M,Q,hd,hs,hm,ht,k⟩=>by
 cases ds with
 | nil=>exact⟨hd.nil_inv,k σ H δ M hs hm .refl rfl ht⟩
 | cons _ _=>exact ht.elim
def pQ{e:Expr}{es:List Expr}{t:B'}{u:B9}(h1:G3 X e t)(h2:Sf X es u)(hs:(assignEach (e::es) X.env).map (·.2)=assign e X.env::(assignEach es X.env).map (·.2):=by rfl):Sf X (e::es) (yt t u):=
 MJ.mono (Mc h1 h2 hs) λvs σ H Q' ⟨ds,δ,M,Q,hd,hs,hm,ht,k⟩=>by
 cases ds with
 | nil=>exact ht.elim
 | cons d r=>obtain⟨x,xr,rfl,hx,hr⟩:=hd.inv;exact⟨x,xr,rfl,d,δ,M,_,hx,hs,hm,ht,λσ1 H1 δ1 M1 YS VN e1 l1 q1=>⟨r,δ1,M1,Q,hr.mono e1,YS,VN,q1,λσ' H' δ' M' x1 x2 x3 x4 x5=>k σ' H' δ' M' x1 x2 (e1.trans x3) (x4.trans l1) x5⟩⟩
def Po(n:Nat)(t:B9):B':=λd δ M Q=>match d with|.tup ds=>ds.length=n/\t ds δ M Q|_=>False
def uj{es:List Expr}{k:Nat}{t:B9}{n:Nat}(hc:X.calm=true)(h:Sf X es t)(hn:(assignEach es X.env).length=n:=by rfl)(V9:(assignEach es X.env).findIdx? (·.1)=none:=by rfl):G3 X (.Tuple es k pos) (Po n t):=
 PG.mono (QD hc h hn V9) λv σ H Q' ⟨d,δ,M,Q,hd,hs,hm,ht,k⟩=>by
 cases d with
 | tup ds=>obtain⟨a,xs,rfl,h1,h2⟩:=hd.mE;exact⟨a,xs,rfl,h1,by rw[<-h2.length];exact ht.1,ds,δ,M,Q,h2,hs,hm,ht.2,k⟩
 | _=>exact ht.elim
def F0(te:T3)(g:B'):xx:=λD δ M=>te δ M λx M1=>g x δ M1 D.nx
def Gi{tg e:Expr}{te:T3}{g:B'}(he:E3 X e te)(hg:G3 X tg g)(hs:swapsWithSole [tg] e pos.line X.env=pure false:=by rfl)(hw:swappedStores [tg] e X.env=pure none:=by rfl)
  (h1:(assignEach [tg] X.env).map (·.2)=[assign tg X.env]:=by rfl):S3 X (.Assign [tg] e pos) (F0 te g):=PS.mono (RA he hg hs hw h1) λD' σ H zz=>JX zz λδ M D hs hm ht k1 k2 k3 k4=>
 ⟨δ,M,_,hs,hm,ht,λv H1 d M1 hd VN e1 q1=>⟨d,δ,M1,_,hd,hs.mono e1,VN,q1,λσ' H' δ' M' x1 x2 x3 x4 x5=>k1 σ' H' δ' M' x1 x2 (e1.trans x3) x4 x5⟩⟩
def Q6{i:Nat}{x:Str}{e:Expr}{te:T3}{VU:Pos}(hN:X.N.Nodup)(hi:X.N[i]?=some x)(hx:JV X.env.scope x)(he:E3 X e te)(Xj:swapsWith e (some (.Name x VU)) pos.line X.env=pure false:=by rfl)
  (hf:JW X x:=by first|exact .inl rfl|exact .inr rfl|assumption):S3 X (.Assign [.Name x VU] e pos) (F0 te (sW i)):=PS.nE (Ma hN hi hx he Xj hf) λD' σ H hl zz=>JX zz λδ M D hs hm ht k1 k2 k3 k4=>
 ⟨δ,M,_,hs,hm,ht,λv H1 d M1 hd VN e1 q1=>k1 _ H1 _ M1 ((hs.mono e1).set hd (by rw[hl];exact(cV.mp hi).1)) VN e1 (by simp) q1⟩
end
abbrev qN:=List D->Mp->DK->Prop
def MH(K:pU)(sp:qN):Sp:=λvs H Q' _=>Cv λds M Q=>pP K H ds vs/\HM K H M/\sp ds M Q/\Up K H Q' Q
def wg(N:List Str)(ds:List D):uJ:=ds.map some++List.replicate (N.length - ds.length) none
def Dk{K:pU}{H:Hp}{N:List Str}{ds:List D}{vs:List V}(h:pP K H ds vs):yg K H (L2.start N vs) (wg N ds):=λi d q=>by
 unfold wg at q;unfold L2.start;by_cases hi:i<ds.length
 .rw[eI (by simpa using hi),dA]at q;cases e:ds[i]? with
  | none=>rw[e]at q;cases q
  | some d'=>rw[e]at q;cases q;obtain⟨v,e1,e2⟩:=h.get e;refine⟨v,?_,e2⟩;rw[eI (by rw[cR,<-h.length];exact hi),dA,e1];rfl
 .rw[eE (by simpa using hi),jF]at q;split at q<;>cases q
variable {P:Pg}{w:Wo}{mg:Str→Option Vl}{base:Heap}
abbrev RY(P:Pg)(w:Wo)(K:pU)(mg:Str->Option Vl)(base:Heap)(k:Nat)(f:Addr)(fd:FuncData)(ps:List Str)(sp:qN):Prop:=wD P w K mg base MF k f fd ps (MH K sp)
variable {k:Nat}{f C:Addr}{fd:FuncData}{ps:List Str}{sp:qN}{x m fn:Str}{p VO:Pos}{e o:Expr}{es:List Expr}{t:wU}
def C6(sp:qN)(t:wU):T3:=λδ M Q=>t δ M λds M1=>sp ds M1 Q
def NL(F:RY X.prog X.w X.K X.mg X.base k f fd ps sp)(hr:rB k X.A)(hg:Gl X x)(hm:X.mg x=some (.ref f))(hk:W.keepIn X.K (.ref f)=true)(hb:ut X.K fd ps [])(ha:A3 X (e::es) t) (V7:yb x:=by decide) (he:Az X e es:=by rfl) (V4:B0 X pos es:=by rfl):
  E3 X (.Call (.Name x p) (e::es) [] pos) (C6 sp t):=PE.mono (NI F hr hg hm hk hb .nil (FT (X:=X)) ha V7 he V4) λσ H Q' zz=>x7 zz λδ M Q hs hm ht k=>
 ⟨δ,M,_,hs,hm,ht,λvs H1 ds M1 hd VN e1 q1=>⟨ds,M1,Q,by rw[eM];exact hd,VN,q1,vk e1 k⟩⟩
def C3(X:Cx)(f:Vl)(r:qN):Prop:=yz X f λvs H Q'=>∃ds M Q,pP X.K H ds vs/\HM X.K H M/\r ds M Q/\Up X.K H Q' Q
def pD{id:String}{r:qN}(hc:C3 X (.builtin id) r)(hg:Gl X x)(hm:X.mg x=none)(hv:bootBuiltins x=some (.builtin id))(ha:A3 X (e::es) t)(hn:x≠"__name__":=by decide)(V7:yb x:=by decide)
  (he:Az X e es:=by rfl) (V4:B0 X pos es:=by rfl):E3 X (.Call (.Name x p) (e::es) [] pos) (C6 r t):=
 PE.mono (LD hc hg hm hv ha hn V7 he V4) λσ H Q' zz=>x7 zz λδ M Q hs hm ht k=>⟨δ,M,_,hs,hm,ht,λvs H1 ds M1 hd VN e1 q1=>⟨ds,M1,Q,hd,VN,q1,vk e1 k⟩⟩
def pZ{T:String}{r:qN}(hc:C3 X (.type T) r)(hg:Gl X x)(hm:X.mg x=none)(hv:bootBuiltins x=some (.type T))(ha:A3 X (e::es) t)(hn:x≠"__name__":=by decide)(V7:yb x:=by decide)
  (he:Az X e es:=by rfl) (V4:B0 X pos es:=by rfl):E3 X (.Call (.Name x p) (e::es) [] pos) (C6 r t):=
 PE.mono (IP hc hg hm hv ha hn V7 he V4) λσ H Q' zz=>x7 zz λδ M Q hs hm ht k=>⟨δ,M,_,hs,hm,ht,λvs H1 ds M1 hd VN e1 q1=>⟨ds,M1,Q,hd,VN,q1,vk e1 k⟩⟩
def Tq(ds:List D)(M:Mp)(Q:DK):Prop:=match ds with
 | [.str z]=>z.length<=sizeLine/\Q (.int z.length) M
 | [.tup es]=>Q (.int es.length) M
 | [.ref a]=>(oy M a).elim False λes=>Q (.int es.length) M
 | [.rl es]=>Q (.int es.length) M
 | _=>False
def rQ{K:pU}{H:Hp}{d:D}{vs:List V}(h:pP K H [d] vs):∃v,vs=[v]/\rj K H d v:=by obtain⟨x,r,rfl,a,b⟩:=h.inv;rw[b.nil_inv];exact⟨x,rfl,a⟩
def DQ{K:pU}{H:Hp}{d e:D}{vs:List V}(h:pP K H [d,e] vs):∃v u,vs=[v,u]/\rj K H d v/\rj K H e u:=by obtain⟨x,r,rfl,a,b⟩:=h.inv;obtain⟨y,rfl,c⟩:=rQ b;exact⟨x,y,rfl,a,c⟩
def qc:C3 X (.builtin "len") Tq:=by
 intro VL s σ H vs us Q' I rv h;obtain⟨ds,M,Q,hd,hm,q,k⟩:=h;unfold Tq at q;split at q
 .obtain⟨v,rfl,hv⟩:=rQ hd;cases hv.str_inv;exact DF VL s σ H _ us Q' I rv ⟨_,rfl,q.1,k _ _ _ _ .int hm .refl q.2⟩
 .obtain⟨v,rfl,hv⟩:=rQ hd;obtain⟨a,xs,rfl,h1,h2⟩:=hv.mE;exact vX VL s σ H _ us Q' I rv ⟨a,xs,rfl,.inr h1,k _ _ _ _ (by rw[<-h2.length];exact .int) hm .refl q⟩
 .obtain⟨v,rfl,hv⟩:=rQ hd;obtain⟨es,e0,q⟩:=qC q;cases hv.mx;obtain⟨xs,h1,h2,_⟩:=pV hm e0;exact vX VL s σ H _ us Q' I rv ⟨_,xs,rfl,.inl h1,k _ _ _ _ (by rw[<-h2.length];exact .int) hm .refl q⟩
 .obtain⟨v,rfl,hv⟩:=rQ hd;obtain⟨a,xs,rfl,h1,h2⟩:=hv.mQ;exact vX VL s σ H _ us Q' I rv ⟨a,xs,rfl,.inl h1.sq,k _ _ _ _ (by rw[<-h2.length];exact .int) hm .refl q⟩
 .exact q.elim
def SE(ds:List D)(M:Mp)(Q:DK):Prop:=match ds with
 | [.int i,.int j]=>Q (.int (if j<i then j else i)) M
 | _=>False
def Qm(hc:X.calm=true):C3 X (.builtin "min") SE:=by
 intro VL s σ H vs us Q' I rv h;obtain⟨ds,M,Q,hd,hm,q,k⟩:=h;unfold SE at q;split at q
 .obtain⟨v,u,rfl,hv,hw⟩:=DQ hd;cases hv.int_inv;cases hw.int_inv;exact IM hc VL s σ H _ us Q' I rv ⟨_,_,rfl,k _ _ _ _ .int hm .refl q⟩
 .exact q.elim
def KA(ds:List D)(M:Mp)(Q:DK):Prop:=match ds with
 | [.tup es]=>Q (.tup es) M
 | [.ref a]=>(oy M a).elim False λes=>Q (.tup es) M
 | [.rl es]=>Q (.tup es) M
 | _=>False
def ur:C3 X (.type "tuple") KA:=by
 intro VL s σ H vs us Q' I rv h;obtain⟨ds,M,Q,hd,hm,q,k⟩:=h;unfold KA at q;split at q
 .obtain⟨v,rfl,hv⟩:=rQ hd;obtain⟨a,xs,rfl,h1,h2⟩:=id hv.mE;exact vw VL s σ H _ us Q' I rv ⟨a,xs,rfl,.inr ⟨h1,k _ _ _ _ hv hm .refl q⟩⟩
 .obtain⟨v,rfl,hv⟩:=rQ hd;obtain⟨es,e0,q⟩:=qC q;cases hv.mx;obtain⟨xs,h1,h2,_⟩:=pV hm e0;refine vw VL s σ H _ us Q' I rv ⟨_,xs,rfl,.inl ⟨h1,λl hl=>?_⟩⟩;have e:qy X.K H (upd H l (.tup xs)):=.new hl;exact k _ _ _ _ (.tup (.of pM) (h2.mono e)) (hm.add hl) e q
 .obtain⟨v,rfl,hv⟩:=rQ hd;obtain⟨a,xs,rfl,h1,h2⟩:=hv.mQ;refine vw VL s σ H _ us Q' I rv ⟨_,xs,rfl,.inl ⟨h1.sq,λl hl=>?_⟩⟩;have e:qy X.K H (upd H l (.tup xs)):=.new hl;exact k _ _ _ _ (.tup (.of pM) (h2.mono e)) (hm.add hl) e q
 .exact q.elim
def Pz(ds:List D)(M:Mp)(Q:DK):Prop:=match ds with
 | [d]=>(LH M d).elim False λes=>∀p,M p=none->Q (.ref p) (oX M p (.lst es))
 | _=>False
def sL:C3 X (.type "list") Pz:=by
 intro VL s σ H vs us Q' I rv h;obtain⟨ds,M,Q,hd,hm,q,k⟩:=h;unfold Pz at q;split at q
 .obtain⟨v,rfl,hv⟩:=rQ hd;obtain⟨es,e0,q⟩:=qC q;obtain⟨p,xs,rfl,h1,h2⟩:=DX hm hv e0;refine Ew VL s σ H _ us Q' I rv ⟨p,xs,rfl,h1,λl hl=>?_⟩;have e:qy X.K H (upd H l (.lst xs)):=.new hl;exact k _ _ _ _ .ref (hm.new (c:=.lst es) hl ⟨_,pM,h2.mono e⟩) e (q l (hm.fresh hl))
 .exact q.elim
theorem vS{K:pU}{H:Hp}{f:Str}:∀{fs:List (Str×D)} {vs:List (Str×V)},BJ K H fs vs->(∀d,fs.lookup f=some d->∃v,vs.lookup f=some v/\rj K H d v)/\(fs.lookup f=none->vs.lookup f=none)
 | [],[],_=>⟨λd e=>by simp at e,λ_=>rfl⟩
 | [],_::_,h=>by have:=h.1;simp at this
 | _::_,[],h=>by have:=h.1;simp at this
 | (g,d)::fs,(g',v)::vs,h=>by
  have h1:g'=g/\vs.map (·.1)=fs.map (·.1):=by
   have:=h.1
   simpa using this
  obtain⟨x,r,e,a,b⟩:=h.2.inv;have e':v::vs.map (·.2)=x::r:=e;cases e';obtain⟨i1,i2⟩:=vS (f:=f) (fs:=fs) (vs:=vs) ⟨h1.2,b⟩;rw[h1.1];refine⟨λd' e=>?_,λe=>?_⟩
  .rw[eL]at e ⊢;cases q:f==g with
   | true=>rw[q]at e;cases e;exact⟨v,rfl,a⟩
   | false=>rw[q]at e;exact i1 d' e
  .rw[eL]at e ⊢;cases q:f==g with
   | true=>rw[q]at e;cases e
   | false=>rw[q]at e;exact i2 e
theorem Ia{f:Str}{d:D}:∀{fs:List (Str×D)},fs.lookup f=some d->f∈fs.map (·.1)
 | [],h=>by simp at h
 | (g,e)::r,h=>by
  rw[eL]at h;cases q:f==g with
  | true=>
   have z:f=g:=by simpa using q
   rw[z,dR];exact dO
  | false=>rw[q]at h;simp[Ia h]
def zm(o:Option uo)(F:Addr->List (Str×D)->Prop):Prop:=match o with
 | some (.ins C fs)=>F C fs
 | _=>False
def oP{o:Option uo}{F:Addr->List (Str×D)->Prop}{C:Addr}{fs:List (Str×D)}(e:o=some (.ins C fs))(h:F C fs):zm o F:=by rw[e];exact h
def xy{o:Option uo}{F:Addr->List (Str×D)->Prop}(h:zm o F):∃C fs,o=some (.ins C fs)/\F C fs:=by
 unfold zm at h;split at h
 .exact⟨_,_,rfl,h⟩
 .exact h.elim
def T9(f:Str)(ta:T3):T3:=λδ M Q=>ta δ M λx M1=>match x with
 | .ref a=>zm (M1 a) λ_ fs=>(fs.lookup f).elim False λd=>Q d M1
 | _=>False
def oU{f:Str}(he:E3 X o ta)(hb:attributeBase o f X.env (eval o X.env)=eval o X.env:=by rfl):E3 X (.Attribute o f pos) (T9 f ta):=PE.mono (QA he hb) λσ H Q' zz=>x7 zz λδ M Q hs hm ht k=>
 ⟨δ,M,_,hs,hm,ht,λv H1 d M1 hd VN e1 q1=>by
  cases d with
  | ref a=>cases hd.mx;obtain⟨C,fs,e,q1⟩:=xy q1;obtain⟨d,e2,q⟩:=qC q1;obtain⟨dx,vs,h1,cl,na,fo⟩:=VN a _ e;obtain⟨v,e3,hv⟩:=(vS fo).1 d e2;exact⟨a,C,dx,vs,v,rfl,h1,cl,na f (Ia e2),e3,k v H1 d M1 hv VN e1 q⟩
  | _=>exact q1.elim⟩
def vt(f:Str)(v:D):List (Str×D)->List (Str×D)
 | []=>[(f,v)]
 | (g,u)::r=>if g=f then(g,v)::r else(g,u)::vt f v r
theorem Dq{K:pU}{H:Hp}{f:Str}{d:D}{v:V}(hv:rj K H d v):∀{fs:List (Str×D)} {vs:List (Str×V)},BJ K H fs vs->BJ K H (vt f d fs) (uZ f v vs)
 | [],[],_=>⟨rfl,.cons hv .nil⟩
 | [],_::_,h=>by have:=h.1;simp at this
 | _::_,[],h=>by have:=h.1;simp at this
 | (g,e)::fs,(g',u)::vs,h=>by
  have h1:g'=g/\vs.map (·.1)=fs.map (·.1):=by
   have:=h.1
   simpa using this
  obtain⟨x,r,e1,a,b⟩:=h.2.inv;have e':u::vs.map (·.2)=x::r:=e1;cases e';obtain⟨hg,ht⟩:=h1;subst hg;rw[show vt f d ((g',e)::fs)=(if g'=f then(g',d)::fs else(g',e)::vt f d fs)from rfl,show uZ f v ((g',u)::vs)=(if g'=f then(g',v)::vs else(g',u)::uZ f v vs)from rfl];by_cases q:g'=f
  .rw[cY q,cY q];exact⟨by simpa using ht,.cons hv b⟩
  .rw[cW q,cW q];obtain⟨i1,i2⟩:=Dq hv (fs:=fs) (vs:=vs) ⟨ht,b⟩;exact⟨by simpa using i1,.cons a i2⟩
theorem Br{f:Str}{d:D}:∀{fs:List (Str×D)} {g:Str},g∈(vt f d fs).map (·.1)->g=f\/g∈fs.map (·.1)
 | [],g,h=>.inl (by simpa [vt]using h)
 | (k,e)::r,g,h=>by
  rw[show vt f d ((k,e)::r)=(if k=f then(k,d)::r else(k,e)::vt f d r)from rfl]at h;by_cases q:k=f
  .rw[cY q]at h;exact .inr (by simpa using h)
  .rw[cW q]at h;rw[dR,c9]at h;rcases h with h|h
   .exact .inr (by simp[h])
   .rcases Br h with z|z
    .exact .inl z
    .exact .inr (by simp;right;simpa using z)
def Th(K:pU)(f:Str)(ta tv:T3):xx:=λD δ M=>tv δ M λy M1=>ta δ M1 λx M2=>match x with
 | .ref a=>zm (M2 a) λC fs=>tG K C f/\fs.length<1000/\D.nx δ (oX M2 a (.ins C (vt f y fs)))
 | _=>False
def pK{f:Str}{value:Expr}{tv:T3}{VU:Pos}(ha:E3 X o ta)(hv:E3 X value tv)(Xj:swapsWith value (some (.Attribute o f VU)) pos.line X.env=pure false:=by rfl):S3 X (.Assign [.Attribute o f VU] value pos) (Th X.K f ta tv):=
 PS.mono (RS ha hv Xj) λD' σ H zz=>JX zz λδ M D hs hm ht k1 k2 k3 k4=>
 ⟨δ,M,_,hs,hm,ht,λy H1 dy M1 hy VN e1 q1=>⟨δ,M1,_,hs.mono e1,VN,q1,λv H2 d M2 hd V5 e2 q2=>by
  cases d with
  | ref a=>
   cases hd.mx;obtain⟨C,fs,e,q2⟩:=xy q2;obtain⟨na,hl,q⟩:=q2;obtain⟨dx,vs,h1,cl,nn,fo⟩:=V5 a _ e;have VR:vs.length=fs.length:=by have:=eQ List.length fo.1;simpa using this
   refine⟨a,C,dx,vs,rfl,h1,cl,na,by omega,?_⟩;obtain⟨WJ,e3⟩:=V5.put (p:=a) (o:=.ins C dx (uZ f y vs)) (c:=.ins C (vt f dy fs)) e λx=>⟨dx,_,pM,cl,λg hg=>by
    rcases Br hg with z|z
    .rw[z];exact na
    .exact nn g z,Dq ((hy.mono e2).mono x) (fo.mono x)⟩
   exact k1 σ _ δ _ (hs.mono (e1.trans (e2.trans e3))) WJ (e1.trans (e2.trans e3)) rfl q
  | _=>exact q2.elim⟩⟩
def PY(C:Addr)(sp:qN)(t:wU):T3:=λδ M Q=>t δ M λds M1=>∀x,M1 x=none->sp (.ref x::ds) (oX M1 x (.ins C [])) λd M2=>d=.mC/\Q (.ref x) M2
def K4{K:pU}{H:Hp}{M:Mp}{xa dx:Addr}(hm:HM K H M)(cl:Cls K C)(h1:H xa=none)(h2:H dx=none)(ne:dx≠xa):HM K (upd (upd H dx (.own xa)) xa (.ins C dx [])) (oX M xa (.ins C []))/\qy K H (upd (upd H dx (.own xa)) xa (.ins C dx [])):=by
 have Wy:upd H dx (.own xa) xa=none:=by rw[pF (dM ne)];exact h1
 exact⟨(hm.add (p:=dx) (o:=.own xa) h2).new Wy ⟨dx,[],pM,cl,λg hg=>by simp at hg,rfl,.nil⟩,qy.trans (.new h2) (.new Wy)⟩
def NN(cl:Cls X.K C)(Mk':Mk X.K C f)(F:RY X.prog X.w X.K X.mg X.base k f fd ps sp)(hr:rB (k+1) X.A)(hg:Gl X x)(hm:X.mg x=some (.ref C))(hb:ut X.K fd ps [])(ha:A3 X (e::es) t) (V7:yb x:=by decide) (he:Az X e es:=by rfl) (V4:B0 X pos es:=by rfl):
  E3 X (.Call (.Name x p) (e::es) [] pos) (PY C sp t):=PE.mono (Pl Mk' F hr hg hm hb .nil (FT (X:=X)) ha V7 he V4) λσ H Q' zz=>x7 zz λδ M Q hs hm ht k=>
 ⟨δ,M,_,hs,hm,ht,λvs H1 ds M1 hd VN e1 q1=>λxa dx n1 n2 ne=>by
  obtain⟨V5,e2⟩:=K4 VN cl n1 n2 ne;refine⟨.ref xa::ds,_,_,?_,V5,q1 xa (VN.fresh n1),λv H3 d M3 hd3 WJ e3 q3=>?_⟩
  .rw[eM];exact .cons .ref (hd.mono e2)
  .obtain⟨z,q3⟩:=q3;subst z;exact⟨hd3.mz,k _ H3 _ M3 .ref WJ (e1.trans (e2.trans e3)) q3⟩⟩
def GL(m:Str)(R:Addr->Sp->Prop)(ta:TE)(t:TA):TE:=λσ H Q=>ta σ H λx H1=>∃a C dx fs sp,x=.ref a/\H1 a=some (.ins C dx fs)/\fs.lookup m=none/\R C sp/\t σ H1 λvs H2=>sp (x::vs) H2 Q E0
def xo(P:Pg)(w:Wo)(K:pU)(mg:Str->Option Vl)(base:Heap)(k:Nat)(m:Str)(C:Addr)(sp:Sp):Prop:=Cls K C/\∃f fd ps,uY K C m f/\wD P w K mg base MF k f fd ps sp/\ut K fd ps []
def Mw{R:Addr->Sp->Prop}{ta:TE}{t:TA}{pl:Sem Bool}(he:PE X o ta)(hR:∀C sp,R C sp->xo X.prog X.w X.K X.mg X.base k m C sp)(hr:rB k X.A)(ha:PA X (e::es) t) (V9:Az X e es:=by rfl) (V4:B0 X pos es:=by rfl)
  (ht:eval (.Call (.Attribute o m VO) (e::es) [] pos) X.env=(do
   let ov<-eval o X.env
   standAt VO.atName
   let(f,first)<-holding [ov] (getMethod ov m pl)
   callWith pos f first (backTo pos (starEach (e::es) X.env)) (backToKw pos (keywordEach [] X.env))):=by rfl):
  PE X (.Call (.Attribute o m VO) (e::es) [] pos) (GL m R ta t):=by
 intro VL s σ H Q I h;refine jM (pl:=pl) (rR (he VL s σ H _ I h) λu s1 zz=>?_) ht;obtain⟨x,H1,I1,rx,a,C,dx,fs,sp,ex,ea,l,hRC,q⟩:=zz;obtain⟨c,f,fd,ps,hm,F,hb⟩:=hR C sp hRC;subst ex;obtain rfl:u=Value.ref a:=rx;refine AX I1 ea c hm l ?_;refine iF (first:=[.ref a]) (h₀:=X.base) I.ok.mod.oh hm.kp (rR (ha pos VL s1 σ H1 _ I1 q) λus s2 zz=>x5 zz λvs H2 I2 r q2=>⟨I2.mR,?_⟩) V9 V4;exact EW (us:=.ref a::us) (vs:=.ref a::vs) F hr hb .nil (FT (X:=X)) I2 (.cons rfl r) (by rw[eM];exact q2)
def Jf{R:Addr->Sp->Prop}{ta:TE}{pl:Sem Bool}(he:PE X o ta)(hR:∀C sp,R C sp->xo X.prog X.w X.K X.mg X.base k m C sp)(hr:rB k X.A) (ht:eval (.Call (.Attribute o m VO) [] [] pos) X.env=(do
   let ov<-eval o X.env
   standAt VO.atName
   let(f,first)<-holding [ov] (getMethod ov m pl)
   callWith pos f first (backTo pos (starEach [] X.env)) (backToKw pos (keywordEach [] X.env))):=by rfl):
  PE X (.Call (.Attribute o m VO) [] [] pos) (GL m R ta SV):=by
 intro VL s σ H Q I h;refine jM (pl:=pl) (rR (he VL s σ H _ I h) λu s1 zz=>?_) ht;obtain⟨x,H1,I1,rx,a,C,dx,fs,sp,ex,ea,l,hRC,q⟩:=zz;obtain⟨c,f,fd,ps,hm,F,hb⟩:=hR C sp hRC;subst ex;obtain rfl:u=Value.ref a:=rx;refine AX I1 ea c hm l ?_;exact W.callWith_K0 (first:=[.ref a]) I1.mR hm.kp (EW (us:=[.ref a]) (vs:=[.ref a]) F hr hb .nil (FT (X:=X)) I1 (.cons rfl .nil) (by rw[eM];exact q))
def zU(m:Str)(R:Addr->qN->Prop)(ta:T3)(t:wU):T3:=λδ M Q=>ta δ M λx M1=>match x with
 | .ref a=>zm (M1 a) λC fs=>fs.lookup m=none/\∃sp,R C sp/\t δ M1 λds M2=>sp (x::ds) M2 Q
 | _=>False
def U4(K:pU)(R:Addr->qN->Prop):Addr->Sp->Prop:=λC sp'=>∃sp,R C sp/\sp'=MH K sp
def Hq{R:Addr->qN->Prop}:∀σ H Q',lo X.K (zU m R ta t) σ H Q'->GL m (U4 X.K R) (lo X.K ta) (Vq X.K t) σ H Q':=λσ H Q' zz=>x7 zz λδ M Q hs hm ht k=>
 ⟨δ,M,_,hs,hm,ht,λv H1 d M1 hd VN e1 q1=>by
  cases d with
  | ref a=>cases hd.mx;obtain⟨C,fs,e,q1⟩:=xy q1;obtain⟨hn,sp,hR,q⟩:=q1;obtain⟨dx,vs,h1,cl,na,fo⟩:=VN a _ e;exact⟨a,C,dx,vs,_,rfl,h1,(vS fo).2 hn,⟨sp,hR,rfl⟩,δ,M1,_,hs.mono e1,VN,q,λus H2 ds M2 W1 V5 e2 q2=>⟨.ref a::ds,M2,Q,.cons .ref W1,V5,q2,vk (e1.trans e2) k⟩⟩
  | _=>exact q1.elim⟩
def Dn{R:Addr->qN->Prop}{pl:Sem Bool}(he:E3 X o ta)(hR:∀C sp,R C sp->xo X.prog X.w X.K X.mg X.base k m C (MH X.K sp))(hr:rB k X.A)(ha:A3 X (e::es) t) (V9:Az X e es:=by rfl) (V4:B0 X pos es:=by rfl)
  (ht:eval (.Call (.Attribute o m VO) (e::es) [] pos) X.env=(do
   let ov<-eval o X.env
   standAt VO.atName
   let(f,first)<-holding [ov] (getMethod ov m pl)
   callWith pos f first (backTo pos (starEach (e::es) X.env)) (backToKw pos (keywordEach [] X.env))):=by rfl):
  E3 X (.Call (.Attribute o m VO) (e::es) [] pos) (zU m R ta t):=PE.mono (Mw (R:=U4 X.K R) he (λC sp' ⟨sp,h,z⟩=>by rw[z];exact hR C sp h) hr ha V9 V4 ht) Hq
def AR{R:Addr->qN->Prop}{pl:Sem Bool}(he:E3 X o ta)(hR:∀C sp,R C sp->xo X.prog X.w X.K X.mg X.base k m C (MH X.K sp))(hr:rB k X.A) (ht:eval (.Call (.Attribute o m VO) [] [] pos) X.env=(do
   let ov<-eval o X.env
   standAt VO.atName
   let(f,first)<-holding [ov] (getMethod ov m pl)
   callWith pos f first (backTo pos (starEach [] X.env)) (backToKw pos (keywordEach [] X.env))):=by rfl):
  E3 X (.Call (.Attribute o m VO) [] [] pos) (zU m R ta xm):=PE.mono (Jf (R:=U4 X.K R) he (λC sp' ⟨sp,h,z⟩=>by rw[z];exact hR C sp h) hr ht) λσ H Q' h=>by
 obtain⟨δ,M,Q,hs,hm,ht,k⟩:=Hq (t:=xm) σ H Q' h;refine⟨δ,M,Q,hs,hm,ht,λv H' d M' x1 x2 x3 x4=>?_⟩;obtain⟨a,C,dx,fs,sp,e1,e2,e3,e4,δ',VQ,Q'',y1,y2,y3,y4⟩:=k v H' d M' x1 x2 x3 x4;exact⟨a,C,dx,fs,sp,e1,e2,e3,e4,y4 [] H' [] VQ .nil y2 .refl y3⟩
structure FS(K:pU)(H1:Hp)(J:It)(ds:List D)(ok:Mp->Prop):Prop where
 go:∀i H M,i<ds.length->HM K H M->ok M->qy K H1 H->J.go i H
 oq:∀i d H M x H',ds[i]?=some d->HM K H M->ok M->qy K H1 H->J.oq i H x H'->rj K H' d x/\HM K H' M/\qy K H H'
 stop:∀H M,HM K H M->ok M->qy K H1 H->J.stop ds.length H
abbrev MK:=uJ->Mp->(List D->(Mp->Prop)->Mp->Prop)->Prop
def Vi(K:pU)(wi:MK):TI:=λσ H R'=>Cv λδ M R=>yg K H σ δ/\HM K H M/\wi δ M R/\∀J H1 ds ok M1,FS K H1 J ds ok->HM K H1 M1->qy K H H1->ok M1->R ds ok M1->R' J H1
def I3(X:Cx)(tg iter:Expr)(wi:MK):Prop:=PI X tg iter (Vi X.K wi)
def PI.mono{X:Cx}{tg e:Expr}{t t':TI}(h:PI X tg e t)(m:∀σ H Q,t' σ H Q->t σ H Q):PI X tg e t':=λVL s σ H Q I q=>h VL s σ H Q I (m σ H Q q)
variable {H1:Hp}
def LM{a:Addr}{ds:List D}:FS K H1 (TX K a) ds (λM=>oy M a=some ds) where
 go:=λi H M hi hm ok _=>by obtain⟨xs,h1,h2,_⟩:=pV hm ok;obtain⟨x,e,_⟩:=h2.get (cT hi);exact⟨xs,x,h1,e⟩
 oq:=λi d H M x H' hd hm ok _ y=>by obtain⟨xs,h1,h2,_⟩:=pV hm ok;obtain⟨e,y⟩:=y;subst e;obtain⟨x',e,hx⟩:=h2.get hd;have:=y xs h1;rw[e]at this;cases this;exact⟨hx,hm,.refl⟩
 stop:=λH M hm ok _=>by obtain⟨xs,h1,h2,_⟩:=pV hm ok;exact⟨xs,h1,by rw[h2.length];exact de _⟩
def NZ{a:Addr}{ds:List D}{xs:List V}(h1:uG K H1 a xs)(h2:pP K H1 ds xs):FS K H1 (UT K a) ds (λ_=>True) where
 go:=λi H M hi hm ok e1=>by obtain⟨x,e,_⟩:=h2.get (cT hi);exact⟨xs,x,e1.t _ _ h1,e⟩
 oq:=λi d H M x H' hd hm ok e1 y=>by obtain⟨e,y⟩:=y;subst e;obtain⟨x',e,hx⟩:=h2.get hd;have:=y xs (e1.t _ _ h1);rw[e]at this;cases this;exact⟨hx.mono e1,hm,.refl⟩
 stop:=λH M hm ok e1=>⟨xs,e1.t _ _ h1,by rw[h2.length];exact de _⟩
def Rz{a:Addr}{ds:List D}{xs:List V}(h1:NT K H1 a xs)(h2:pP K H1 ds xs):FS K H1 (TX K a) ds (λ_=>True) where
 go:=λi H M hi hm ok e1=>by obtain⟨x,e,_⟩:=h2.get (cT hi);exact⟨xs,x,(h1.mono e1).sq,e⟩
 oq:=λi d H M x H' hd hm ok e1 y=>by obtain⟨e,y⟩:=y;subst e;obtain⟨x',e,hx⟩:=h2.get hd;have:=y xs (h1.mono e1).sq;rw[e]at this;cases this;exact⟨hx.mono e1,hm,.refl⟩
 stop:=λH M hm ok e1=>⟨xs,(h1.mono e1).sq,by rw[h2.length];exact de _⟩
def Jn{n:Nat}{lo:Int}:FS K H1 (TY lo n) ((List.range n).map λi=>D.int (lo+(i:Nat))) (λ_=>True) where
 go:=λi H M hi hm ok e1=>by
  have z:i<n:=by simpa using hi
  exact z
 oq:=λi d H M x H' hd hm ok e1 y=>by
  obtain⟨e,y⟩:=y;subst e;subst y;have hi:i<n:=by
   have:=(cV.mp hd).1
   simpa using this
  have hd':d=D.int (lo+(i:Nat)):=by rw[dA,kt hi]at hd;exact(df hd).symm
  subst hd';exact⟨.int,hm,.refl⟩
 stop:=λH M hm ok e1=>by show n<=_;simp
variable {scope:Scope}{ix:List (Option Nat)}{N':List Str}{iter WG:Expr}{Wq:List Expr}{wi:MK}{g:B'}{tt:zK}{te:T3}{tg:Expr}
def SB(t:T3):MK:=λδ M R=>t δ M λx M1=>match x with
 | .tup ds=>R ds (λ_=>True) M1
 | .ref a=>(oy M1 a).elim False λds=>R ds (λM=>oy M a=some ds) M1
 | .rl ds=>R ds (λ_=>True) M1
 | .str z=>R (z.cps.toList.map λc=>D.str ⟨#[c]⟩) (λ_=>True) M1
 | _=>False
def Pn{K:pU}{H1:Hp}{z:Str}:FS K H1 (Ul z) (z.cps.toList.map λc=>D.str ⟨#[c]⟩) (λ_=>True) where
 go:=λi H M hi hm ok _=>by
  show i<z.cps.size
  simpa using hi
 oq:=λi d H M x H' hd hm ok _ y=>by obtain⟨e,c,e1,e2⟩:=y;subst e e2;rw[dA,Array.getElem?_toList,e1]at hd;cases hd;exact⟨.str,hm,.refl⟩
 stop:=λH M hm ok _=>by show _=z.cps.size;simp
def qk{l:Expr}{t:T3}(h:E3 X l t)(hc:X.calm=true:=by rfl):I3 X tg l (SB t):=PI.mono (Nv hc h) λσ H R' zz=>x7 zz λδ M R hs hm ht k=>
 ⟨δ,M,_,hs,hm,ht,λv H1 d M1 hd VN e1 q1=>by
  cases d with
  | tup ds=>obtain⟨a,xs,rfl,h1,h2⟩:=hd.mE;exact .inl ⟨a,rfl,.inr ⟨⟨xs,h1⟩,k _ H1 ds _ M1 (NZ h1 h2) VN e1 trivial q1⟩⟩
  | ref a=>cases hd.mx;obtain⟨ds,e0,q⟩:=qC q1;obtain⟨xs,h1,h2,_⟩:=pV VN e0;exact .inl ⟨a,rfl,.inl ⟨⟨xs,h1⟩,k _ H1 ds _ M1 LM VN e1 e0 q⟩⟩
  | str z=>exact .inr ⟨z,hd.str_inv,k _ H1 _ _ M1 Pn VN e1 trivial q1⟩
  | rl ds=>obtain⟨a,xs,rfl,h1,h2⟩:=hd.mQ;exact .inl ⟨a,rfl,.inl ⟨⟨xs,h1.sq⟩,k _ H1 ds _ M1 (Rz h1 h2) VN e1 trivial q1⟩⟩
  | _=>exact q1.elim⟩
def SK(t:wU):MK:=λδ M R=>t δ M λds M1=>match ds with
 | [.int j]=>(-(2 ^ 62)<=j/\j<2 ^ 62)/\R ((List.range j.toNat).map λi=>D.int (0+(i:Nat))) (λ_=>True) M1
 | [.int i,.int j]=>(-(2 ^ 62)<=i/\i<2 ^ 62/\-(2 ^ 62)<=j/\j<2 ^ 62)/\R ((List.range (j - i).toNat).map λn=>D.int (i+(n:Nat))) (λ_=>True) M1
 | _=>False
def uI{a:Expr}{ta:wU}(hg:Gl X "range")(hm:X.mg "range"=none)(ha:A3 X [a] ta)(hs:starEach [a] X.env=[(false,eval a X.env)]:=by rfl):I3 X tg (.Call (.Name "range" p) [a] [] pos) (SK λδ M Q=>ta δ M λds M1=>ds.length=1/\Q ds M1):=
 PI.mono (IR hg hm ha hs) λσ H R' zz=>x7 zz λδ M R hs hm ht k=>⟨δ,M,_,hs,hm,ht,λvs H1 ds M1 hd VN e1 q1=>by
  obtain⟨hl,q1⟩:=q1;split at q1
  .obtain⟨v,rfl,hv⟩:=rQ hd;cases hv.int_inv;exact⟨_,rfl,q1.1.1,q1.1.2,k _ H1 _ _ M1 Jn VN e1 trivial q1.2⟩
  .simp at hl
  .exact q1.elim⟩
def Ep(g:B')(tb:xx)(ok:Mp->Prop)(E:FG):List D->uJ->Mp->Prop
 | [],δ,M=>E.nx δ M
 | d::r,δ,M=>g d δ M λδ2 M2=>tb {E with nx:=λδ' M'=>ok M'/\Ep g tb ok E r δ' M',ct:=λδ' M'=>ok M'/\Ep g tb ok E r δ' M',bk:=E.nx} δ2 M2
def SL(wi:MK)(g:B')(tb:xx):xx:=λE δ M=>wi δ M λds ok M1=>Ep g tb ok E ds δ M1
def tZ{iter:Expr}{body:List Stmt}{wi:MK}{g:B'}{tb:xx}(hp:PassesOwn (model X.prog X.w) X.A X.env X.xe)(hc:X.calm=true)(hi:I3 X tg iter wi)(hg:G3 X tg g)(hb:Hd X body tb) (hs:∀x,foldedSetIterable iter X.env x=pure x:=by intro _;rfl):S3 X (.For tg iter body [] pos) (SL wi g tb):=PS.mono (Qg hp hc hi hg hb hs) λD' σ H zz=>JX zz λδ M E hs hm ht k1 k2 k3 k4=>
 ⟨δ,M,_,hs,hm,ht,λJ H1 ds ok M1 S VN e1 ok1 q1=>by
  refine⟨λi m σ' H'=>m=ds.length - i/\i<=ds.length/\∃δ' M',yg X.K H' σ' δ'/\HM X.K H' M'/\ok M'/\qy X.K H1 H'/\σ'.length=σ.length/\Ep g tb ok E (ds.drop i) δ' M',⟨ds.length,by simp,eZ _,δ,M1,hs.mono e1,VN,ok1,.refl,rfl,by simpa using q1⟩,?_⟩
  rintro i m σ' H' ⟨rfl,hi,δ',M',Yr,Xk,YT,e',l',q'⟩
  by_cases VX:i<ds.length
  .rw[gK VX]at q';refine .inr ⟨S.go i H' M' VX Xk YT e',λσ2 H2=>∃δ2 M2,yg X.K H2 σ2 δ2/\HM X.K H2 M2/\ok M2/\qy X.K H1 H2/\σ2.length=σ.length/\Ep g tb ok E (ds.drop (i+1)) δ2 M2,λσ2 H2 z=>⟨ds.length - (i+1),by omega,rfl,VX,z⟩,λx H2 y=>?_⟩;obtain⟨hx,V5,e2⟩:=S.oq i ds[i] H' M' x H2 (cT VX) Xk YT e' y;refine⟨ds[i],δ',M',_,hx,Yr.mono e2,V5,q',λσ3 H3 δ3 M3 x1 x2 x3 x4 x5=>?_⟩;refine⟨δ3,M3,_,x1,x2,x5,λσ4 H4 δ4 M4 y1 y2 y3 y4 y5=>?_,λv H4 d M4 y1 y2 y3 y4=>?_,λσ4 H4 δ4 M4 y1 y2 y3 y4 y5=>?_,λσ4 H4 δ4 M4 y1 y2 y3 y4 y5=>?_⟩
   .exact⟨δ4,M4,y1,y2,y5.1,e'.trans (e2.trans (x3.trans y3)),by rw[y4,x4,l'],y5.2⟩
   .exact k2 v H4 d M4 y1 y2 (e1.trans (e'.trans (e2.trans (x3.trans y3)))) y4
   .exact k1 σ4 H4 δ4 M4 y1 y2 (e1.trans (e'.trans (e2.trans (x3.trans y3)))) (by rw[y4,x4,l']) y5
   .exact⟨δ4,M4,y1,y2,y5.1,e'.trans (e2.trans (x3.trans y3)),by rw[y4,x4,l'],y5.2⟩
  .have e:i=ds.length:=by omega
   subst e;rw[jA]at q';exact .inl ⟨S.stop H' M' Xk YT e',k1 σ' H' δ' M' Yr Xk (e1.trans e') l' q'⟩⟩
def Of(ix:List (Option Nat))(δ:uJ):uJ:=ix.map λo=>o.bind λi=>(δ[i]?).join
def OQ{K:pU}{H:Hp}{σ:St}{δ:uJ}{ix:List (Option Nat)}(h:yg K H σ δ):yg K H (O0 ix σ) (Of ix δ):=λi d q=>by
 unfold Of at q;unfold O0;rw[dA]at q ⊢;cases e:ix[i]? with
 | none=>rw[e]at q;cases q
 | some o=>
  rw[e]at q;cases o with
  | none=>cases q
  | some j=>
   have q':(δ[j]?).join=some d:=df q;have e4:δ[j]?=some (some d):=by
    cases r:δ[j]? with
    | none=>rw[r]at q';cases q'
    | some w=>rw[r]at q';exact eQ some q'
   obtain⟨v,e5,hv⟩:=h j d e4;refine⟨v,?_,hv⟩;show some ((σ[j]?).join)=some (some v);rw[e5];rfl
def uC(g:B')(tt:zK)(te:T3)(ok:Mp->Prop)(Q:DK):List D->List D->uJ->Mp->Prop
 | [],acc,_,M=>acc.length<=sizeLine/\∀p,M p=none->Q (.ref p) (oX M p (.lst acc))
 | d::r,acc,δ,M=>acc.length<sizeLine/\g d δ M λδ2 M2=>tt δ2 M2 λb M3=>if b=true then te δ2 M3 λy M4=>ok M4/\uC g tt te ok Q r (acc++[y]) δ2 M4 else ok M3/\uC g tt te ok Q r acc δ2 M3
def KN(ix:List (Option Nat))(wi:MK)(g:B')(tt:zK)(te:T3):T3:=λδ M Q=>wi δ M λds ok M1=>uC g tt te ok Q ds [] (Of ix δ) M1
def F3(X:Cx)(Wq:List Expr)(t:zK):Prop:=PF X Wq (RZ X.K t)
def PF.mono{X:Cx}{e:List Expr}{t t':TT}(h:PF X e t)(m:∀σ H Q,t' σ H Q->t σ H Q):PF X e t':=λVL s σ H Q I q=>h VL s σ H Q I (m σ H Q q)
def AS:zK:=λ_ M Q=>Q true M
def rh:F3 X [] AS:=PF.mono P3 λσ H Q' zz=>x7 zz λδ M Q hs hm ht k=>k true H M hm .refl ht
def uz{c:Expr}{t:zK}(h:B3 X c t):F3 X [c] t:=RE h
def Iw:∀σ H Q',lo X.K (KN ix wi g tt te) σ H Q'->Kl ix (Vi X.K wi) (T1 X.K g) (RZ X.K tt) (lo X.K te) σ H Q':=λσ H Q' zz=>x7 zz λδ M Q hs hm ht k=>
 ⟨δ,M,_,hs,hm,ht,λJ H1 ds ok M1 S VN e1 ok1 q1=>by
  refine⟨λi m ys σ' H'=>m=ds.length - i/\i<=ds.length/\∃δ' M' acc,yg X.K H' σ' δ'/\HM X.K H' M'/\pP X.K H' acc ys/\ok M'/\qy X.K H1 H'/\uC g tt te ok Q (ds.drop i) acc δ' M',⟨ds.length,by simp,eZ _,Of ix δ,M1,[],OQ (hs.mono e1),VN,.nil,ok1,.refl,by simpa using q1⟩,?_⟩
  rintro i m ys σ' H' ⟨rfl,hi,δ',M',acc,Yr,Xk,Xr,YT,e',q'⟩
  by_cases VX:i<ds.length
  .rw[gK VX]at q';obtain⟨hz,q'⟩:=q';refine .inr ⟨S.go i H' M' VX Xk YT e',by rw[<-Xr.length];exact hz,λx H2 y=>?_⟩;obtain⟨hx,V5,e2⟩:=S.oq i ds[i] H' M' x H2 (cT VX) Xk YT e' y;refine⟨ds[i],δ',M',_,hx,Yr.mono e2,V5,q',λσ3 H3 δ3 M3 x1 x2 x3 x4 x5=>?_⟩;refine⟨δ3,M3,_,x1,x2,x5,λb H4 M4 y2 y3 y5=>?_⟩;cases b with
   | true=>rw[cY rfl]at y5 ⊢;refine⟨δ3,M4,_,x1.mono y3,y2,y5,λv H5 d M5 z1 z2 z3 z4=>⟨ds.length - (i+1),by omega,rfl,VX,δ3,M5,acc++[d],x1.mono (y3.trans z3),z2,(Xr.mono (e2.trans (x3.trans (y3.trans z3)))).snoc z1,z4.1,e'.trans (e2.trans (x3.trans (y3.trans z3))),z4.2⟩⟩
   | false=>rw[cW dw]at y5 ⊢;exact⟨ds.length - (i+1),by omega,rfl,VX,δ3,M4,acc,x1.mono y3,y2,Xr.mono (e2.trans (x3.trans y3)),y5.1,e'.trans (e2.trans (x3.trans y3)),y5.2⟩
  .have e:i=ds.length:=by omega
   subst e;rw[jA]at q';refine .inl ⟨S.stop H' M' Xk YT e',by rw[<-Xr.length];exact q'.1,λp hp=>?_⟩;have e5:qy X.K H' (upd H' p (.lst ys)):=.new hp;exact k _ _ _ _ .ref (Xk.new (c:=.lst acc) hp ⟨_,pM,Xr.mono e5⟩) (e1.trans (e'.trans e5)) (q'.2 p (Xk.fresh hp))⟩
def ql(hc:X.calm=true)(S:rF X scope ix N')(hi:I3 X tg iter wi)(hg:∀{C s0 H0 ex},G3 (X.comp scope N' C s0 H0 ex) tg g)(ht:∀{C s0 H0 ex},F3 (X.comp scope N' C s0 H0 ex) Wq tt)(he:∀{C s0 H0 ex},E3 (X.comp scope N' C s0 H0 ex) WG te) (hs:∀x,foldedSetIterable iter X.env x=pure x:=by intro _;rfl):E3 X (.ListComp WG [⟨tg,iter,Wq,0⟩] scope pos) (KN ix wi g tt te):=PE.mono (Oi (g:=T1 X.K g) (tt:=RZ X.K tt) (te:=lo X.K te) hc S hi (λ_ _ _ _=>hg) (λ_ _ _ _=>ht) (λ_ _ _ _=>he) hs) Iw
def uf{i:Nat}{x:Str}{px Xz:Pos}(hN:X.N.Nodup)(X7:X.N[i]?=some x)(hx:JV X.env.scope x)(hc:X.calm=true)(S:rF X scope ix N')(hi:I3 X tg iter wi)(hg:∀{C s0 H0 ex},G3 (X.comp scope N' C s0 H0 ex) tg g)(ht:∀{C s0 H0 ex},F3 (X.comp scope N' C s0 H0 ex) Wq tt) (he:∀{C s0 H0 ex},E3 (X.comp scope N' C s0 H0 ex) WG te) (Xj:swapsWith (.ListComp WG [⟨tg,iter,Wq,0⟩] scope pos) (some (.Name x px)) Xz.line X.env=pure true:=by rfl)
  (hf:JW X x:=by first|exact .inl rfl|exact .inr rfl|assumption) (hs:∀x,foldedSetIterable iter X.env x=pure x:=by intro _;rfl):
  S3 X (.Assign [.Name x px] (.ListComp WG [⟨tg,iter,Wq,0⟩] scope pos) Xz) (F0 (KN ix wi g tt te) (sW i)):=PS.nE (Hf (g:=T1 X.K g) (tt:=RZ X.K tt) (te:=lo X.K te) hN X7 hx hc S hi (λ_ _ _ _=>hg) (λ_ _ _ _=>ht) (λ_ _ _ _=>he) Xj hf hs) λD' σ H hl zz=>JX zz λδ M D hs hm ht k1 k2 k3 k4=>
 Iw σ H _ ⟨δ,M,_,hs,hm,ht,λv H1 d M1 hd VN e1 q1=>k1 _ H1 _ M1 ((hs.mono e1).set hd (by rw[hl];exact(cV.mp X7).1)) VN e1 (by simp) q1⟩
def Vr{A:Ar}{k:Nat}(hr:rB k A):A.units+9<cLine:=by have:=hr.units;omega
def GR(sc:Scope)(N:List Str)(scope:Scope)(ix:List (Option Nat))(N':List Str):Bool:=
 (scope.kind==.function)&&(scope.names.all λy=>!(y.2==.cell))&&(scope.names.all λy=>!(y.2==.local)||(scope.names.lookup y.1==some .local))&&
 (scope.names.all λy=>!(y.2==.free)||(sc.names.lookup y.1==some .cell)||(sc.names.lookup y.1==some .free))&&(ix.length==N'.length)&&
 ((ix.zip N').all λp=>match p.1 with|none=>true|some i=>(N[i]?==some p.2)&&(scope.names.lookup p.2==some .free))
def S7{X:Cx}{scope:Scope}{ix:List (Option Nat)}{N':List Str}(h:GR X.env.scope X.N scope ix N'=true):rF X scope ix N':=by
 unfold GR at h;simp only[dS]at h;obtain⟨⟨⟨⟨⟨h1,h2⟩,h3⟩,h4⟩,h5⟩,h6⟩:=h;refine⟨by simpa using h1,λy hy e=>?_,λy hy e=>?_,λy hy e=>?_,by simpa using h5,λj i x e1 e2=>?_⟩
 .have:=eX.mp h2 y hy;rw[e]at this;simp at this
 .have:=eX.mp h3 y hy;rw[e]at this
  simpa using this
 .have:=eX.mp h4 y hy;rw[e]at this
  simpa using this
 .have hm:(some i,x)∈ix.zip N':=by
   have:(ix.zip N')[j]?=some (some i,x):=by rw[List.getElem?_zip_eq_some];exact⟨e1,e2⟩
   exact fQ this
  have:=eX.mp h6 _ hm
  simpa using this
section
variable {a b:Expr}
def HI(op WE:CmpOp)(ta tb tc:T3):T3:=λδ M Q=>ta δ M λx M1=>tb δ M1 λy M2=>OB op x y M2 λz M3=>match z with
 | .bl k=>if k=true then tc δ M3 λw M4=>OB WE y w M4 Q else Q (.bl false) M3
 | _=>False
def tW{op WE:CmpOp}(hu:X.A.units+9<cLine)(ha:E3 X a ta)(hb:E3 X b tb)(hc:E3 X c tc)(hmk:lastMarks [op,WE] [b,c]=false:=by rfl):
  E3 X (.Compare a [op,WE] [b,c] pos) (HI op WE ta tb tc):=PE.mono (J2 (Ju op hu) (Ju WE hu) ha hb hc hmk) λσ H Q' zz=>x7 zz λδ M Q hs hm ht k=>
 ⟨δ,M,_,hs,hm,ht,λv H1 x M1 hx VN e1 q1=>⟨δ,M1,_,hs.mono e1,VN,q1,λu H2 y M2 hy V5 e2 q2=>⟨x,y,M2,_,hx.mono e2,hy,V5,q2,λw H3 z M3 hz WJ e3 q3=>by
  cases z with
  | bl c=>
   refine⟨c,hz.mB,?_⟩;cases c with
   | true=>refine(cY rfl).mpr ⟨δ,M3,_,hs.mono (e1.trans (e2.trans e3)),WJ,(cY rfl).mp q3,λw' H4 d M4 hd hm4 e4 q4=>⟨y,d,M4,Q,hy.mono (e3.trans e4),hd,hm4,q4,vk (e1.trans (e2.trans (e3.trans e4))) k⟩⟩
   | false=>exact(cW dw).mpr (k _ H3 _ M3 .bl WJ (e1.trans (e2.trans e3)) ((cW dw).mp q3))
  | _=>exact q3.elim⟩⟩⟩
def Fl{op WE:CmpOp}(hu:X.A.units+9<cLine)(ha:E3 X a ta)(hb:E3 X b tb)(hc:E3 X c tc)(hmk:lastMarks [op,WE] [b,c]=false:=by rfl):
  B3 X (.Compare a [op,WE] [b,c] pos) (b3 (HI op WE ta tb tc)):=PT.mono (LZ (Ju op hu) (Ju WE hu) ha hb hc hmk) λσ H Q' zz=>x7 zz λδ M Q hs hm ht k=>
 ⟨δ,M,_,hs,hm,ht,λv H1 x M1 hx VN e1 q1=>⟨δ,M1,_,hs.mono e1,VN,q1,λu H2 y M2 hy V5 e2 q2=>⟨x,y,M2,_,hx.mono e2,hy,V5,q2,λw H3 z M3 hz WJ e3 q3=>by
  cases z with
  | bl c=>
   refine⟨c,hz.mB,?_⟩;cases c with
   | true=>
    refine(cY rfl).mpr ⟨δ,M3,_,hs.mono (e1.trans (e2.trans e3)),WJ,(cY rfl).mp q3,λw' H4 d M4 hd hm4 e4 q4=>⟨y,d,M4,_,hy.mono (e3.trans e4),hd,hm4,q4,λw5 H5 d5 M5 hd5 hm5 e5 q5=>?_⟩⟩;cases d5 with
    | bl c5=>exact⟨c5,hd5.mB,k c5 H5 M5 hm5 (e1.trans (e2.trans (e3.trans (e4.trans e5)))) q5⟩
    | _=>exact q5.elim
   | false=>exact(cW dw).mpr ⟨false,rfl,k false H3 M3 WJ (e1.trans (e2.trans e3)) ((cW dw).mp q3)⟩
  | _=>exact q3.elim⟩⟩⟩
structure U7(K:pU)(C:Addr):Prop where
 ha:W.findIn K (.ref C) "__class__"=some (some (.builtin "object.__class__"))
 hn:W.specialIn K (.builtin "object.__class__") "__get__"=some (some (.builtin "getset_descriptor.__get__"))
 htk:W.takesIn K (.builtin "object.__class__")=some true
 hm:W.mroIn K C (.type "object")=some true
def G9:Option uo->Option Vl
 | some (.lst _)=>some (.type "list")
 | some (.ins C _)=>some (.ref C)
 | some (.dk _)=>some (.type "dict")
 | some (.exc _)=>none
 | none=>none
def Vp(M:Mp):D->Option Vl
 | .mC=>some (.type "NoneType")
 | .bl _=>some (.type "bool")
 | .int _=>some (.type "int")
 | .str _=>some (.type "str")
 | .tup _=>some (.type "tuple")
 | .ref a=>G9 (M a)
 | .ty _=>none
 | .rl _=>some (.type "list")
def Uk:D->Option Vl
 | .ref C=>some (.ref C)
 | .ty n=>some (.type n)
 | _=>none
def PM(K:pU)(ds:List D)(M:Mp)(Q:DK):Prop:=match ds with
 | [x,c]=>(Vp M x).elim False λt=>(Uk c).elim False λcv=>(∀C,t=.ref C->U7 K C)/\(W.kitOne K t cv).elim False λb=>Q (.bl b) M
 | _=>False
def Jx:C3 X (.builtin "isinstance") (PM X.K):=by
 intro VL s σ H vs us Q' I rv h;obtain⟨ds,M,Q,hd,hm,q,k⟩:=h;unfold PM at q;split at q
 .rename_i x c;obtain⟨v,u,rfl,hv,hw⟩:=DQ hd;obtain⟨t,et,q⟩:=qC q;obtain⟨cv,ec,hC,q⟩:=qC q;obtain⟨b,eb,qb⟩:=qC q;obtain⟨uv,uw,rfl,Ya,rv2⟩:=LY rv;have ecv:uw=cv:=by
   cases c with
   | ref C=>cases hw.mx;cases ec;exact rv2
   | ty n=>cases hw.nH;cases ec;exact rv2
   | _=>cases ec
  subst ecv;have VP:∀tk,EP X VL σ Q' (.bool b) {s with toks:=tk}:=λtk=>⟨.bl b,H,I.tok tk,rfl,k _ _ _ _ .bl hm .refl qb⟩;cases x with
  | mC=>cases hv.mz;cases et;exact ug I Ya .mC eb VP
  | bl y=>cases hv.mB;cases et;exact ug I Ya (.bl y) eb VP
  | int y=>cases hv.int_inv;cases et;exact ug I Ya (.int y) eb VP
  | str y=>cases hv.str_inv;cases et;exact ug I Ya (.str y) eb VP
  | tup ds=>obtain⟨a,xs,rfl,h1,h2⟩:=hv.mE;cases et;cases Ya;obtain⟨its,r,p,_⟩:=I.tuple h1;obtain⟨o,g1,g2,_⟩:=p;exact gm W.kitx_tuple I.mR ⟨o,g1,g2⟩ eb (λz=>nomatch z) VP
  | ref a=>
   cases hv.mx;have et:G9 (M a)=some t:=et;cases e:M a with
   | none=>rw[e]at et;cases et
   | some cell=>
    rw[e]at et;have ok:=hm a cell e;cases cell with
    | lst ds=>cases et;obtain⟨xs,e1,_⟩:=ok;exact ug I Ya (.lst e1) eb VP
    | ins C fs=>cases et;obtain⟨dx,vs,e1,cl,_⟩:=ok;obtain⟨i1,i2,i3,i4⟩:=hC C rfl;exact ug I Ya (.ins e1 cl i1 i2 i3 i4) eb VP
    | dk kvs=>cases et;obtain⟨vs,e1,_⟩:=ok;exact ug I Ya (.dK e1) eb VP
    | exc C=>cases et
  | ty n=>cases et
  | rl ds=>obtain⟨p,xs,rfl,h1,h2⟩:=hv.mQ;cases et;cases Ya;obtain⟨its,r,⟨o,n,g1,g2,_⟩,_⟩:=I.list h1.sq;exact gm lu I.mR ⟨o,g1,g2⟩ eb (λz=>nomatch z) VP
 .exact q.elim
def F1:List D->Option (List Bool)
 | []=>some []
 | .bl b::r=>(F1 r).map (b::·)
 | _::_=>none
theorem DE{K:pU}{H:Hp}:∀{ds:List D} {bs:List Bool} {xs:List V} {us:List Vl},F1 ds=some bs->pP K H ds xs->qh xs us->us=bs.map Value.bool
 | [],bs,xs,us,e,h,r=>by cases e;have:=h.nil_inv;subst this;cases r;rfl
 | d::ds,bs,xs,us,e,h,r=>by
  cases d with
  | bl b=>
   obtain⟨y,ys,rfl,h1,h2⟩:=h.inv;cases h1.mB;unfold F1 at e;cases q:F1 ds with
   | none=>rw[q]at e;cases e
   | some cs=>
    rw[q]at e;cases e;cases r with
    | cons r1 r2=>cases r1;rw[DE q h2 r2];rfl
  | _=>cases e
def Sw(ds:List D)(M:Mp)(Q:DK):Prop:=match ds with
 | [.ref a]=>(oy M a).elim False λes=>(F1 es).elim False λbs=>Q (.bl (bs.all id)) M
 | _=>False
def EG(hc:X.calm=true):C3 X (.builtin "all") Sw:=by
 intro VL s σ H vs us Q' I rv h;obtain⟨ds,M,Q,hd,hm,q,k⟩:=h;unfold Sw at q;split at q
 .rename_i a;obtain⟨v,rfl,hv⟩:=rQ hd;obtain⟨es,e0,q⟩:=qC q;obtain⟨bs,e1,q⟩:=qC q;cases hv.mx;obtain⟨u,rfl,ru⟩:=xV rv;cases ru;obtain⟨xs,h1,h2,_⟩:=pV hm e0;obtain⟨its,r,pl,hz⟩:=I.list h1;have YU:=DE e1 h2 r;subst YU;have Wc:a≠s.heap.objs.size:=by obtain⟨o,_,e,_⟩:=pl;exact dG (dv e)
  refine call_all_walk (gG pl.isList ?_);refine⟨s.heap.objs.size,_,_,_,_,_,λi=>(bs[i]?).getD true,rfl,j7 (A:=X.A.in1) (I.ok.hd hc) _ a Wc (bs.map Value.bool).toArray,⟨⟨_,dF _ rfl,rfl,rfl⟩,?_⟩,λi v s' Q E hP hQ=>?_,λh' tk hk=>?_⟩
  .obtain⟨o,n,e,c,d,q⟩:=pl;exact⟨o,cX _ e,c,n,q⟩
  .simp only[iD,dA]at hP;cases e2:bs[i]? with
   | none=>rw[e2]at hP;cases hP
   | some b=>rw[e2]at hP;cases hP;have hQ:Q ((bs[i]?).getD true) s':=hQ;rw[e2]at hQ;exact fh hQ
  .have ea:(List.range (bs.map Value.bool).toArray.size).all (λi=>(bs[i]?).getD true)=bs.all id:=by
    rw[dh,cR];rw[fW,eX,eX];constructor
    .intro z b hb;obtain⟨i,hi,e⟩:=fE hb;have:=z i (gu.mpr hi);rw[cT hi,e]at this;exact this
    .intro z i hi;have XO:=gu.mp hi;rw[cT XO];exact z _ (gN XO)
   rw[ea];refine⟨.bl (bs.all id),H,?_,rfl,k _ _ _ _ .bl hm .refl q⟩;exact I.kept (h':=h') (t':=tk) λb o e=>hk b o (by simpa using dG (dv e)) (cX _ e)
 .exact q.elim
def Ah(x:D):List D->Option Nat
 | []=>none
 | d::r=>if OA d x=true then some 0 else(Ah x r).map (·+1)
theorem IE{K:pU}{H:Hp}{e:D}{w:V}(g:rj K H e w)(fe:uE e=true):∀{ds:List D} {xs:List V} {us:List Vl} {j:Nat},pP K H ds xs->qh xs us->ds.all uE=true->Ah e ds=some j->
  ∃h:j<us.length,DT w us[j]=true/\∀m (hm:m<us.length),m<j->DT w us[m]=false
 | [],_,_,_,_,_,_,q=>by cases q
 | d::ds,_,us,j,h,r,fl,q=>by
  obtain⟨y,ys,rfl,h1,h2⟩:=h.inv;rw[gp,dS]at fl;cases r with
  | @cons _ u _ us' r1 r2=>
   have eu:DT w u=OA d e:=by rw[Gk r1 (yx h1 fl.1),H9 h1 g fl.1 fe]
   unfold Ah at q;by_cases hq:OA d e=true
   .rw[cY hq]at q;cases q;exact⟨by simp,by simpa [eu]using hq,λm _ hm=>absurd hm (Nat.not_lt_zero m)⟩
   .rw[cW hq]at q;cases q2:Ah e ds with
    | none=>rw[q2]at q;cases q
    | some j'=>
     rw[q2]at q;cases q;obtain⟨hl,e1,e2⟩:=IE g fe h2 r2 fl.2 q2;refine⟨by simpa using hl,by simpa using e1,λm hm VX=>?_⟩;cases m with
     | zero=>simpa [eu]using hq
     | succ m=>simpa using e2 m (by simpa using hm) (by have z:m+1<j'+1:=VX;omega)
def RI(x:D)(ds:List D)(M:Mp)(Q:DK):Prop:=match x,ds with
 | .ref a,[y]=>(oy M a).elim False λes=>uE y=true/\es.all uE=true/\(Ah y es).elim False λj=>Q (.int (j:Nat)) M
 | _,_=>False
def M3(X:Cx)(id:String)(r:D->List D->Mp->DK->Prop):Prop:=Ve X id λvx vs H Q'=>∃x ds M Q,rj X.K H x vx/\pP X.K H ds vs/\HM X.K H M/\r x ds M Q/\Up X.K H Q' Q
def Mu:M3 X "list.index" RI:=by
 intro VL s σ H vx vs v us Q' I rx rv h;obtain⟨x,ds,M,Q,hx,hd,hm,q,k⟩:=h;unfold RI at q;split at q
 .rename_i a y;obtain⟨es,e0,f1,f2,q⟩:=qC q;obtain⟨j,e1,q⟩:=qC q;cases hx.mx;cases rx;obtain⟨w,rfl,hw⟩:=rQ hd;obtain⟨u,rfl,ru⟩:=xV rv;obtain⟨xs,h1,h2,rd⟩:=pV hm e0;obtain⟨hz,its,n,r,g⟩:=rd.ok I.mG;obtain⟨hl,p1,p2⟩:=IE hw f1 h2 r f2 e1;have hlz:its.length<=sizeLine:=by rw[<-r.length];exact hz
  have h63:=yk;refine jo F.slot_list_index ⟨_,g,rfl⟩ F.entry_list_index (F.args_list_index_2 _ _) (SeqAt.list_indexAt a its.toArray n none #[] u (DT w) j (by simpa using hl) (by omega) (by simpa using p1) λm hm VX=>by simpa using p2 m (by simpa using hm) VX) ⟨g,?_,?_⟩
  .intro z hz';exact vL ru (yx hw f1) r (DI h2 f2) z (by simpa using hz')
  .exact⟨.int (j:Nat),H,I.tok _,⟨_,rfl⟩,k _ _ _ _ .int hm .refl q⟩
 .exact q.elim
def PB(M:Mp):D->Prop
 | .ref a=>(oy M a).isSome=true
 | _=>False
def UX(r:D->List D->Mp->DK->Prop)(to:T3)(t:wU):T3:=λδ M Q=>to δ M λx M1=>PB M1 x/\t δ M1 λds M2=>r x ds M2 Q
def Qz{K:pU}{H:Hp}{M:Mp}{x:D}{v:V}(hm:HM K H M)(h:rj K H x v)(l:PB M x):UE K "list" v H:=by
 cases x with
 | ref a=>cases h.mx;obtain⟨ds,e⟩:=jv.mp (show(oy M a).isSome=true from l);obtain⟨xs,h1,_⟩:=pV hm e;exact .inl ⟨rfl,xs,h1⟩
 | _=>exact l.elim
def PH{id:String}{name:Str}{r:D->List D->Mp->DK->Prop}(slot:Slot "list" name id)(hty:typeOf (.builtin id)=pure (.type "method_descriptor"))(hm:M3 X id r)(ho:E3 X o ta)(ha:A3 X (e::es) t) (Wb:attributeBase o name X.env (eval o X.env)=eval o X.env:=by rfl)
  (W2:((backTo pos (starEach (e::es) X.env)).all (λx=>!x.1)&&(backToKw pos (keywordEach [] X.env)).all (λx=>x.1.isSome)
   &&decide ((e::es).length+([]:List Keyword).length+(if ([]:List Keyword).isEmpty then 0 else 1)<30))=true:=by rfl)
  (Wn:(VO.endLine==pos.line)=true:=by rfl) (hs:Az X e es:=by rfl) (V6:B0 X pos es:=by rfl):
  E3 X (.Call (.Attribute o name VO) (e::es) [] pos) (UX r ta t):=PE.mono (Tu PySem.F.plainAttrs_list slot hty hm ho ha Wb W2 Wn hs V6) λσ H Q' zz=>x7 zz λδ M Q hs hm ht k=>
 ⟨δ,M,_,hs,hm,ht,λv H1 x M1 hx VN e1 q1=>⟨Qz VN hx q1.1,δ,M1,_,hs.mono e1,VN,q1.2,λvs H2 ds M2 W1 V5 e2 q2=>⟨x,ds,M2,Q,hx.mono e2,W1,V5,q2,vk (e1.trans e2) k⟩⟩⟩
def wR(ho:E3 X o ta)(ha:A3 X (e::es) t) (Wb:attributeBase o "index" X.env (eval o X.env)=eval o X.env:=by rfl)
  (W2:((backTo pos (starEach (e::es) X.env)).all (λx=>!x.1)&&(backToKw pos (keywordEach [] X.env)).all (λx=>x.1.isSome)
   &&decide ((e::es).length+([]:List Keyword).length+(if ([]:List Keyword).isEmpty then 0 else 1)<30))=true:=by rfl)
  (Wn:(VO.endLine==pos.line)=true:=by rfl) (hs:Az X e es:=by rfl) (V6:B0 X pos es:=by rfl):
  E3 X (.Call (.Attribute o "index" VO) (e::es) [] pos) (UX RI ta t):=PH PySem.F.slot_list_index PySem.F.type_list_index Mu ho ha Wb W2 Wn hs V6
structure JZ(K:pU)(C:Addr)(m:Str)(f:Addr):Prop where
 hg:W.specialIn K (.ref C) "__getattribute__"=some (some (.builtin "type.__getattribute__"))
 rd:W.readsIn K C (.type "type")=true
 fc:W.findCls K (.ref C) (.type "type") m=some (.val (.ref f))
def Ph{sp:Sp}{t:TA}{pl:Sem Bool}(cm:JZ X.K C m f)(F:wD X.prog X.w X.K X.mg X.base MF k f fd ps sp)(hr:rB k X.A)(hg:Gl X x)(hm:X.mg x=some (.ref C))(hk:W.keepIn X.K (.ref f)=true)(hb:ut X.K fd ps [])(ha:PA X (e::es) t) (V7:yb x:=by decide) (V9:Az X e es:=by rfl) (V4:B0 X pos es:=by rfl)
  (ht:eval (.Call (.Attribute (.Name x p) m VO) (e::es) [] pos) X.env=(do
   let ov<-eval (.Name x p) X.env
   standAt VO.atName
   let(f,first)<-holding [ov] (getMethod ov m pl)
   callWith pos f first (backTo pos (starEach (e::es) X.env)) (backToKw pos (keywordEach [] X.env))):=by rfl):
  PE X (.Call (.Attribute (.Name x p) m VO) (e::es) [] pos) (λσ H Q=>t σ H λvs H1=>sp vs H1 Q E0):=by
 intro VL s σ H Q I h;refine jM (pl:=pl) (vQ I hg hm ?_ V7) ht;refine W.method_cls I.mR cm.hg (W.cls_value I.mR cm.rd cm.fc rfl ?_);refine iF (first:=[]) (h₀:=X.base) I.ok.mod.oh hk (rR (ha pos VL _ σ H _ (I.tok _) h) λus s2 zz=>x5 zz λvs H2 I2 r q2=>⟨I2.mR,?_⟩) V9 V4;exact EW F hr hb .nil (FT (X:=X)) I2 r (by rw[eM];exact q2)
def O7{pl:Sem Bool}(cm:JZ X.K C m f)(F:RY X.prog X.w X.K X.mg X.base k f fd ps sp)(hr:rB k X.A)(hg:Gl X x)(hm:X.mg x=some (.ref C))(hk:W.keepIn X.K (.ref f)=true)(hb:ut X.K fd ps [])(ha:A3 X (e::es) t) (V7:yb x:=by decide) (V9:Az X e es:=by rfl) (V4:B0 X pos es:=by rfl)
  (ht:eval (.Call (.Attribute (.Name x p) m VO) (e::es) [] pos) X.env=(do
   let ov<-eval (.Name x p) X.env
   standAt VO.atName
   let(f,first)<-holding [ov] (getMethod ov m pl)
   callWith pos f first (backTo pos (starEach (e::es) X.env)) (backToKw pos (keywordEach [] X.env))):=by rfl):
  E3 X (.Call (.Attribute (.Name x p) m VO) (e::es) [] pos) (C6 sp t):=PE.mono (Ph cm F hr hg hm hk hb ha V7 V9 V4 ht) λσ H Q' zz=>x7 zz λδ M Q hs hm ht k=>
 ⟨δ,M,_,hs,hm,ht,λvs H1 ds M1 hd VN e1 q1=>⟨ds,M1,Q,hd,VN,q1,vk e1 k⟩⟩
def pX:bootBuiltins "len"=some (.builtin "len"):=by decide+kernel
def QY:bootBuiltins "min"=some (.builtin "min"):=by decide+kernel
def Ct:bootBuiltins "isinstance"=some (.builtin "isinstance"):=by decide+kernel
def Du:bootBuiltins "all"=some (.builtin "all"):=by decide+kernel
def uq:bootBuiltins "tuple"=some (.type "tuple"):=by decide+kernel
def su:bootBuiltins "list"=some (.type "list"):=by decide+kernel
def D4:bootBuiltins "dict"=some (.type "dict"):=by decide+kernel
def Dt:bootBuiltins "enumerate"=some (.type "enumerate"):=by decide+kernel
def Rx:bootBuiltins "zip"=some (.type "zip"):=by decide+kernel
end
theorem _root_.L2.Inv.drawn{ch:List Addr}{T:Addr}{xs:List V}{its:List Vl}{h':Heap}{tk:Nat}(I:Inv X VL σ H s)(WM:∀b∈ch,Ap X VL H b)(k:∀b o,b∉ch->s.heap.get? b=some o->h'.get? b=some o)(hT:s.heap.objs.size<=T)(hx:xs.length<=sizeLine) (rv:qh xs its) (ht:DR h' T its.toArray):Inv X VL σ (upd H T (.tup xs)) {s with heap:=h',toks:=tk}:=by
 have Yb:H T=none:=I.mG.fresh hT;have nT:∀b o,s.heap.get? b=some o->b≠T:=λb o e=>dG (dI (dv e) hT);refine I.step (g':=s.gens) (d':=s.drawn) (ch:=ch) (λb hb=>⟨(WM b hb).2.2.2.1,(WM b hb).2.1,(WM b hb).2.2.2.2.1,(WM b hb).2.2.2.2.2⟩) (λb o _ _ hc e _=>k b o hc e) (λb o _ _ hc e _=>⟨o.slots,k b o hc e⟩) (λb o _ e n=>by rw[pF (nT b o e)];exact n)
  (λb o hc e=>⟨o,k b o hc e⟩) (λb ys e=>by rw[pF (qz e Yb)];exact e) (λb o u e=>by rw[pF (qz e Yb)];exact e) (λb ps e=>⟨#[],by rw[pF (qz e Yb),e];simp⟩) (λm hm=>?_) (λb u e=>?_) I.bare
 .obtain⟨o,es,ep,ho,r⟩:=hm;exact⟨o,es,ep,k _ o (λz=>(WM _ z).2.1 rfl) ho,r⟩
 .by_cases hb:b=T
  .subst hb;rw[pM]at e;cases e;exact⟨hx,its,rv,ht⟩
  .rw[pF hb]at e;refine(I.mG b u e).mV (λc v hc q=>k c v (λz=>?_) q) (λc q=>by rw[pF (qz q Yb)];exact q) (λc ys q=>by rw[pF (qz q Yb)];exact q);have n:=(WM c z).1;rcases hc with y|y
   .rw[y,e]at n;cases n
   .rw[y]at n;cases n
def UA(K:pU)(a:Addr):It:=
 ⟨λi H=>∃xs x,yu K H a xs/\xs[i]?=some x,λi H x H'=>∃p y,x=.ref p/\H p=none/\H'=upd H p (.tup [.int (i:Nat),y])/\∀xs,yu K H a xs->xs[i]?=some y,λi H=>∃xs,yu K H a xs/\xs.length<=i⟩
def IY{P:Pg}{w:Wo}{K:pU}{We:List Expr}{n:Nat}{tp:Pos}(a e it:Addr)(hei:e≠it):F' P w K (.Tuple We n tp) (UA K a) [e,it] e (λi h=>(∃Wx,IsEnum h e it (i:Nat) Wx)/\h.IsListIter it a i) where
 mem:=by simp
 obj:=λi h st b hb=>by
  obtain⟨⟨Wx,he⟩,o,e1,c,d⟩:=st;rcases c9.mp hb with rfl|hb
  .exact⟨_,he,λv z=>by cases z⟩
  .rw[dg.mp hb];exact⟨o,e1,λv z=>by rw[d]at z;cases z⟩
 keep:=λi h h' st k=>by obtain⟨⟨Wx,he⟩,hi⟩:=st;exact⟨⟨Wx,k e (by simp) _ he⟩,hi.at λo q=>k it (by simp) o q⟩
 item:=by
  intro X hP hw hK hc i VL s σ H E I hf st hg;subst hP hw hK;obtain⟨xs,x,hq,hx⟩:=hg;obtain⟨its,rv,p,hz⟩:=I.list hq;obtain⟨u,hu,ru⟩:=rv.get hx;obtain⟨⟨Wx,he⟩,hi⟩:=st;refine wpAny_pyNext_enum_item he hi p.isList (x:=u) (by simpa using hu) hei λh1 ho Xs hT hsz hk=>?_;refine⟨_,rfl,wpAny_letOwnedTupleGo_enum ho λh2 he2 Xu=>?_⟩;have helt:e<s.heap.objs.size:=dv he;have hilt:it<s.heap.objs.size:=by obtain⟨o,q,_⟩:=hi;exact dv q
  have kk:∀b o,b∉[e,it]->s.heap.get? b=some o->h2.get? b=some o:=λb o hb q=>(Xu.2 b λz=>hb (by simp[z])).trans (hk b o (λz=>hb (by simp[z])) (λz=>hb (by simp[z])) q);have hT2:h2.get? s.heap.objs.size=some {cls:=.type "tuple",data:=.seq #[.int (i:Nat) s.toks,u]}:=(Xu.2 _ (gM helt)).trans hT;have Yb:H s.heap.objs.size=none:=I.mG.fresh (de _);have I2:=I.drawn (ch:=[e,it]) (T:=s.heap.objs.size) (xs:=[.int (i:Nat),x]) (its:=[.int (i:Nat) s.toks,u]) (h':=h2) (tk:=s.toks+1) hf kk (de _) (by show 2<=sizeLine;decide) (.cons ⟨_,rfl⟩ (.cons ru .nil)) ⟨_,hT2,rfl,⟨_,rfl⟩,rfl⟩;refine⟨.ref s.heap.objs.size,_,I2,rfl,⟨_,x,rfl,Yb,rfl,λys hy=>by rw[I.nC hy hq];exact hx⟩,⟨⟨_,by simpa using he2⟩,Xs.extBut Xu.extBut (dM hei)⟩,λb hb=>?_⟩;have WH:b<s.heap.objs.size:=by
   rcases c9.mp hb with z|z
   .rw[z];exact helt
   .rw[dg.mp z];exact hilt
  rw[pF (dG WH)];exact(hf b hb).1
 done:=by intro X hP hw hK hc i VL s σ H E I hf st hg;subst hP hw hK;obtain⟨xs,hq,hx⟩:=hg;obtain⟨its,rv,p,hz⟩:=I.list hq;obtain⟨⟨Wx,he⟩,hi⟩:=st;have hl:=rv.length;obtain⟨f0,f1,f2,f3,f4,f5⟩:=hf it (by simp);exact wpAny_pyNext_enum_end (I.ok.hd hc) he hi p.isList (by simp;omega) λh' eb=>⟨rfl,I.turned (t':=s.toks) (λb o hb q=>eb b o hb q) f0 f1 f3 f4 f5⟩
 self:=λ_ _ _ _ _ st h=>by obtain⟨⟨Wx,he⟩,_⟩:=st;exact lj he h
variable {tp:Pos}{We:List Expr}{n:Nat}
def On{a:Expr}{ta:TA}(hg:Gl X "enumerate")(hm:X.mg "enumerate"=none)(ha:PA X [a] ta)(hs:starEach [a] X.env=[(false,eval a X.env)]:=by rfl):
  PI X (.Tuple We n tp) (.Call (.Name "enumerate" p) [a] [] pos) (λσ H R=>ta σ H λvs H1=>∃l,vs=[.ref l]/\(∃xs,yu X.K H1 l xs)/\R (UA X.K l) H1):=by
 intro VL s σ H R I h;refine Call_ (xg I hg hm Dt (fU (rR (ha pos VL s σ H _ I h) λus s1 zz=>x5 zz λvs H1 I1 r1 q1=>?_) hs rfl));obtain⟨l,e,⟨xs,hq⟩,q⟩:=q1;subst e;obtain⟨u,rfl,ru⟩:=xV r1;cases ru;obtain⟨its,rv,pl,hz⟩:=I1.list hq;refine call_enumerate_list pl.isList λh' he hi hsz hk=>?_;refine lj he ?_;have I2:Inv X VL σ H1 {s1 with heap:=h'}:=I1.kept (t':=s1.toks) hk;refine⟨s1.heap.objs.size+1,[s1.heap.objs.size+1,s1.heap.objs.size],_,_,H1,rfl,I2,IY l _ _ (Nat.succ_ne_self _),⟨⟨_,he⟩,hi⟩,λb hb=>?_,q⟩;have WH:s1.heap.objs.size<=b:=by
  rcases c9.mp hb with z|z
  .rw[z];exact gY _
  .rw[dg.mp z];exact de _
 exact I1.nL WH (I1.mG.fresh WH)
def ue:Nat->List D->List D
 | _,[]=>[]
 | i,d::r=>.tup [.int (i:Nat),d]::ue (i+1) r
theorem yJ:∀{ds:List D} {i j:Nat},(ue j ds)[i]?=(ds[i]?).map λd=>D.tup [.int ((j+i:Nat):Int),d]
 | [],i,j=>by simp[ue]
 | d::r,0,j=>by simp[ue]
 | d::r,i+1,j=>by show(ue (j+1) r)[i]?=_;rw[yJ];simp only[List.getElem?_cons_succ];rw[show j+1+i=j+(i+1)by omega]
theorem uQ:∀{ds:List D} {j:Nat},(ue j ds).length=ds.length
 | [],j=>rfl
 | d::r,j=>by simp[ue,uQ]
def LF{K:pU}{H1:Hp}{a:Addr}{ds:List D}:FS K H1 (UA K a) (ue 0 ds) (λM=>oy M a=some ds) where
 go:=λi H M hi hm ok _=>by rw[uQ]at hi;obtain⟨xs,h1,h2,_⟩:=pV hm ok;obtain⟨x,e,_⟩:=h2.get (cT hi);exact⟨xs,x,h1,e⟩
 oq:=λi d H M x H' hd hm ok _ y=>by
  obtain⟨xs,h1,h2,_⟩:=pV hm ok;obtain⟨p,z,rfl,hp,rfl,y⟩:=y;rw[yJ]at hd;cases e:ds[i]? with
  | none=>rw[e]at hd;cases hd
  | some d'=>rw[e]at hd;cases hd;obtain⟨x',e',hx⟩:=h2.get e;have w1:=y xs h1;rw[e']at w1;have w2:x'=z:=df w1;subst w2;have ex:qy K H (upd H p (.tup [.int (i:Nat),x'])):=.new hp;refine⟨.tup (.of pM) (.cons (by rw[ma];exact .int) (.cons (hx.mono ex) .nil)),hm.add hp,ex⟩
 stop:=λH M hm ok _=>by obtain⟨xs,h1,h2,_⟩:=pV hm ok;exact⟨xs,h1,by rw[uQ,h2.length];exact de _⟩
def Qs(t:wU):MK:=λδ M R=>t δ M λds M1=>match ds with
 | [.ref a]=>(oy M1 a).elim False λes=>R (ue 0 es) (λM=>oy M a=some es) M1
 | _=>False
def vO{a:Expr}{ta:wU}(hg:Gl X "enumerate")(hm:X.mg "enumerate"=none)(ha:A3 X [a] ta)(hs:starEach [a] X.env=[(false,eval a X.env)]:=by rfl):I3 X (.Tuple We n tp) (.Call (.Name "enumerate" p) [a] [] pos) (Qs ta):=
 PI.mono (On hg hm ha hs) λσ H R' zz=>x7 zz λδ M R hs hm ht k=>⟨δ,M,_,hs,hm,ht,λvs H1 ds M1 hd VN e1 q1=>by
  split at q1
  .obtain⟨v,rfl,hv⟩:=rQ hd;cases hv.mx;obtain⟨es,e0,q⟩:=qC q1;obtain⟨xs,h1,h2,_⟩:=pV VN e0;exact⟨_,rfl,⟨xs,h1⟩,k _ H1 _ _ M1 LF VN e1 e0 q⟩
  .exact q1.elim⟩
variable {prog:Pg}{A:Ar}{E:Vl→Sd→Prop}
def Gz{it t:Addr}{i:Nat}{its:Array Vl}{x:Vl}{Q:Vl->Sd->Prop}(hi:s.heap.IsTupleIter it t i)(ht:s.heap.IsTuple t its)(hx:its[i]?=some x) (hQ:∀g,g.IsTupleIter it t (i+1)->Heap.SameBut it s.heap g->Q x {s with heap:=g}):wpAny (model prog w) A (Builtin.SmallTypes.nextOf (.ref it)) Q E s:=by
 obtain⟨ob,e1,e2,e3⟩:=id hi;obtain⟨ot,e4,_,nt,e5⟩:=ht;unfold Builtin.SmallTypes.nextOf;refine cS (fK (name:=Str.ofString "__next__") hi.typeIs gF (gg gF hi.typeIs je ?_ (iY _)));show wpAny (model prog w) _ (field (.ref it) 0>>=_) _ _ s;refine cS (e9 e1 e3 (x:=.ref t) rfl ?_);show wpAny (model prog w) _ (if (Value.ref t==Value.none)=true then _ else _) _ _ s;rw[cW (show ¬(Value.ref t==Value.none)=true from dw)];show wpAny (model prog w) _ (field (.ref it) 1>>=_) _ _ s;refine cS (e9 e1 e3 (x:=.int i 0) rfl ?_);show wpAny (model prog w) _ (seqItems? (.ref t)>>=_) _ _ s;refine cS (gv e4 e5 ?_);simp only[ji,hx];refine cS (hZ e1 e3 (by simp) (cZ ⟨x,rfl,cZ (hQ _ ⟨_,fG _ e1 (Obj.isFreed_of_fields (kO e3 _)),(Obj.cls_mapFields ..).trans e2,?_⟩ (ku ..))⟩));rw[kO e3];simp[rawInt]
def Bu{it t:Addr}{i:Nat}{its:Array Vl}{Q:Vl->Sd->Prop}(hh:A.handled=none)(hi:s.heap.IsTupleIter it t i)(ht:s.heap.IsTuple t its)(hx:its[i]?=none) (hE:∀g e,Heap.ExtBut it s.heap g->(∃o,g.get? e=some o/\o.cls=.type "StopIteration")->E (.ref e) {s with heap:=g}):wpAny (model prog w) A (Builtin.SmallTypes.nextOf (.ref it)) Q E s:=by
 obtain⟨ob,e1,e2,e3⟩:=id hi;obtain⟨ot,e4,_,nt,e5⟩:=ht;unfold Builtin.SmallTypes.nextOf;refine cS (fK (name:=Str.ofString "__next__") hi.typeIs gF (gg gF hi.typeIs je ?_ (iY _)));show wpAny (model prog w) _ (field (.ref it) 0>>=_) _ _ s;refine cS (e9 e1 e3 (x:=.ref t) rfl ?_);show wpAny (model prog w) _ (if (Value.ref t==Value.none)=true then _ else _) _ _ s;rw[cW (show ¬(Value.ref t==Value.none)=true from dw)];show wpAny (model prog w) _ (field (.ref it) 1>>=_) _ _ s;refine cS (e9 e1 e3 (x:=.int i 0) rfl ?_);show wpAny (model prog w) _ (seqItems? (.ref t)>>=_) _ _ s;refine cS (gv e4 e5 ?_);simp only[ji,hx];refine cS (j6 (cS (hZ e1 e3 (by simp) ?_)));show wpAny (model prog w) _ (newExc (.type "StopIteration") []>>=_) _ _ _;refine cS ?_;simp only[newExc,newTuple];refine cS (fT ?_ (by size_fits));refine cS (m:=firstArgMember _ _) (wpAny_of_eq (a:=Value.none) (by first|rfl|(simp only[firstArgMember];rfl)) ?_);refine fT ?_ (by size_fits);simp only[raiseNew];refine cS (wpAny_handled ?_)
 first|rw[show A.in1.handled=none from hh]|rw[hh]
 refine cS (cZ (wpAny_throw (hE _ _ (((ku ..).extBut.push _).push _) ⟨_,dF _ rfl,rfl⟩)))
def xB{prog:Pg}{w:Wo}{A:Ar}(hh:A.handled=none)(it t:Addr)(Wc:t≠it)(its:Array Vl):
  Draws prog w A it [it,t] its.size (λi v=>its[i]?=some v) (λi h=>h.IsTupleIter it t i/\h.IsTuple t its) where
 live:=λi h st=>let⟨o,ho,_⟩:=st.1;⟨o,ho⟩
 frame:=λi h g st hk=>by obtain⟨⟨o,e1,e2⟩,⟨o',e3,e4⟩⟩:=st;exact⟨⟨o,hk it (by simp) o e1,e2⟩,⟨o',hk t (by simp) o' e3,e4⟩⟩
 item:=λi s Q E hi st hQ=>Gz st.1 st.2 (x:=its[i]) (by simp[hi]) λg hg hs=>hQ _ g s.toks (by simp[hi]) ⟨hg,st.2.extBut hs.extBut Wc⟩ hs
 done:=λs Q E st hE=>Bu hh st.1 st.2 (by simp) hE
structure zi(z TI TO i1 i2:Addr)(f1 f2:List Addr):Prop where
 a1:TI≠z
 a2:TO≠z
 a3:i1≠z
 a4:i2≠z
 a5:TI≠TO
 a6:TI≠i1
 a7:TI≠i2
 a8:TO≠i1
 a9:TO≠i2
 oM:i1≠i2
 b1:z∉f1
 b2:TO∉f1
 b3:i2∉f1
 c1:z∉f2
 c2:TO∉f2
 c3:i1∉f2
variable {z TI TO i1 i2:Addr}{f1 f2:List Addr}{n1 n2 k1 k2:Nat}{P1 P2:Nat→Vl→Prop}{S1 S2:Nat→Heap→Prop}
section
variable {a b:Vl}
def rH{fp:List Addr}{it:Addr}{n:Nat}{Pt:Nat->Vl->Prop}{St:Nat->Heap->Prop}(Dr:Draws prog w A it fp n Pt St){i:Nat}{h g:Heap}{c:Addr}(st:St i h)(hs:Heap.SameBut c h g)(hc:c∉fp):St i g:=
 Dr.frame _ _ _ st λd hd o e=>(hs.2 d λq=>hc (q ▸ hd)).trans e
def JM{Q:Vl->Sd->Prop}(D1:Draws prog w A i1 f1 n1 P1 S1)(D2:Draws prog w A i2 f2 n2 P2 S2)(V8:zi z TI TO i1 i2 f1 f2)(hz:IsZip s.heap z TI TO .none)(hI:IsPair s.heap TI (.ref i1) (.ref i2))(hO:IsPair s.heap TO a b) (Wt:S1 k1 s.heap) (Wd:S2 k2 s.heap) (l1:k1<n1) (l2:k2<n2) (hQ:∀x y g tk,P1 k1 x->P2 k2 y->IsZip g z TI TO (rawInt s.heap.objs.size)->IsPair g TO x y->S1 (k1+1) g->S2 (k2+1) g->IsPair g s.heap.objs.size x y->g.objs.size=s.heap.objs.size+1->
   (∀c o,c≠z->c≠TO->c≠i1->c≠i2->s.heap.get? c=some o->g.get? c=some o)->Q (.ref s.heap.objs.size) {s with heap:=g,toks:=tk}):
  wpAny (model prog w) A (Builtin.«zip.__next__» ⟨[.ref z],[]⟩) (λVP s'=>∃v,VP=.done (.ret v)/\Q v s') E s:=by
 show wpAny (model prog w) A (field (.ref z) 2>>=_) _ _ _;refine cS (e9 hz rfl (x:=.bool false) rfl ?_);show wpAny (model prog w) A (field (.ref z) 3>>=_) _ _ _;refine cS (e9 hz rfl (x:=.ref TI) rfl (cS (gv hI rfl ?_)));show wpAny (model prog w) A (Builtin.SmallTypes.ownedTupleIsFree (.ref z)>>=_) _ _ _;refine cS ?_;unfold Builtin.SmallTypes.ownedTupleIsFree;refine cS (e9 hz rfl (x:=.none) rfl (cZ ?_));simp only[iV];refine cS (j6 (cS (e9 hz rfl (x:=.ref TO) rfl (cS (gy hz (by simp) λg1 z1 XD=>?_)))));replace z1:IsZip g1 z TI TO .ellipsis:=z1;refine cS ?_;simp only[lK,lT,jJ,jT];refine cS (cS (iA ?_));show wpAny (model prog w) A (Builtin.SmallTypes.nextOf (.ref i1)>>=_) _ _ _;have XE:S1 k1 g1:=rH D1 Wt XD V8.b1;refine cS (D1.item k1 _ _ _ l1 XE λx g2 tk2 px st1b WP=>cZ ?_);replace WP:Heap.SameBut i1 g1 g2:=WP;have o2:IsPair g2 TO a b:=WP.extBut _ _ V8.a8 (XD.extBut _ _ V8.a2 hO);refine cS (gv o2 rfl (cS (iI o2 λg3 o3 WX=>?_)));replace o3:IsPair g3 TO x b:=o3;replace WX:Heap.SameBut TO g2 g3:=WX;refine cS (ly (cZ (cS (cS (iA ?_)))));show wpAny (model prog w) A (Builtin.SmallTypes.nextOf (.ref i2)>>=_) _ _ _;have Yc:S2 k2 g3:=rH D2 (rH D2 (rH D2 Wd XD V8.c1) WP V8.c3) WX V8.c2;refine cS (D2.item k2 _ _ _ l2 Yc λy g4 tk4 py st2b XQ=>cZ ?_);replace XQ:Heap.SameBut i2 g3 g4:=XQ;have o4:IsPair g4 TO x b:=XQ.extBut _ _ V8.a9 o3;refine cS (gv o4 rfl (cS (iI o4 λg5 o5 XS=>?_)));replace o5:IsPair g5 TO x y:=o5;replace XS:Heap.SameBut TO g4 g5:=XS;refine cS (ly (cZ (cZ (cS (gv o5 rfl (cS (wpAny_newTuple ?_)))))));have esz:g5.objs.size=s.heap.objs.size:=by rw[XS.1,XQ.1,WX.1,WP.1,XD.1]
 have z5:IsZip g5 z TI TO .ellipsis:=XS.extBut _ _ V8.a2.symm (XQ.extBut _ _ V8.a4.symm (WX.extBut _ _ V8.a2.symm (WP.extBut _ _ V8.a3.symm z1)));have kp:∀c o,c≠z->c≠TO->c≠i1->c≠i2->s.heap.get? c=some o->g5.get? c=some o:=λc o q1 q2 q3 q4 q=>XS.extBut _ _ q2 (XQ.extBut _ _ q4 (WX.extBut _ _ q2 (WP.extBut _ _ q3 (XD.extBut _ _ q1 q))));have st1c:S1 (k1+1) g5:=rH D1 (rH D1 (rH D1 st1b WX V8.b2) XQ V8.b3) XS V8.b2;have st2c:S2 (k2+1) g5:=rH D2 st2b XS V8.c2;have zlt:z<g5.objs.size:=dv z5;show wpAny (model prog w) A (Builtin.SmallTypes.ownedTupleHandOut (.ref z) (.ref g5.objs.size)>>=_) _ _ _;refine cS ?_;unfold Builtin.SmallTypes.ownedTupleHandOut;have z6:IsZip (g5.push {cls:=.type "tuple",data:=.seq #[x,y]}) z TI TO .ellipsis:=cX _ z5;refine cS (gy z6 (by simp) λg7 z7 sb7=>?_);replace z7:IsZip g7 z TI TO (rawInt g5.objs.size):=z7;refine gy z7 (by simp) λg8 z8 sb8=>?_;replace z8:IsZip g8 z TI TO (rawInt g5.objs.size):=z8;have up:∀c o,c≠z->g5.get? c=some o->g8.get? c=some o:=λc o q1 q=>sb8.extBut _ _ q1 (sb7.extBut _ _ q1 (cX _ q));have tu:IsPair g8 g5.objs.size x y:=sb8.extBut _ _ (gM zlt) (sb7.extBut _ _ (gM zlt) (dF _ rfl));have es8:g8.objs.size=g5.objs.size+1:=by rw[sb8.1,sb7.1,fm]
 rw[esz]at z8 tu es8;refine cZ ⟨_,rfl,?_⟩;show Q (.ref g5.objs.size) _;rw[esz];exact hQ x y g8 _ px py z8 (up _ _ V8.a2 o5) (D1.frame _ _ _ st1c λc hc o q=>up c o (λr=>V8.b1 (r ▸ hc)) q) (D2.frame _ _ _ st2c λc hc o q=>up c o (λr=>V8.c1 (r ▸ hc)) q) tu es8 λc o q1 q2 q3 q4 q=>up c o q1 (kp c o q1 q2 q3 q4 q)
def L8{Q:Fin->Sd->Prop}(D1:Draws prog w A i1 f1 n1 P1 S1)(D2:Draws prog w A i2 f2 n2 P2 S2)(V8:zi z TI TO i1 i2 f1 f2)(hz:IsZip s.heap z TI TO .none)(hI:IsPair s.heap TI (.ref i1) (.ref i2))(hO:IsPair s.heap TO a b) (Wt:S1 k1 s.heap) (Wd:S2 k1 s.heap) (YV:k1=n1\/(k1<n1/\k1=n2)) (hE:∀g e,(∀c o,c≠z->c≠TO->c≠i1->c≠i2->s.heap.get? c=some o->g.get? c=some o)->(∃o,g.get? e=some o/\o.cls=.type "StopIteration")->∀tk,E (.ref e) {s with heap:=g,toks:=tk}):
  wpAny (model prog w) A (Builtin.«zip.__next__» ⟨[.ref z],[]⟩) Q E s:=by
 show wpAny (model prog w) A (field (.ref z) 2>>=_) _ _ _;refine cS (e9 hz rfl (x:=.bool false) rfl ?_);show wpAny (model prog w) A (field (.ref z) 3>>=_) _ _ _;refine cS (e9 hz rfl (x:=.ref TI) rfl (cS (gv hI rfl ?_)));show wpAny (model prog w) A (Builtin.SmallTypes.ownedTupleIsFree (.ref z)>>=_) _ _ _;refine cS ?_;unfold Builtin.SmallTypes.ownedTupleIsFree;refine cS (e9 hz rfl (x:=.none) rfl (cZ ?_));simp only[iV];refine cS (j6 (cS (e9 hz rfl (x:=.ref TO) rfl (cS (gy hz (by simp) λg1 z1 XD=>?_)))));replace z1:IsZip g1 z TI TO .ellipsis:=z1;refine cS ?_;simp only[lK,lT,jJ,jT];refine cS (cS (iA ?_));show wpAny (model prog w) A (Builtin.SmallTypes.nextOf (.ref i1)>>=_) _ _ _;have XE:S1 k1 g1:=rH D1 Wt XD V8.b1;rcases YV with he|⟨VX,he⟩
 .rw[he]at XE;refine cS (D1.done _ _ _ XE λg2 e WP hx=>?_);obtain⟨oe,g,YW⟩:=hx;have z2:IsZip g2 z TI TO .ellipsis:=WP _ _ V8.a3.symm z1;have hez:e≠z:=λq=>by subst q;rw[z2]at g;cases g;simp at YW
  exact gy z2 (by simp) λg3 _ WX=>hE g3 e (λc o q1 _ q3 _ q=>WX.extBut _ _ q1 (WP _ _ q3 (XD.extBut _ _ q1 q))) ⟨oe,WX.extBut _ _ hez g,YW⟩ _
 .refine cS (D1.item k1 _ _ _ VX XE λx g2 tk2 px st1b WP=>cZ ?_);replace WP:Heap.SameBut i1 g1 g2:=WP;have o2:IsPair g2 TO a b:=WP.extBut _ _ V8.a8 (XD.extBut _ _ V8.a2 hO);refine cS (gv o2 rfl (cS (iI o2 λg3 o3 WX=>?_)));replace WX:Heap.SameBut TO g2 g3:=WX;refine cS (ly (cZ (cS (cS (iA ?_)))));show wpAny (model prog w) A (Builtin.SmallTypes.nextOf (.ref i2)>>=_) _ _ _;have Yc:S2 k1 g3:=rH D2 (rH D2 (rH D2 Wd XD V8.c1) WP V8.c3) WX V8.c2;rw[he]at Yc;refine cS (D2.done _ _ _ Yc λg4 e XQ hx=>?_);obtain⟨oe,g,YW⟩:=hx;have z4:IsZip g4 z TI TO .ellipsis:=XQ _ _ V8.a4.symm (WX.extBut _ _ V8.a2.symm (WP.extBut _ _ V8.a3.symm z1));have hez:e≠z:=λq=>by subst q;rw[z4]at g;cases g;simp at YW
  exact gy z4 (by simp) λg5 _ XS=>hE g5 e (λc o q1 q2 q3 q4 q=>XS.extBut _ _ q1 (XQ _ _ q4 (WX.extBut _ _ q2 (WP.extBut _ _ q3 (XD.extBut _ _ q1 q))))) ⟨oe,XS.extBut _ _ hez g,YW⟩ _
end
abbrev TU(h:Heap)(t:Addr):Heap:=h.push {cls:=.type "tuple_iterator",data:=.fields #[.ref t,.int 0 0]}
abbrev T6(h:Heap)(t u:Addr):Heap:=(TU h t).push {cls:=.type "tuple_iterator",data:=.fields #[.ref u,.int 0 0]}
abbrev TZ(h:Heap)(t u:Addr):Heap:=(T6 h t u).push {cls:=.type "tuple",data:=.seq #[.ref h.objs.size,.ref (TU h t).objs.size]}
abbrev T5(h:Heap)(t u:Addr):Heap:=(TZ h t u).push {cls:=.type "tuple",data:=.seq #[.none,.none]}
abbrev R0(h:Heap)(t u:Addr):Heap:=(T5 h t u).push {cls:=.type "zip",data:=.fields #[.none,.bool false,.bool false,.ref (T6 h t u).objs.size,.ref (TZ h t u).objs.size]}
def CA(t u:Addr)(xs ys:Array Vl):
  Meets (Builtin.«zip.__new__» ⟨[.type "zip",.ref t,.ref u],[]⟩) (λ_ R s=>s.heap.IsTuple t xs/\s.heap.IsTuple u ys/\R (.ok (.ret (.ref (T5 s.heap t u).objs.size))) {s with heap:=R0 s.heap t u}):=
 .of_wp λprog w A R s h=>by
  obtain⟨hp,g,d,tk,os⟩:=s;obtain⟨e1,e2,h⟩:=h;have XA:=sub_zip;have q1:Heap.IsTuple (Shared.heap ⟨hp,g,d,tk,os⟩) t xs:=e1;have q2:Heap.IsTuple (Shared.heap ⟨hp.push {cls:=.type "tuple_iterator",data:=.fields #[.ref t,.int 0 0]},g,d,tk,os⟩) u ys:=Heap.IsTuple.push e2 _
  wp_walk using ip q1,ip q2
  exact⟨_,rfl,h⟩
def EC{t u:Addr}{xs ys:Array Vl}{Q:Vl->Sd->Prop}(ht:s.heap.IsTuple t xs)(hu:s.heap.IsTuple u ys) (h:∀g,IsZip g (s.heap.objs.size+4) (s.heap.objs.size+2) (s.heap.objs.size+3) .none->IsPair g (s.heap.objs.size+2) (.ref s.heap.objs.size) (.ref (s.heap.objs.size+1))->IsPair g (s.heap.objs.size+3) .none .none->
   g.IsTupleIter s.heap.objs.size t 0->g.IsTupleIter (s.heap.objs.size+1) u 0->(∀c o,s.heap.get? c=some o->g.get? c=some o)->Q (.ref (s.heap.objs.size+4)) {s with heap:=g}):
  wpAny (model prog w) A (call (.type "zip") [.ref t,.ref u]) Q E s:=by
 refine callType_new F.called_zip (by decide) (F.typeCall_zip_2 _ _) (F.newCall_zip_2 _ _) (λobj=>F.args_object_init_3 obj _ _) F.entry_zip_new (CA t u xs ys) ⟨ht,hu,?_⟩;have m1:(TU s.heap t).objs.size=s.heap.objs.size+1:=fm ..;have m2:(T6 s.heap t u).objs.size=s.heap.objs.size+2:=by rw[fm,m1]
 have m3:(TZ s.heap t u).objs.size=s.heap.objs.size+3:=by rw[fm,m2]
 have m4:(T5 s.heap t u).objs.size=s.heap.objs.size+4:=by rw[fm,m3]
 have up:∀{h:Heap} {c:Addr} {o p:Obj},h.get? c=some o->(h.push p).get? c=some o:=λq=>cX _ q;have r5:(R0 s.heap t u).get? (T5 s.heap t u).objs.size=some _:=dF _ rfl;have r4:(R0 s.heap t u).get? (TZ s.heap t u).objs.size=some _:=up (dF _ rfl);have r3:(R0 s.heap t u).get? (T6 s.heap t u).objs.size=some _:=up (up (dF _ rfl));have r2:(R0 s.heap t u).get? (TU s.heap t).objs.size=some _:=up (up (up (dF _ rfl)));have r1:(R0 s.heap t u).get? s.heap.objs.size=some _:=up (up (up (up (dF _ rfl))));show _/\_;rw[m2,m3,m4]at r5;rw[m1,m2]at r3;rw[m3]at r4;rw[m1]at r2;rw[m4];exact⟨⟨_,r5,rfl⟩,h _ r5 r3 r4 ⟨_,r1,rfl,rfl⟩ ⟨_,r2,rfl,rfl⟩ λc o q=>up (up (up (up (up q))))⟩
def FD{z TI TO i1 i2:Addr}{f1 f2:List Addr}{n1 n2 k:Nat}{P1 P2:Nat->Vl->Prop}{S1 S2:Nat->Heap->Prop}{a b:Vl}{Q:Option Vl->Sd->Prop}(D1:Draws prog w A.in1 i1 f1 n1 P1 S1)(D2:Draws prog w A.in1 i2 f2 n2 P2 S2)(V8:zi z TI TO i1 i2 f1 f2) (hz:IsZip s.heap z TI TO .none) (hI:IsPair s.heap TI (.ref i1) (.ref i2)) (hO:IsPair s.heap TO a b) (Wt:S1 k s.heap) (Wd:S2 k s.heap) (l1:k<n1) (l2:k<n2) (hQ:∀x y g tk,P1 k x->P2 k y->IsZip g z TI TO (rawInt s.heap.objs.size)->IsPair g TO x y->S1 (k+1) g->S2 (k+1) g->IsPair g s.heap.objs.size x y->g.objs.size=s.heap.objs.size+1->
   (∀c o,c≠z->c≠TO->c≠i1->c≠i2->s.heap.get? c=some o->g.get? c=some o)->Q (some (.ref s.heap.objs.size)) {s with heap:=g,toks:=tk}):wpAny (model prog w) A (pyNext (.ref z)) Q E s:=by
 have hT:s.TypeIs (.ref z) "zip":=⟨_,hz,rfl⟩;unfold pyNext;refine cS (kl (fK (name:=Str.ofString "__next__") hT iJ (gg iJ hT lL ?_ (ls _))));exact JM D1 D2 V8 hz hI hO Wt Wd l1 l2 λx y g tk q1 q2 q3 q4 q5 q6 q7 q8 q9=>cZ (hQ x y g tk q1 q2 q3 q4 q5 q6 q7 q8 q9)
def zV{z TI TO i1 i2:Addr}{f1 f2:List Addr}{n1 n2 k:Nat}{P1 P2:Nat->Vl->Prop}{S1 S2:Nat->Heap->Prop}{a b:Vl}{Q:Option Vl->Sd->Prop}(D1:Draws prog w A.in1 i1 f1 n1 P1 S1)(D2:Draws prog w A.in1 i2 f2 n2 P2 S2)(V8:zi z TI TO i1 i2 f1 f2) (hz:IsZip s.heap z TI TO .none) (hI:IsPair s.heap TI (.ref i1) (.ref i2)) (hO:IsPair s.heap TO a b) (Wt:S1 k s.heap) (Wd:S2 k s.heap) (YV:k=n1\/(k<n1/\k=n2)) (hQ:∀g tk,(∀c o,c≠z->c≠TO->c≠i1->c≠i2->s.heap.get? c=some o->g.get? c=some o)->Q none {s with heap:=g,toks:=tk}):wpAny (model prog w) A (pyNext (.ref z)) Q E s:=by
 have hT:s.TypeIs (.ref z) "zip":=⟨_,hz,rfl⟩;unfold pyNext;refine cS (kl (fK (name:=Str.ofString "__next__") hT iJ (gg iJ hT lL (L8 D1 D2 V8 hz hI hO Wt Wd YV λg e kp hx tk=>?_) (ls _))));obtain⟨o,e1,e2⟩:=hx;exact cS (wpAny_isInstance (T:="StopIteration") (b:=true) ⟨o,e1,e2⟩ isSubtype_stop (cZ (hQ g tk kp)))
def Ez{a b:Addr}{xs:List V}(I:Inv X VL σ H s)(f:Ap X VL H b)(q:uG X.K H a xs):a≠b:=by
 rintro rfl
 rcases q with q|⟨o,its,n,hk,_⟩
 .have z:=f.1;rcases q with q|⟨u,q⟩<;>(rw[q]at z;cases z)
 .have e:=I.mod.oh a o hk;rcases f.2.2.2.1 with z|z
  .exact I.ok.nF a o e z
  .exact absurd (dI (dv e) (dX I.ok.nN z)) (eY _)
def UM(K:pU)(a b:Addr):It:=
 ⟨λi H=>∃xs ys x y,uG K H a xs/\uG K H b ys/\xs[i]?=some x/\ys[i]?=some y,λi H v H'=>∃p x y,v=.ref p/\H p=none/\H'=upd H p (.tup [x,y])/\(∀xs,uG K H a xs->xs[i]?=some x)/\(∀ys,uG K H b ys->ys[i]?=some y),λi H=>∃xs ys,uG K H a xs/\uG K H b ys/\i=min xs.length ys.length⟩
def Mr{P:Pg}{w:Wo}{K:pU}{We:List Expr}{n:Nat}{tp:Pos}(a b z TI TO i1 i2:Addr)(a1:TI≠z)(a2:TO≠z)(a3:i1≠z)(a4:i2≠z)(a5:TI≠TO)(a6:TI≠i1)(a7:TI≠i2)(a8:TO≠i1)(a9:TO≠i2)(oM:i1≠i2):
  F' P w K (.Tuple We n tp) (UM K a b) [z,TI,TO,i1,i2] z (λi h=>IsZip h z TI TO .none/\IsPair h TI (.ref i1) (.ref i2)/\(∃u v,IsPair h TO u v)/\h.IsTupleIter i1 a i/\h.IsTupleIter i2 b i) where
 mem:=by simp
 obj:=λi h st c hc=>by
  obtain⟨h1,h2,⟨u,v,h3⟩,⟨o4,h4,_,d4⟩,⟨o5,h5,_,d5⟩⟩:=st;simp only[c9,dB,eU]at hc;rcases hc with rfl|rfl|rfl|rfl|rfl
  .exact⟨_,h1,λv z=>by cases z⟩
  .exact⟨_,h2,λv z=>by cases z⟩
  .exact⟨_,h3,λv z=>by cases z⟩
  .exact⟨_,h4,λv z=>by rw[d4]at z;cases z⟩
  .exact⟨_,h5,λv z=>by rw[d5]at z;cases z⟩
 keep:=λi h h' st k=>by obtain⟨h1,h2,⟨u,v,h3⟩,⟨o4,h4,c4⟩,⟨o5,h5,c5⟩⟩:=st;exact⟨k z (by simp) _ h1,k TI (by simp) _ h2,⟨u,v,k TO (by simp) _ h3⟩,⟨o4,k i1 (by simp) _ h4,c4⟩,⟨o5,k i2 (by simp) _ h5,c5⟩⟩
 item:=by
  intro X hP hw hK hc i VL s σ H E I hf st hg;subst hP hw hK;obtain⟨xs,ys,x,y,hx,hy,ex,ey⟩:=hg;obtain⟨its,rx,px,_⟩:=I.tuple hx;obtain⟨XN,ry,py,_⟩:=I.tuple hy;obtain⟨u,eu,ru⟩:=rx.get ex;obtain⟨v,ev,rv⟩:=ry.get ey;obtain⟨h1,h2,⟨p,q,h3⟩,h4,h5⟩:=st;have hh:X.A.in1.handled=none:=I.ok.hd hc;have fa:∀c∈[z,TI,TO,i1,i2],a≠c:=λc hc=>Ez I (hf c hc) hx;have fb:∀c∈[z,TI,TO,i1,i2],b≠c:=λc hc=>Ez I (hf c hc) hy;have V8:zi z TI TO i1 i2 [i1,a] [i2,b]:=⟨a1,a2,a3,a4,a5,a6,a7,a8,a9,oM,by
   simp only[c9,dB,eU,fJ];exact⟨dM a3,dM (fa z (by simp))⟩,by
   simp only[c9,dB,eU,fJ];exact⟨a8,dM (fa TO (by simp))⟩,by
   simp only[c9,dB,eU,fJ];exact⟨dM oM,dM (fa i2 (by simp))⟩,by
   simp only[c9,dB,eU,fJ];exact⟨dM a4,dM (fb z (by simp))⟩,by
   simp only[c9,dB,eU,fJ];exact⟨a9,dM (fb TO (by simp))⟩,by
   simp only[c9,dB,eU,fJ];exact⟨oM,dM (fb i1 (by simp))⟩⟩
  have l1:i<its.toArray.size:=by
   have:=(cV.mp eu).1
   simpa using this
  have l2:i<XN.toArray.size:=by
   have:=(cV.mp ev).1
   simpa using this
  refine FD (xB hh i1 a (fa i1 (by simp)) its.toArray) (xB hh i2 b (fb i2 (by simp)) XN.toArray) V8 h1 h2 h3 ⟨h4,px⟩ ⟨h5,py⟩ l1 l2 λx' y' g tk e1 e2 z1 o1 s1 s2 t1 sz kp=>?_;have e1':x'=u:=by
   have:its[i]?=some x':=by simpa using e1
   rw[eu]at this;exact(df this).symm
  have X3:y'=v:=by
   have:XN[i]?=some y':=by simpa using e2
   rw[ev]at this;exact(df this).symm
  subst e1' X3;refine⟨_,rfl,wpAny_letOwnedTupleGo_zip z1 λg2 z2 sb=>?_⟩;have zlt:z<s.heap.objs.size:=dv h1;have kk:∀c o,c∉[z,TI,TO,i1,i2]->s.heap.get? c=some o->g2.get? c=some o:=λc o hc e=>by simp only[c9,dB,eU,fJ]at hc;exact(sb.2 c hc.1).trans (kp c o hc.1 hc.2.2.1 hc.2.2.2.1 hc.2.2.2.2 e)
  have t2:g2.get? s.heap.objs.size=some {cls:=.type "tuple",data:=.seq #[x',y']}:=(sb.2 _ (gM zlt)).trans t1;have Yb:H s.heap.objs.size=none:=I.mG.fresh (de _);have I2:=I.drawn (ch:=[z,TI,TO,i1,i2]) (T:=s.heap.objs.size) (xs:=[x,y]) (its:=[x',y']) (h':=g2) (tk:=tk) hf kk (de _) (by show 2<=sizeLine;decide) (.cons ru (.cons rv .nil)) ⟨_,t2,rfl,⟨_,rfl⟩,rfl⟩;refine⟨.ref s.heap.objs.size,_,I2,rfl,⟨_,x,y,rfl,Yb,rfl,λxs' hx'=>by rw[I.mU hx' hx];exact ex,λys' hy'=>by rw[I.mU hy' hy];exact ey⟩,?_,λc hc=>?_⟩
  .obtain⟨o4,g4,c4⟩:=s1.1;obtain⟨o5,g5,c5⟩:=s2.1;exact⟨z2,(sb.2 _ a1).trans (kp _ _ a1 a5 a6 a7 h2),⟨_,_,(sb.2 _ a2).trans o1⟩,⟨o4,(sb.2 _ a3).trans g4,c4⟩,⟨o5,(sb.2 _ a4).trans g5,c5⟩⟩
  .have n0:=(hf c hc).1;obtain⟨o,eo⟩:∃o,s.heap.get? c=some o:=by
    obtain⟨o4,g4,_⟩:=h4;obtain⟨o5,g5,_⟩:=h5;simp only[c9,dB,eU]at hc;rcases hc with rfl|rfl|rfl|rfl|rfl
    .exact⟨_,h1⟩
    .exact⟨_,h2⟩
    .exact⟨_,h3⟩
    .exact⟨_,g4⟩
    .exact⟨_,g5⟩
   rw[pF (dG (dv eo))];exact n0
 done:=by
  intro X hP hw hK hc i VL s σ H E I hf st hg;subst hP hw hK;obtain⟨xs,ys,hx,hy,hi⟩:=hg;obtain⟨its,rx,px,_⟩:=I.tuple hx;obtain⟨XN,ry,py,_⟩:=I.tuple hy;obtain⟨h1,h2,⟨p,q,h3⟩,h4,h5⟩:=st;have hh:X.A.in1.handled=none:=I.ok.hd hc;have fa:∀c∈[z,TI,TO,i1,i2],a≠c:=λc hc=>Ez I (hf c hc) hx;have fb:∀c∈[z,TI,TO,i1,i2],b≠c:=λc hc=>Ez I (hf c hc) hy;have V8:zi z TI TO i1 i2 [i1,a] [i2,b]:=⟨a1,a2,a3,a4,a5,a6,a7,a8,a9,oM,by
   simp only[c9,dB,eU,fJ];exact⟨dM a3,dM (fa z (by simp))⟩,by
   simp only[c9,dB,eU,fJ];exact⟨a8,dM (fa TO (by simp))⟩,by
   simp only[c9,dB,eU,fJ];exact⟨dM oM,dM (fa i2 (by simp))⟩,by
   simp only[c9,dB,eU,fJ];exact⟨dM a4,dM (fb z (by simp))⟩,by
   simp only[c9,dB,eU,fJ];exact⟨a9,dM (fb TO (by simp))⟩,by
   simp only[c9,dB,eU,fJ];exact⟨oM,dM (fb i1 (by simp))⟩⟩
  have e1:=rx.length;have e2:=ry.length;refine zV (xB hh i1 a (fa i1 (by simp)) its.toArray) (xB hh i2 b (fb i2 (by simp)) XN.toArray) V8 h1 h2 h3 ⟨h4,px⟩ ⟨h5,py⟩ (by simp only[dh];omega) λg tk kp=>⟨rfl,?_⟩;have kk:∀c o,c∉[z,TI,TO,i1,i2]->s.heap.get? c=some o->g.get? c=some o:=λc o hc e=>by simp only[c9,dB,eU,fJ]at hc;exact kp c o hc.1 hc.2.2.1 hc.2.2.2.1 hc.2.2.2.2 e
  refine I.step (g':=s.gens) (d':=s.drawn) (t':=tk) (ch:=[z,TI,TO,i1,i2]) (λc hc=>⟨(hf c hc).2.2.2.1,(hf c hc).2.1,(hf c hc).2.2.2.2.1,(hf c hc).2.2.2.2.2⟩) ?_ ?_ (λc o _ e n=>n) ?_ (λ_ _ e=>e) (λ_ _ _ e=>e) (λc ps e=>⟨#[],by rw[e];simp⟩) ?_ ?_ I.bare
  .exact λc o _ _ hc e _=>kk c o hc e
  .exact λc o _ _ hc e _=>⟨o.slots,kk c o hc e⟩
  .exact λc o hc e=>⟨o,kk c o hc e⟩
  .intro m hm;obtain⟨o,es,ep,ho,r⟩:=hm;exact⟨o,es,ep,kk _ o (λy=>(hf _ y).2.1 rfl) ho,r⟩
  .intro c u e;refine(I.mG c u e).mV (λd v hd q=>kk d v (λy=>?_) q) (λ_ q=>q) λ_ _ q=>q;have n:=(hf d y).1;rcases hd with x|x
   .rw[x,e]at n;cases n
   .rw[x]at n;cases n
 self:=λ_ _ _ _ _ st h=>lM st.1 h
def RN{a b:Expr}{ta:TA}(hg:Gl X "zip")(hm:X.mg "zip"=none)(ha:PA X [a,b] ta)(hs:starEach [a,b] X.env=[(false,eval a X.env),(false,eval b X.env)]:=by rfl)(Xu:starEach [b] X.env=[(false,eval b X.env)]:=by rfl):
  PI X (.Tuple We n tp) (.Call (.Name "zip" p) [a,b] [] pos) (λσ H R=>ta σ H λvs H1=>∃l m,vs=[.ref l,.ref m]/\(∃xs,uG X.K H1 l xs)/\(∃xs,uG X.K H1 m xs)/\R (UM X.K l m) H1):=by
 intro VL s σ H R I h;refine Call_ (xg I hg hm Rx (fU (rR (ha pos VL s σ H _ I h) λus s1 zz=>x5 zz λvs H1 I1 r1 q1=>?_) (by rw[hs,Xu]) (by rw[Xu];rfl)));obtain⟨l,m,e,⟨xs,hx⟩,⟨ys,hy⟩,q⟩:=q1;subst e;obtain⟨u,v,rfl,ru,rv⟩:=LY r1;cases ru;cases rv;obtain⟨its,_,px,_⟩:=I1.tuple hx;obtain⟨XN,_,py,_⟩:=I1.tuple hy;refine EC px py λg h1 h2 h3 h4 h5 hk=>lM h1 ?_;have I2:Inv X VL σ H1 {s1 with heap:=g}:=I1.kept (t':=s1.toks) hk;refine⟨s1.heap.objs.size+4,[s1.heap.objs.size+4,s1.heap.objs.size+2,s1.heap.objs.size+3,s1.heap.objs.size,s1.heap.objs.size+1],_,_,H1,rfl,I2,Mr l m _ _ _ _ _ ?_ ?_ ?_ ?_ ?_ ?_ ?_ ?_ ?_ ?_,⟨h1,h2,⟨_,_,h3⟩,h4,h5⟩,λb hb=>?_,q⟩
 .exact λz=>by have z:s1.heap.objs.size+2=s1.heap.objs.size+4:=z;omega
 .exact λz=>by have z:s1.heap.objs.size+3=s1.heap.objs.size+4:=z;omega
 .exact λz=>by have z:s1.heap.objs.size=s1.heap.objs.size+4:=z;omega
 .exact λz=>by have z:s1.heap.objs.size+1=s1.heap.objs.size+4:=z;omega
 .exact λz=>by have z:s1.heap.objs.size+2=s1.heap.objs.size+3:=z;omega
 .exact λz=>by have z:s1.heap.objs.size+2=s1.heap.objs.size:=z;omega
 .exact λz=>by have z:s1.heap.objs.size+2=s1.heap.objs.size+1:=z;omega
 .exact λz=>by have z:s1.heap.objs.size+3=s1.heap.objs.size:=z;omega
 .exact λz=>by have z:s1.heap.objs.size+3=s1.heap.objs.size+1:=z;omega
 .exact λz=>by have z:s1.heap.objs.size=s1.heap.objs.size+1:=z;omega
 .have WH:s1.heap.objs.size<=b:=by
   simp only[c9,dB,eU]at hb;rcases hb with rfl|rfl|rfl|rfl|rfl
   .exact iB _ _
   .exact iB _ _
   .exact iB _ _
   .exact de _
   .exact iB _ _
  exact I1.nL WH (I1.mG.fresh WH)
def Ac:List D->List D->List D
 | x::a,y::b=>.tup [x,y]::Ac a b
 | _,_=>[]
theorem HE:∀{ds es:List D} {i:Nat},(Ac ds es)[i]?=(ds[i]?).bind λd=>(es[i]?).map λe=>D.tup [d,e]
 | [],es,i=>by simp[Ac]
 | d::ds,[],i=>by simp[Ac]
 | d::ds,e::es,0=>by simp[Ac]
 | d::ds,e::es,i+1=>by show(Ac ds es)[i]?=_;rw[HE];simp
theorem Ej:∀{ds es:List D},(Ac ds es).length=min ds.length es.length
 | [],es=>by simp[Ac]
 | d::ds,[]=>by simp[Ac]
 | d::ds,e::es=>by show(Ac ds es).length+1=_;rw[Ej];simp only[dY];omega
def OR{K:pU}{H1:Hp}{a b:Addr}{ds es:List D}{xs ys:List V}(h1:uG K H1 a xs)(h2:pP K H1 ds xs)(g1:uG K H1 b ys)(g2:pP K H1 es ys):FS K H1 (UM K a b) (Ac ds es) (λ_=>True) where
 go:=λi H M hi hm ok e1=>by rw[Ej]at hi;obtain⟨x,ex,_⟩:=h2.get (cT (show i<ds.length by omega));obtain⟨y,ey,_⟩:=g2.get (cT (show i<es.length by omega));exact⟨xs,ys,x,y,e1.t _ _ h1,e1.t _ _ g1,ex,ey⟩
 oq:=λi d H M v H' hd hm ok e1 y=>by
  obtain⟨p,x,z,rfl,hp,rfl,y1,y2⟩:=y;rw[HE]at hd;cases e:ds[i]? with
  | none=>rw[e]at hd;cases hd
  | some d'=>
   cases e':es[i]? with
   | none=>rw[e,e']at hd;cases hd
   | some d''=>rw[e,e']at hd;cases hd;obtain⟨x',q1,hx⟩:=h2.get e;obtain⟨z',q2,hz⟩:=g2.get e';have w1:=y1 xs (e1.t _ _ h1);have w2:=y2 ys (e1.t _ _ g1);rw[q1]at w1;rw[q2]at w2;have v1:x'=x:=df w1;have v2:z'=z:=df w2;subst v1 v2;have ex:qy K H (upd H p (.tup [x',z'])):=.new hp;exact⟨.tup (.of pM) (.cons (hx.mono (e1.trans ex)) (.cons (hz.mono (e1.trans ex)) .nil)),hm.add hp,ex⟩
 stop:=λH M hm ok e1=>⟨xs,ys,e1.t _ _ h1,e1.t _ _ g1,by rw[Ej,h2.length,g2.length]⟩
def Tg(t:wU):MK:=λδ M R=>t δ M λds M1=>match ds with
 | [.tup a,.tup b]=>R (Ac a b) (λ_=>True) M1
 | _=>False
def Qr{a b:Expr}{ta:wU}(hg:Gl X "zip")(hm:X.mg "zip"=none)(ha:A3 X [a,b] ta)(hs:starEach [a,b] X.env=[(false,eval a X.env),(false,eval b X.env)]:=by rfl)(Xu:starEach [b] X.env=[(false,eval b X.env)]:=by rfl):
  I3 X (.Tuple We n tp) (.Call (.Name "zip" p) [a,b] [] pos) (Tg ta):=
 PI.mono (RN hg hm ha hs Xu) λσ H R' zz=>x7 zz λδ M R hs hm ht k=>⟨δ,M,_,hs,hm,ht,λvs H1 ds M1 hd VN e1 q1=>by
  split at q1
  .obtain⟨v,u,rfl,hv,hw⟩:=DQ hd;obtain⟨l,xs,rfl,h1,h2⟩:=hv.mE;obtain⟨m,ys,rfl,g1,g2⟩:=hw.mE;exact⟨l,m,rfl,⟨xs,h1⟩,⟨ys,g1⟩,k _ H1 _ _ M1 (OR h1 h2 g1 g2) VN e1 trivial q1⟩
  .exact q1.elim⟩
def qa(M M':Mp):Prop:=∀a c,M a=some c->M' a=some c
def qa.refl{M:Mp}:qa M M:=λ_ _ h=>h
def qa.trans{M M1 M2:Mp}(a:qa M M1)(b:qa M1 M2):qa M M2:=λx c h=>b x c (a x c h)
def qa.new{M:Mp}{p:Addr}{c:uo}(h:M p=none):qa M (oX M p c):=λx d q=>by rw[tV (Pb q h)];exact q
def qa.lst{M M':Mp}{a:Addr}{ds:List D}(s:qa M M')(h:oy M a=some ds):oy M' a=some ds:=by
 unfold oy at h ⊢;cases e:M a with
 | none=>rw[e]at h;cases h
 | some c=>rw[s a c e];rw[e]at h;exact h
def HM.sub{K:pU}{H:Hp}{M M':Mp}(h:HM K H M')(s:qa M M'):HM K H M:=λa c q=>h a c (s a c q)
def SO{x qual:Str}{st:Stmt}{f:Addr}{fd:FuncData}{N ps:List Str}{k:Nat}{sp:qN}(F:Pi K x qual st f fd)(S:so N ps (pL st))(len:∀ds M Q,sp ds M Q->ds.length=ps.length) (Wa:∀(VV:Vl) (A:Ar) (outer:List Env) (s:Sd) (H:Hp) (E:XK),rB k (A.deeper (envOfC qual (pL st) s.heap.objs.size f VV))->
   ∃t,Hd (uR MF P w K mg base N qual (pL st) f VV A outer s H E).nX (rm st) t/\∀ds M Q,sp ds M Q->t {nx:=λ_ M'=>∃VQ,qa VQ M'/\Q .mC VQ,rt:=λd M'=>∃VQ,qa VQ M'/\Q d VQ} (wg N ds) M):RY P w K mg base (k+1) f fd ps sp:=by
 refine F.ok S (λvs H Q E h=>?_) (λVV A outer s H vs Q' E hr h=>?_)
 .obtain⟨ds,M,Q,hd,_,hs,_⟩:=h;rw[<-hd.length];exact len ds M Q hs
 .obtain⟨ds,M,Q,hd,hm,hs,k⟩:=h;obtain⟨t,ht,hb⟩:=Wa VV A outer s H E hr;exact⟨_,ht,wg N ds,M,_,Dk hd,hm,hb ds M Q hs,λσ' H' δ' M' _ x2 x3 _ ⟨VQ,y1,y2⟩=>k .mC H' .mC VQ .mC (x2.sub y1) x3 y2,λv H' d M' x1 x2 x3 ⟨VQ,y1,y2⟩=>k v H' d VQ x1 (x2.sub y1) x3 y2,λ_ _ _ _ _ _ _ _ z=>z,λ_ _ _ _ _ _ _ _ z=>z⟩
theorem AW{g:B'}{te:T3}{ok:Mp->Prop}{Q:DK}{f:D->D}{M:Mp}(J:uJ->Prop)(mG:ok M):∀(ds acc:List D) (δ:uJ),J δ->acc.length+ds.length<=sizeLine->
  (∀d∈ds,∀δ,J δ->∀k:uJ->DK,(∀δ',J δ'->k δ' (f d) M)->g d δ M λδ2 M2=>te δ2 M2 (k δ2))->(∀p,M p=none->Q (.ref p) (oX M p (.lst (acc++ds.map f))))->uC g AS te ok Q ds acc δ M
 | [],acc,δ,_,hl,_,hq=>⟨by simpa using hl,by simpa using hq⟩
 | d::r,acc,δ,hj,hl,ht,hq=>by
  rw[dY]at hl;refine⟨by omega,?_⟩;refine ht d dO δ hj (λδ2 y M4=>ok M4/\uC g AS te ok Q r (acc++[y]) δ2 M4) λδ' hj'=>⟨mG,AW (f:=f) J mG r (acc++[f d]) δ' hj' ?_ (λe he=>ht e (dC _ he)) ?_⟩
  .rw[cU,dH];omega
  .simpa using hq
def qH{i:Nat}{te:T3}{ok:Mp->Prop}{Q:DK}{f:D->D}{M:Mp}(mG:ok M):∀(ds acc:List D) (δ:uJ),acc.length+ds.length<=sizeLine->(∀d∈ds,∀k:DK,k (f d) M->te (δ.set i (some d)) M k)->
  (∀p,M p=none->Q (.ref p) (oX M p (.lst (acc++ds.map f))))->uC (sW i) AS te ok Q ds acc δ M:=λds acc δ hl ht hq=>
 AW (f:=f) (λδ'=>∀d,δ'.set i (some d)=δ.set i (some d)) mG ds acc δ (λ_=>rfl) hl (λd hd δ' hj k hk=>by
  show te (δ'.set i (some d)) M (k (δ'.set i (some d)));rw[hj d];exact ht d hd _ (hk _ λe=>by rw[iK])) hq
theorem xM{α:Type}(f:α->Bool):∀l:List α,F1 (l.map λx=>D.bl (f x))=some (l.map f)
 | []=>rfl
 | x::r=>by show(F1 (r.map λx=>D.bl (f x))).map (f x::·)=_;rw[xM f r];rfl
def oW{M:Mp}{p:Addr}{ds:List D}:oy (oX M p (.lst ds)) p=some ds:=by unfold oy;rw[pC]
def i'{α:Type}{o:Option α}{P:α->Prop}{x:α}(e:o=some x)(h:P x):o.elim False P:=by rw[e];exact h
def oK{l:List D}(h:decide (l.length<=100)=true):l.length<=sizeLine:=by have z:=dN;have:=fO h;omega
theorem Ay{g:B'}{tb:xx}{ok:Mp->Prop}{E:FG}(J:uJ->Mp->Prop)(mG:∀δ M,J δ M->ok M):∀(ds:List D) (δ:uJ) (M:Mp),J δ M->
  (∀d∈ds,∀δ M,J δ M->∀nx:uJ->Mp->Prop,(∀δ' M',J δ' M'->nx δ' M')->g d δ M λδ2 M2=>tb {E with nx:=nx,ct:=nx,bk:=E.nx} δ2 M2)->(∀δ M,J δ M->E.nx δ M)->Ep g tb ok E ds δ M
 | [],δ,M,j,_,hn=>hn δ M j
 | d::r,δ,M,j,ht,hn=>ht d dO δ M j (λδ' M'=>ok M'/\Ep g tb ok E r δ' M') λδ' M' j'=>⟨mG δ' M' j',Ay J mG r δ' M' j' (λe he=>ht e (dC _ he)) hn⟩
theorem uM{g:B'}{tb:xx}{ok:Mp->Prop}{E:FG}(all:List D)(J:List D->uJ->Mp->Prop)(mG:∀p δ M,J p δ M->ok M):∀(ds pre:List D) (δ:uJ) (M:Mp),pre++ds=all->J pre δ M->
  (∀pre d post,pre++d::post=all->∀δ M,J pre δ M->∀nx:uJ->Mp->Prop,(∀δ' M',J (pre++[d]) δ' M'->nx δ' M')->g d δ M λδ2 M2=>tb {E with nx:=nx,ct:=nx,bk:=E.nx} δ2 M2)->(∀δ M,J all δ M->E.nx δ M)->Ep g tb ok E ds δ M
 | [],pre,δ,M,e,j,_,hn=>hn δ M (by rw[<-e,eM];exact j)
 | d::r,pre,δ,M,e,j,ht,hn=>ht pre d r e δ M j (λδ' M'=>ok M'/\Ep g tb ok E r δ' M') λδ' M' j'=>⟨mG _ δ' M' j',uM all J mG r (pre++[d]) δ' M' (by rw[<-e,fi];rfl) j' ht hn⟩
def J1{K:pU}{t:Vl}:W.kitOne K t t=some true:=by unfold W.kitOne;rw[cY (by simp)]
def Mz{c:Bool}{A B:Prop}(h:c=false)(hb:B):if c=true then A else B:=by subst h;exact JU hb
def Aa{c:Bool}{A B:Prop}(h:c=true)(ha:A):if c=true then A else B:=by subst h;exact Pm ha
def R4{t u:xx}{E:FG}{δ:uJ}{M:Mp}(R:uJ->Mp->Prop)(h2:∀nx:uJ->Mp->Prop,(∀δ' M',R δ' M'->nx δ' M')->t {E with nx:=nx} δ M)(h1:∀δ' M',R δ' M'->u E δ' M'):uc t u E δ M:=h2 (u E) h1
def SA{K:pU}{H:Hp}{a:Addr}{ns:List Int}(hO:Kd H)(hS:yu K H a (ns.map V.int)):rj K H (.rl (ns.map D.int)) (.ref a):=by
 have r:NT K H a (ns.map V.int):=by
  rcases hS with h|h
  .rcases h with h|⟨o,h⟩
   .rcases hO a with z|⟨o,xs,z⟩<;>(rw[h]at z;cases z)
   .exact .inl ⟨o,h⟩
  .exact .inr h
 unfold rj;exact⟨a,_,rfl,r,.ints⟩
def Qw{K:pU}{sp:qN}{H:Hp}{a:Addr}{ns:List Int}(hO:Kd H)(hS:yu K H a (ns.map V.int))(h:sp [.rl (ns.map D.int)] (λ_=>none) λd _=>d=.bl true):MH K sp [.ref a] H (λv _=>v=.bl true) λ_ _ _=>False:=
 ⟨_,λ_=>none,_,.cons (SA hO hS) .nil,λ_ _ z=>(by cases z),h,λv H' d M' x1 _ _ x4=>by subst x4;exact x1.mB⟩
def Mq{l:W.OpenLaw}{q:Pg}{WD:List Str}{XP:(Str->Option Vl)->Heap->Prop}{YP:Wo->Heap->Prop}{d:DefRec}{K:Params->pU}{k:Nat}{x:Str}{sp:qN}(hn:l.most=some 63)(Yo:d.params.defaults=[])(hr:rB k callerA) (hY:∀(w:Wo) (h:Heap),YP w h->(K w.params).In h) (Xi:∀ns:List Int,ns.length<=63->sp [.rl (ns.map D.int)] (λ_=>none) λd _=>d=.bl true) (F:∀(w:Wo) (mg:Str->Option Vl) (fa:Addr) (h:Heap),(K w.params).In h->h.Ns mainGlobals mg->mg d.name=some (.ref fa)->
   ∃fd:FuncData,(∀(s:Sd) (u:Vl),BindsTo s fd ⟨[u],[]⟩ [(x,u)])/\∀base:Heap,(K w.params).In base->base.Ns mainGlobals mg->RY l.prog w (K w.params) mg base k fa fd [x] sp):
  W.WalkO q WD XP YP l.row.toRowW d [] (λf vs=>PySem.call f vs):=
 L2.NG (n:=63) (k:=k) (x:=x) (CX:=λ_=>MF) (sp:=λw=>MH (K w.params) sp) hn (by decide) Yo hr hY F (λ_ _ a ns hl hO hS=>Qw hO hS (Xi ns hl)) λ_ _ _ _ _ z=>z
def KD(K:pU)(mg:Str->Option Vl)(x:Str)(d:D):Prop:=Bj λv u=>mg x=some u/\qp v u/\∀H,rj K H d v
def Qv{K:pU}{mg:Str->Option Vl}{x y:Str}{t:Tok}(h:mg x=some (.str y t)):KD K mg x (.str y):=⟨.str y,_,h,⟨t,rfl⟩,λ_=>.str⟩
def vq{K:pU}{mg:Str->Option Vl}{x:Str}{y:Int}{t:Tok}(h:mg x=some (.int y t)):KD K mg x (.int y):=⟨.int y,_,h,⟨t,rfl⟩,λ_=>.int⟩
def tP{K:pU}{a:Addr}{ss:List Str}{us:List Vl}{n:Nat}{sl:Array (Option Vl)}(h:K.lookup a=some ⟨.type "tuple",none,.seq us.toArray n,sl⟩)(r:qh (ss.map V.str) us)(hz:us.length<=1000):uG K (λ_=>none) a (ss.map V.str):=
 .inr ⟨_,us.toArray,n,h,rfl,rfl,rfl,by rw[dh,dN];omega,by simpa using r⟩
theorem zB{K:pU}{H:Hp}:∀{ss:List Str},pP K H (ss.map D.str) (ss.map V.str)
 | []=>.nil
 | _::_=>.cons .str zB
def MT{K:pU}{mg:Str->Option Vl}{x:Str}{a:Addr}{ss:List Str}(h:mg x=some (.ref a))(q:uG K (λ_=>none) a (ss.map V.str)):KD K mg x (.tup (ss.map D.str)):=
 ⟨.ref a,_,h,rfl,λ_=>.tup (ID q) zB⟩
variable {d:D}{i:Expr}{td tk:T3}{F:List (Str × List Str)}
def rV(hg:Gl X x)(h:KD X.K X.mg x d)(hd:yb x:=by decide):E3 X (.Name x pos) (c3 d):=by obtain⟨v,u,hm,r,hh⟩:=h;exact PE.mono (EE hg hm r hd) λσ H Q' zz=>x7 zz λδ M Q hs hm ht k=>k _ H _ M (hh H) hm .refl ht
def Ux(F:List (Str×List Str))(ta:T3):T3:=λδ M Q=>ta δ M λx M1=>match x with|.str k=>Q (.bl (KTD.datumAt k F).isSome) M1|_=>False
def SS(F:List (Str×List Str))(ta:T3):T3:=λδ M Q=>ta δ M λx M1=>match x with|.str k=>(KTD.datumAt k F).elim False λss=>Q (.tup (ss.map D.str)) M1|_=>False
def MC(T:KR X.K X.mg x F)(hg:Gl X x)(he:E3 X e ta)(hd:yb x:=by decide)(hmk:behindInMarks .In (.Name x p)=false:=by rfl):E3 X (.Compare e [.In] [.Name x p] pos) (Ux F ta):=by
 obtain⟨a,hm,T⟩:=Gg T;refine PE.mono (HD (r:=λy z H Q=>∃k,y=.str k/\z=.ref a/\Q (.bl (KTD.datumAt k F).isSome) H) (λVL s σ H y z v u Q I ry rz ⟨k,e1,e2,q⟩=>?_) he (EE (v:=.ref a) hg hm rfl hd) hmk) λσ H Q' zz=>x7 zz λδ M Q hs hm ht k=>⟨δ,M,_,hs,hm,ht,λv H1 d M1 hd VN e1 q1=>?_⟩
 .subst e1 e2;obtain⟨t,rfl⟩:=ry;obtain rfl:u=Value.ref a:=rz;exact Re (T s.heap I.mR) ⟨.bl (KTD.datumAt k F).isSome,H,I.tok _,rfl,q⟩
 .cases d with
  | str k'=>exact⟨k',hd.str_inv,rfl,k _ _ _ _ .bl VN e1 q1⟩
  | _=>exact q1.elim
def Jh(T:KR X.K X.mg x F)(hg:Gl X x)(he:E3 X e ta)(hd:yb x:=by decide)(hs:AC e:=by exact λ_ _=>rfl):E3 X (.Subscript (.Name x p) e pos) (SS F ta):=by
 obtain⟨a,hm,T⟩:=Gg T;refine PE.mono (K8 (r:=λz y H Q=>∃k ss,y=.str k/\z=.ref a/\KTD.datumAt k F=some ss/\∀t,uG X.K H t (ss.map V.str)->Q (.ref t) H) (λvalue VW VL s σ H z y o i Q I rz ry ⟨k,ss,e1,e2,e3,q⟩ hs=>?_) (EE (v:=.ref a) hg hm rfl hd) he hs) λσ H Q' zz=>x7 zz λδ M Q hs hm ht k=>⟨δ,M,_,hs,hm,ht,λv H1 d M1 hd VN e1 q1=>?_⟩
 .subst e1 e2;obtain⟨t,rfl⟩:=ry;obtain rfl:o=Value.ref a:=rz;have hT:=ya (s:=s) (T s.heap I.mR);have h2:wpAny (model X.prog X.w) X.A (getItem (.ref a) (.str k t)) (EP X VL σ Q) X.xe s:=K0 (T s.heap I.mR) e3 λv ⟨t',e4,q4⟩=>⟨.ref t',H,I.tok _,e4,q t' (ID q4)⟩;unfold subscriptTail;refine cS ?_;rw[jW hT.not_modules];refine cS (iH hT jp.lookup ?_);have VP:wpAny (model X.prog X.w) X.A (subscripted VW false (.ref a) (.str k t)) (λr s₃=>wpAny (model X.prog X.w) X.A (letTemporaryGo value (.ref a) r>>=λ_=>pure r) (EP X VL σ Q) X.xe s₃) X.xe s:=by rw[hs];exact wpAny_operating (d9 h2 (λr s₃ h₃=>cS (j8 (cZ h₃))) λ_ _ x=>x)
  first
   | exact cZ (cS VP)
   | exact cS (cZ (cS VP))
   | exact cS VP
 .cases d with
  | str k'=>obtain⟨ss,e4,q2⟩:=qC q1;exact⟨k',ss,hd.str_inv,rfl,e4,λt qt=>k _ _ _ _ (.tup qt zB) VN e1 q2⟩
  | _=>exact q1.elim
def zd(M:Mp)(a:Addr):Option (List (qK×D)):=match M a with
 | some (.dk kvs)=>some kvs
 | _=>none
def va(kvs:List (qK×D))(k:qK):Option D:=(kvs.find? λp=>decide (p.1=k)).map (·.2)
def By{K:pU}{H:Hp}{M:Mp}{a:Addr}{kvs:List (qK×D)}(hm:HM K H M)(h:zd M a=some kvs):∃vs,H a=some (.dK vs)/\vs.map (·.1)=kvs.map (·.1)/\pP K H (kvs.map (·.2)) (vs.map (·.2)):=by
 unfold zd at h;cases e:M a with
 | none=>rw[e]at h;cases h
 | some c=>
  rw[e]at h;have ok:=hm a c e;cases c with
  | dk es=>cases h;exact ok
  | ins _ _=>cases h
  | lst _=>cases h
  | exc _=>cases h
theorem En{K:pU}{H:Hp}{k:qK}:∀{kvs:List (qK×D)} {vs:List (qK×V)},vs.map (·.1)=kvs.map (·.1)->pP K H (kvs.map (·.2)) (vs.map (·.2))->(∀d,va kvs k=some d->∃v,vW vs k=some v/\rj K H d v)/\(va kvs k=none->vW vs k=none)
 | [],[],_,_=>⟨λd z=>(by cases z),λ_=>rfl⟩
 | [],_::_,e,_=>by cases e
 | _::_,[],e,_=>by cases e
 | (j,d)::kvs,(j',v)::vs,e,h=>by
  have e1:j'=j:=by simpa using(gS e).1
  subst e1;obtain⟨x,r,e2,h1,h2⟩:=h.inv;obtain⟨e3,e4⟩:=gS e2;subst e3 e4;have ih:=En (k:=k) (kvs:=kvs) (vs:=vs) (gS e).2 h2;by_cases hk:j'=k
  .have g:va ((j',d)::kvs) k=some d:=by simp[va,hk]
   have g':vW ((j',v)::vs) k=some v:=by simp[vW,hk]
   rw[g,g'];exact⟨λd' z=>by cases z;exact⟨v,rfl,h1⟩,λz=>by cases z⟩
  .have g:va ((j',d)::kvs) k=va kvs k:=by simp[va,hk]
   have g':vW ((j',v)::vs) k=vW vs k:=by simp[vW,hk]
   rw[g,g'];exact ih
def LQ(x y:D)(M:Mp)(Q:DK):Prop:=match x,y with
 | .ref a,.str k=>(zd M a).elim False λkvs=>(va kvs (.inr k)).elim False λd=>Q d M
 | _,_=>False
def Td(td tk:T3):T3:=λδ M Q=>td δ M λx M1=>tk δ M1 λy M2=>LQ x y M2 Q
def zc(hu:X.A.units+9<cLine)(ho:E3 X o td)(hi:E3 X i tk)(hs:AC i:=by exact λ_ _=>rfl):E3 X (.Subscript o i pos) (Td td tk):=by
 refine PE.mono (K8 (r:=R3 X.K LQ) (λvalue VW VL s σ H vx vy v u Q' I rx ry h hs=>?_) ho hi hs) Hi;obtain⟨x,y,M,Q,hx,hy,hm,q,k⟩:=h;unfold LQ at q;split at q
 .rename_i a0 k0;obtain⟨kvs,e1,q⟩:=qC q;obtain⟨d,e2,q⟩:=qC q;cases hx.mx;cases hy.str_inv;obtain⟨vs,h1,h2,h3⟩:=By hm e1;obtain⟨w,e3,hw⟩:=(En h2 h3).1 d e2;refine Np (by omega) value VW VL s σ H _ _ v u Q' I rx ry ⟨_,w,rfl,?_,k _ _ _ _ hw hm .refl q⟩ hs;have g:=Dy.k (k:=Sum.inr k0) h1;rw[e3]at g;exact g
 .exact q.elim
def QF(Xq:Bool)(x y:D)(M:Mp)(Q:DK):Prop:=match x,y with
 | .str k,.ref a=>(zd M a).elim False λkvs=>Q (.bl (if Xq then !(va kvs (.inr k)).isSome else(va kvs (.inr k)).isSome)) M
 | _,_=>False
def Kt{K:pU}{H:Hp}{k:qK}{kvs:List (qK×D)}{vs:List (qK×V)}(h2:vs.map (·.1)=kvs.map (·.1))(h3:pP K H (kvs.map (·.2)) (vs.map (·.2))):(vW vs k).isSome=(va kvs k).isSome:=by
 obtain⟨a,b⟩:=En (k:=k) h2 h3;cases e:va kvs k with
 | none=>rw[b e];rfl
 | some d=>obtain⟨v,e3,_⟩:=a d e;rw[e3];rfl
def UV(Xq:Bool)(tk td:T3):T3:=λδ M Q=>tk δ M λx M1=>td δ M1 λy M2=>QF Xq x y M2 Q
def TR(hu:X.A.units+9<cLine):wH X (compareOp .In) (R3 X.K (QF false)):=λVL s σ H vx vy v u Q' I rx ry h=>by
 obtain⟨x,y,M,Q,hx,hy,hm,q,k⟩:=h;unfold QF at q;split at q
 .obtain⟨kvs,e1,q⟩:=qC q;cases hy.mx;cases hx.str_inv;obtain⟨vs,h1,h2,h3⟩:=By hm e1;refine P8 (by omega) VL s σ H _ _ v u Q' I rx ry ⟨_,_,rfl,Dy.k (k:=Sum.inr _) h1,?_⟩;rw[Kt h2 h3];exact k _ _ _ _ .bl hm .refl q
 .exact q.elim
def LC(hu:X.A.units+9<cLine)(hi:E3 X i tk)(ho:E3 X o td)(hm:behindInMarks .In o=false:=by first|exact GH _|with_unfolding_all rfl):B3 X (.Compare i [.In] [o] pos) (b3 (UV false tk td)):=PT.mono (HS (TR hu) hi ho hm) λσ H Q' zz=>x7 zz λδ M Q hs hm ht k=>
 Hi σ H _ ⟨δ,M,_,hs,hm,ht,λv H1 d M1 hd VN e1 q1=>by
  cases d with
  | bl c=>exact⟨c,hd.mB,k c H1 M1 VN e1 q1⟩
  | _=>exact q1.elim⟩
def vR:List D->Option (List (qK×D))
 | []=>some []
 | .tup [.str k,d]::r=>(vR r).map ((.inr k,d)::·)
 | _::_=>none
theorem CH{K:pU}{H:Hp}:∀{es:List D} {kvs:List (qK×D)} {xs:List V},vR es=some kvs->pP K H es xs->∃(ts:List Addr) (vs:List (qK×V)),xs=ts.map V.ref/\ts.length=vs.length/\vs.map (·.1)=kvs.map (·.1)/\pP K H (kvs.map (·.2)) (vs.map (·.2))/\
  ∀(j:Nat) (t:Addr) (p:qK×V),ts[j]?=some t->vs[j]?=some p->uG K H t [kV p.1,p.2]
 | [],_,_,e,h=>by cases e;exact⟨[],[],h.nil_inv,rfl,rfl,.nil,λj t p z=>by simp at z⟩
 | d::es,kvs,xs,e,h=>by
  obtain⟨x,r,rfl,h1,h2⟩:=h.inv;unfold vR at e;split at e
  .rename_i z;cases z
  .rename_i k d' r' z;cases z;cases q:vR es with
   | none=>rw[q]at e;cases e
   | some kvs'=>
    rw[q]at e;cases e;obtain⟨ts,vs,e1,e2,e3,e4,e5⟩:=CH q h2;obtain⟨a,ys,rfl,g1,g2⟩:=h1.mE;obtain⟨y,r1,rfl,g3,g4⟩:=g2.inv;obtain⟨w,r2,rfl,g5,g6⟩:=g4.inv;cases g6.nil_inv;cases g3.str_inv;refine⟨a::ts,(.inr k,w)::vs,by rw[e1];rfl,by simpa using e2,by rw[dR,dR,e3],.cons g5 e4,λj t p z1 z2=>?_⟩;cases j with
    | zero=>
     have z1':a=t:=by simpa using z1
     have z2':(Sum.inr k,w)=p:=by simpa using z2
     subst z1' z2';exact g1
    | succ j=>exact e5 j t p (by simpa using z1) (by simpa using z2)
  .cases e
def PK(ds:List D)(M:Mp)(Q:DK):Prop:=match ds with
 | [.ref a]=>(oy M a).elim False λes=>(vR es).elim False λkvs=>(kvs.map (·.1)).Nodup/\∀p,M p=none->Q (.ref p) (oX M p (.dk kvs))
 | _=>False
def Ea(hc:X.calm=true):C3 X (.type "dict") PK:=by
 intro VL s σ H vs us Q' I rv h;obtain⟨ds,M,Q,hd,hm,q,k⟩:=h;unfold PK at q;split at q
 .obtain⟨es,e1,q⟩:=qC q;obtain⟨kvs,e2,hnd,q⟩:=qC q;obtain⟨v,rfl,hv⟩:=rQ hd;cases hv.mx;obtain⟨xs,h1,h2,_⟩:=pV hm e1;obtain⟨ts,ws,rfl,f2,f3,f4,f5⟩:=CH e2 h2;refine Hh hc VL s σ H _ us Q' I rv ⟨_,ts,ws,rfl,h1,f2,f5,by rw[f3];exact hnd,λd hd=>?_⟩;have e:qy X.K H (upd H d (.dK ws)):=.new hd;exact k _ _ _ _ .ref (hm.new (c:=.dk kvs) hd ⟨_,pM,f3,f4.mono e⟩) e (q d (hm.fresh hd))
 .exact q.elim
def RM:bootBuiltins "set"=some (.type "set"):=by decide+kernel
def BP:List D->Option (List Str)
 | []=>some []
 | .str x::r=>(BP r).map (x::·)
 | _::_=>none
theorem BR:∀ss:List Str,BP (ss.map D.str)=some ss
 | []=>rfl
 | x::r=>by show(BP (r.map D.str)).map (x::·)=_;rw[BR r];rfl
theorem F2{K:pU}{H:Hp}:∀{ds:List D} {ss:List Str} {xs:List V},BP ds=some ss->pP K H ds xs->xs=ss.map V.str
 | [],_,_,e,h=>by cases e;exact h.nil_inv
 | d::ds,_,_,e,h=>by
  obtain⟨x,r,rfl,h1,h2⟩:=h.inv;cases d with
  | str z=>
   unfold BP at e;cases q:BP ds with
   | none=>rw[q]at e;cases e
   | some ss=>rw[q]at e;cases e;rw[h1.str_inv,F2 q h2];rfl
  | _=>cases e
def Sq(ta:T3):T3:=λδ M Q=>ta δ M λx M1=>(LH M1 x).elim False λes=>(BP es).elim False λss=>ss.length<4000/\Q (.int (sj ss).length) M1
def JI{p2 XC:Pos}(hc:X.calm=true)(he:E3 X e ta)(hg1:Gl X "len")(VN:X.mg "len"=none)(hg2:Gl X "set")(V5:X.mg "set"=none)(b1:bootBuiltins "len"=some (.builtin "len"))(b2:bootBuiltins "set"=some (.type "set")) (hs:starEach [e] X.env=[(false,eval e X.env)]:=by rfl):E3 X (.Call (.Name "len" p) [.Call (.Name "set" p2) [e] [] XC] [] pos) (Sq ta):=
 PE.mono (IW hc he hg1 VN hg2 V5 b1 b2 hs) λσ H Q' zz=>x7 zz λδ M Q hs hm ht k=>⟨δ,M,_,hs,hm,ht,λv H1 d M1 hd VN e1 q1=>by
  obtain⟨es,e2,q1⟩:=qC q1;obtain⟨ss,e3,hz,q1⟩:=qC q1;obtain⟨a,xs,rfl,h1,h2⟩:=DX VN hd e2;rw[F2 e3 h2]at h1;have z:scanBound=4096:=rfl;exact⟨a,ss,rfl,h1,by omega,k _ _ _ _ .int VN e1 q1⟩⟩
def Qn(x:D)(ds:List D)(M:Mp)(Q:DK):Prop:=match x,ds with
 | .ref a,[y]=>(oy M a).elim False λes=>es.length<sizeLine/\Q .mC (oX M a (.lst (es++[y])))
 | _,_=>False
def pS{M:Mp}{a:Addr}{es:List D}(h:oy M a=some es):M a=some (.lst es):=by
 unfold oy at h;split at h
 .rename_i e;rw[e];cases h;rfl
 .cases h
def Ei{K:pU}{H:Hp}{M:Mp}{a:Addr}{es:List D}(hm:HM K H M)(h:oy M a=some es):∃xs,H a=some (.lst xs)/\pP K H es xs:=hm a _ (pS h)
def JO:M3 X "list.append" Qn:=by
 intro VL s σ H vx vs v us Q' I rx rv h;obtain⟨x,ds,M,Q,hx,hd,hm,q,k⟩:=h;unfold Qn at q;split at q
 .obtain⟨es,e1,hz,q⟩:=qC q;obtain⟨w,rfl,hw⟩:=rQ hd;cases hx.mx;obtain⟨xs,h1,h2⟩:=Ei hm e1;refine IH VL s σ H _ _ v us Q' I rx rv ⟨_,xs,w,rfl,rfl,h1,by rw[<-h2.length];exact hz,?_⟩;obtain⟨V5,ex⟩:=hm.put (c:=.lst (es++[_])) (pS e1) λex=>⟨_,pM,(h2.mono ex).snoc (hw.mono ex)⟩;exact k _ _ _ _ .mC V5 ex q
 .exact q.elim
def qM(ho:E3 X o ta)(ha:A3 X (e::es) t)(Wb:attributeBase o "append" X.env (eval o X.env)=eval o X.env:=by rfl)
  (W2:((backTo pos (starEach (e::es) X.env)).all (λx=>!x.1)&&(backToKw pos (keywordEach [] X.env)).all (λx=>x.1.isSome)&&decide ((e::es).length+([]:List Keyword).length+(if ([]:List Keyword).isEmpty then 0 else 1)<30))=true:=by rfl)
  (Wn:(VO.endLine==pos.line)=true:=by rfl) (hs:Az X e es:=by rfl) (V6:B0 X pos es:=by rfl):
  E3 X (.Call (.Attribute o "append" VO) (e::es) [] pos) (UX Qn ta t):=PH PySem.F.slot_list_append PySem.F.type_list_append JO ho ha Wb W2 Wn hs V6
def qa.none{M M2:Mp}{q:Addr}(s:qa M M2)(h:M2 q=none):M q=none:=by
 cases e:M q with
 | none=>rfl
 | some c=>rw[s q c e]at h;cases h
def qa.upd{M M2:Mp}{q:Addr}{c:uo}(s:qa M M2):qa (oX M q c) (oX M2 q c):=λx d h=>by
 by_cases e:x=q
 .subst e;rw[pC]at h ⊢;exact h
 .rw[tV e]at h ⊢;exact s x d h
def qa.dk{M M':Mp}{a:Addr}{ds:List (qK×D)}(s:qa M M')(h:zd M a=some ds):zd M' a=some ds:=by
 unfold zd at h ⊢;cases e:M a with
 | none=>rw[e]at h;cases h
 | some c=>rw[s a c e];rw[e]at h;exact h
def rD(p:Addr)(M M':Mp):Prop:=∀b c,b≠p->M b=some c->M' b=some c
def qa.keep{M M':Mp}{p:Addr}(s:qa M M'):rD p M M':=λb c _ h=>s b c h
def rD.trans{M M1 M2:Mp}{p:Addr}(a:rD p M M1)(b:rD p M1 M2):rD p M M2:=λx c n h=>b x c n (a x c n h)
def rD.put{M:Mp}{p:Addr}{c:uo}:rD p M (oX M p c):=λb d n h=>by rw[tV n];exact h
def rD.lst{M M':Mp}{p a:Addr}{ds:List D}(k:rD p M M')(n:a≠p)(h:oy M a=some ds):oy M' a=some ds:=by have:=k a _ n (pS h);unfold oy;rw[this]
def rD.dk{M M':Mp}{p a:Addr}{ds:List (qK×D)}(k:rD p M M')(n:a≠p)(h:zd M a=some ds):zd M' a=some ds:=by
 unfold zd at h ⊢;cases e:M a with
 | none=>rw[e]at h;cases h
 | some c=>rw[k a c n e];rw[e]at h;exact h
def pE{M:Mp}{a p C:Addr}{ds:List D}{fs:List (Str×D)}(h:oy M a=some ds)(hp:M p=some (.ins C fs)):a≠p:=λz=>by subst z;rw[pS h]at hp;cases hp
def Bk{M:Mp}{a p C:Addr}{ds:List (qK×D)}{fs:List (Str×D)}(h:zd M a=some ds)(hp:M p=some (.ins C fs)):a≠p:=λz=>by subst z;unfold zd at h;rw[hp]at h;cases h
def se{M:Mp}{p:Addr}{ds:List D}(h:M p=some (.lst ds)):oy M p=some ds:=by unfold oy;rw[h]
def CO{M:Mp}{p:Addr}{ds:List (qK×D)}(h:M p=some (.dk ds)):zd M p=some ds:=by unfold zd;rw[h]
def sv{N:Mp}{p q C:Addr}{fs fs':List (Str×D)}{c:uo}(hp:N p=some (.ins C fs))(hq:N q=none):
  q≠p/\oX N q c p=some (.ins C fs)/\rD p N (oX (oX N q c) p (.ins C fs'))/\oX (oX N q c) p (.ins C fs') q=some c/\oX (oX N q c) p (.ins C fs') p=some (.ins C fs'):=by
 have n:p≠q:=Pb hp hq;refine⟨dM n,by rw[tV n];exact hp,(qa.new hq).keep.trans .put,by rw[tV (dM n),pC],pC⟩
theorem EJ{g:B'}{te:T3}{ok:Mp->Prop}{Q:DK}(all:List D)(J:List D->List D->uJ->Mp->Prop)(mG:∀p acc δ M,J p acc δ M->ok M):∀(ds pre acc:List D) (δ:uJ) (M:Mp),pre++ds=all->acc.length+ds.length<=sizeLine->J pre acc δ M->
  (∀pre d post,pre++d::post=all->∀acc δ M,J pre acc δ M->∀k:uJ->DK,(∀δ2 y M4,J (pre++[d]) (acc++[y]) δ2 M4->k δ2 y M4)->g d δ M λδ2 M2=>te δ2 M2 (k δ2))->
  (∀acc δ M,J all acc δ M->∀p,M p=none->Q (.ref p) (oX M p (.lst acc)))->uC g AS te ok Q ds acc δ M
 | [],pre,acc,δ,M,e,hl,j,_,hq=>⟨by simpa using hl,hq acc δ M (by rw[<-e,eM];exact j)⟩
 | d::r,pre,acc,δ,M,e,hl,j,ht,hq=>by rw[dY]at hl;refine⟨by omega,?_⟩;refine ht pre d r e acc δ M j (λδ2 y M4=>ok M4/\uC g AS te ok Q r (acc++[y]) δ2 M4) λδ2 y M4 j'=>⟨mG _ _ _ _ j',EJ all J mG r (pre++[d]) (acc++[y]) δ2 M4 (by rw[<-e,fi];rfl) ?_ j' ht hq⟩;rw[cU,dH];omega
def J9:Nat->D->Bool
 | _,.mC=>true
 | _,.bl _=>true
 | _,.int _=>true
 | _,.str _=>true
 | n+1,.tup ds=>ds.all (J9 n)
 | _,_=>false
theorem ym{f:D->D->Option Bool}:∀ds:List D,(∀d∈ds,f d d=some true)->rX f ds ds=some true
 | [],_=>rfl
 | d::r,h=>by show(f d d).bind (λp=>(rX f r r).map λq=>p&&q)=some true;rw[h d dO,ym r λe he=>h e (dC _ he)];rfl
theorem FP{M:Mp}:∀(n:Nat) (d:D),J9 n d=true->yw M (n+1) d d=some true
 | _,.mC,_=>rfl
 | _,.bl _,_=>by simp[yw]
 | _,.int _,_=>by simp[yw]
 | _,.str _,_=>by simp[yw]
 | n+1,.tup ds,h=>by have h:ds.all (J9 n)=true:=h;show(rX (yw M (n+1)) ds ds).map (λp=>p&&ds.length==ds.length)=some true;rw[ym ds λd hd=>FP n d (eX.mp h d hd)];simp
 | 0,.tup _,h=>by cases h
 | 0,.ref _,h=>by cases h
 | _+1,.ref _,h=>by cases h
 | 0,.ty _,h=>by cases h
 | _+1,.ty _,h=>by cases h
 | 0,.rl _,h=>by cases h
 | _+1,.rl _,h=>by cases h
def Jt{M:Mp}{n:Nat}{a b:Addr}{ds:List D}(ha:oy M a=some ds)(hb:oy M b=some ds)(h:∀d∈ds,yw M n d d=some true):yw M (n+1) (.ref a) (.ref b)=some true:=by show(oy M a).bind (λi=>(oy M b).bind λj=>if i.length=j.length then rX (yw M n) i j else some false)=some true;rw[ha,hb];show(if ds.length=ds.length then rX (yw M n) ds ds else some false)=some true;rw[cY rfl];exact ym ds h
def RG(tc:zK)(tb:xx):xx:=λE δ M=>∃W:Nat->uJ->Mp->Prop,(∃m,W m δ M)/\∀m δ M,W m δ M->
 tc δ M λb M1=>if b=true then tb {E with nx:=λδ' M'=>∃m',m'<m/\W m' δ' M',ct:=λδ' M'=>∃m',m'<m/\W m' δ' M',bk:=E.nx} δ M1 else E.nx δ M1
def Kb{c:Expr}{body:List Stmt}{tc:zK}{tb:xx}(hp:PassesOwn (model X.prog X.w) X.A X.env X.xe)(hc:B3 X c tc)(hb:Hd X body tb):S3 X (.While c body [] pos) (RG tc tb):=
 PS.mono (Lw hp hc hb) λD' σ H ⟨δ,M,E,hs,hm,⟨W,⟨m0,w0⟩,turn⟩,k1,k2,k3,k4⟩=>by
 refine⟨λm σ' H'=>∃δ' M',yg X.K H' σ' δ'/\HM X.K H' M'/\qy X.K H H'/\σ'.length=σ.length/\W m δ' M',⟨m0,δ,M,hs,hm,.refl,rfl,w0⟩,?_⟩
 rintro m σ1 H1 ⟨δ1,M1,YS,VN,e1,l1,w1⟩
 refine⟨δ1,M1,_,YS,VN,turn m δ1 M1 w1,λb H2 M2 V5 e2 q2=>?_⟩;cases b with
 | false=>rw[cW dw]at q2 ⊢;exact k1 σ1 H2 δ1 M2 (YS.mono e2) V5 (e1.trans e2) l1 q2
 | true=>
  rw[cY rfl]at q2 ⊢;refine⟨λσ' H'=>∃δ' M',yg X.K H' σ' δ'/\HM X.K H' M'/\qy X.K H H'/\σ'.length=σ.length/\∃m',m'<m/\W m' δ' M',?_,δ1,M2,_,YS.mono e2,V5,q2,?_,?_,?_,?_⟩
  .rintro σ' H' ⟨δ',M',a1,a2,a3,a4,m',lt,w⟩
   exact⟨m',lt,δ',M',a1,a2,a3,a4,w⟩
  .exact λσ' H' δ' M' y1 y2 y3 y4 y5=>⟨δ',M',y1,y2,e1.trans (e2.trans y3),by rw[y4,l1],y5⟩
  .exact λv H' d M' y1 y2 y3 y4=>k2 v H' d M' y1 y2 (e1.trans (e2.trans y3)) y4
  .exact λσ' H' δ' M' y1 y2 y3 y4 y5=>k1 σ' H' δ' M' y1 y2 (e1.trans (e2.trans y3)) (by rw[y4,l1]) y5
  .exact λσ' H' δ' M' y1 y2 y3 y4 y5=>⟨δ',M',y1,y2,e1.trans (e2.trans y3),by rw[y4,l1],y5⟩
def Qi(op:Operator)(x y:D):Option D:=match op,x,y with
 | .Add,.int i,.int j=>some (.int (i+j))
 | .Sub,.int i,.int j=>some (.int (i - j))
 | _,_,_=>none
def Rb(op:Operator):V->V->Hp->VK->Prop:=λvx vy H Q=>match op,vx,vy with
 | .Add,.int i,.int j=>Q (.int (i+j)) H
 | .Sub,.int i,.int j=>Q (.int (i - j)) H
 | _,_,_=>False
def QE{op:Operator}:Nk X op (Rb op):=by
 intro VL s σ H x y u v Q I rx ry h;unfold Rb at h;split at h
 .exact RJ VL s σ H _ _ u v Q I rx ry ⟨_,_,rfl,rfl,h⟩
 .exact Qj VL s σ H _ _ u v Q I rx ry ⟨_,_,rfl,rfl,h⟩
 .exact h.elim
def OI{K:pU}{H:Hp}{op:Operator}{x y z:D}{vx vy:V}{Q:VK}(hx:rj K H x vx)(hy:rj K H y vy)(e:Qi op x y=some z)(k:∀vz,rj K H z vz->Q vz H):Rb op vx vy H Q:=by
 unfold Qi at e;split at e
 .cases e;cases hx.int_inv;cases hy.int_inv;exact k _ .int
 .cases e;cases hx.int_inv;cases hy.int_inv;exact k _ .int
 .cases e
def R7(K:pU)(f:Str)(op:Operator)(ta tv:T3):xx:=λE δ M=>ta δ M λx M1=>match x with
 | .ref a=>zm (M1 a) λC fs=>tG K C f/\(fs.lookup f).elim False λd=>tv δ M1 λy M2=>(Qi op d y).elim False λz=>zm (M2 a) λC' fs'=>C'=C/\fs'.length<1000/\E.nx δ (oX M2 a (.ins C (vt f z fs')))
 | _=>False
def CN{o value:Expr}{ta tv:T3}{f:Str}{op:Operator}{X0:Pos}(ha:E3 X o ta)(hv:E3 X value tv):S3 X (.AugAssign (.Attribute o f X0) op value pos) (R7 X.K f op ta tv):=
 PS.mono (Jm ha hv QE) λD' σ H zz=>JX zz λδ M E hs hm ht k1 k2 k3 k4=>
 ⟨δ,M,_,hs,hm,ht,λv H1 d M1 hd VN e1 q1=>by
  cases d with
  | ref a=>
   cases hd.mx;obtain⟨C,fs,e,q1⟩:=xy q1;obtain⟨na,q1⟩:=q1;obtain⟨d,ed,q1⟩:=qC q1;obtain⟨dx,vs,h1,cl,nn,fo⟩:=VN a _ e;obtain⟨w,ew,hw⟩:=(vS fo).1 d ed;refine⟨a,C,dx,vs,w,rfl,h1,cl,na,ew,δ,M1,_,hs.mono e1,VN,q1,λu H2 y M2 hy V5 e2 q2=>?_⟩;obtain⟨z,ez,q2⟩:=qC q2;obtain⟨C',fs',e',q2⟩:=xy q2;obtain⟨rfl,hl,q2⟩:=q2;refine OI (hw.mono e2) hy ez λvz hz=>?_;obtain⟨YD,vs',Wy,cl',nn',fo'⟩:=V5 a _ e';have VR:vs'.length=fs'.length:=by have:=eQ List.length fo'.1;simpa using this
   refine⟨YD,vs',Wy,by omega,?_⟩;obtain⟨WJ,e3⟩:=V5.put (p:=a) (o:=.ins C' YD (uZ f vz vs')) (c:=.ins C' (vt f z fs')) e' λx=>⟨YD,_,pM,cl',λg hg=>by
    rcases Br hg with q|q
    .rw[q];exact na
    .exact nn' g q,Dq (hz.mono x) (fo'.mono x)⟩
   exact k1 σ _ δ _ (hs.mono (e1.trans (e2.trans e3))) WJ (e1.trans (e2.trans e3)) rfl q2
  | _=>exact q1.elim⟩
theorem sR{i:Nat}{tt:zK}{te:T3}{ok:Mp->Prop}{Q:DK}{f:D->D}{t:D->Bool}{M:Mp}(mG:ok M):∀(ds acc:List D) (δ:uJ),acc.length+ds.length<=sizeLine->
  (∀d∈ds,∀k:Bool->Mp->Prop,k (t d) M->tt (δ.set i (some d)) M k)->(∀d∈ds,t d=true->∀k:DK,k (f d) M->te (δ.set i (some d)) M k)->
  (∀p,M p=none->Q (.ref p) (oX M p (.lst (acc++(ds.filter t).map f))))->uC (sW i) tt te ok Q ds acc δ M
 | [],acc,δ,hl,_,_,hq=>⟨by simpa using hl,by simpa using hq⟩
 | d::r,acc,δ,hl,ht,he,hq=>by
  rw[dY]at hl;refine⟨by omega,?_⟩;show tt (δ.set i (some d)) M _;refine ht d dO _ ?_;have z:∀e:D,(δ.set i (some d)).set i (some e)=δ.set i (some e):=λe=>by rw[iK]
  cases q:t d with
  | true=>
   rw[cY rfl];refine he d dO q _ ⟨mG,sR (f:=f) (t:=t) mG r (acc++[f d]) _ ?_ (λe m k h=>?_) (λe m h0 k h=>?_) ?_⟩
   .rw[cU,dH];omega
   .rw[z];exact ht e (dC _ m) k h
   .rw[z];exact he e (dC _ m) h0 k h
   .intro p hp;have:=hq p hp;rw[fR q]at this
    simpa using this
  | false=>
   rw[cW dw];refine⟨mG,sR (f:=f) (t:=t) mG r acc _ (by omega) (λe m k h=>?_) (λe m h0 k h=>?_) ?_⟩
   .rw[z];exact ht e (dC _ m) k h
   .rw[z];exact he e (dC _ m) h0 k h
   .intro p hp;have:=hq p hp;rw[fS (by rw[q];exact dw)]at this;exact this
section
variable {a:Expr}
def Ui(ta:T3):T3:=λδ M Q=>ta δ M λx M1=>match x with|.int i=>Q (.int (-i)) M1|_=>False
def Ee(ha:E3 X a ta):E3 X (.UnaryOp .USub a pos) (Ui ta):=PE.mono (SY P4 ha) λσ H Q' zz=>x7 zz λδ M Q hs hm ht k=>
 ⟨δ,M,_,hs,hm,ht,λv H1 d M1 hd VN e1 q1=>by
  cases d with
  | int i=>cases hd.int_inv;exact⟨i,rfl,k _ H1 _ M1 .int VN e1 q1⟩
  | _=>exact q1.elim⟩
end
end L3
namespace L2
open PySem PySem.Spec PyProof.Rows PySem.W
variable {prog:Pg}{w:Wo}{A:Ar}{E:Vl→Sd→Prop}{s:Sd}
end L2
namespace L3
open PySem PySem.Spec PyProof.Rows L2
variable {X:Cx}{pos:Pos}{a b o i:Expr}{ta tb ti to:T3}
def S6(to ti:T3):B':=λd δ M Q=>to δ M λx M1=>ti δ M1 λy M2=>match x,y with
 | .ref p,.int k=>(oy M2 p).elim False λes=>(Fj es.length k).elim False λj=>Q δ (oX M2 p (.lst (es.set j d)))
 | _,_=>False
theorem pP.set{K:pU}{H:Hp}{d:D}{v:V}(hv:rj K H d v):∀{ds:List D} {xs:List V} (j:Nat),pP K H ds xs->pP K H (ds.set j d) (xs.set j v)
 | [],_,j,h=>by rw[h.nil_inv];simp only[List.set_nil];exact .nil
 | e::ds,_,0,h=>by obtain⟨x,r,rfl,h1,h2⟩:=h.inv;exact .cons hv h2
 | e::ds,_,j+1,h=>by obtain⟨x,r,rfl,h1,h2⟩:=h.inv;exact .cons h1 (pP.set hv j h2)
def Qy(ho:E3 X o to)(hi:E3 X i ti) (ha:∀v,assign (.Subscript o i pos) X.env v=(do
   let ov<-holding [v] (eval o X.env);let iv<-holding [v,ov] (eval i X.env)
   standAt pos
   holding [v,ov,iv] (setItem ov iv v)
   release [v,ov,iv] []):=by intro _;rfl):G3 X (.Subscript o i pos) (S6 to ti):=
 PG.mono (Rt ho hi Lo ha) λv σ H Q' ⟨d,δ,M,Q,hd,hs,hm,ht,k⟩=>
 ⟨δ,M,_,hs,hm,ht,λvx H1 x M1 hx VN e1 q1=>⟨δ,M1,_,hs.mono e1,VN,q1,λvy H2 y M2 hy V5 e2 q2=>by
  cases x with
  | ref p=>
   cases y with
   | int j0=>obtain⟨es,f1,q2⟩:=qC q2;obtain⟨j,f2,q2⟩:=qC q2;cases(hx.mono e2).mx;cases hy.int_inv;obtain⟨xs,h1,h2⟩:=Ei V5 f1;refine⟨p,xs,j0,j,rfl,rfl,h1,by rw[<-h2.length];exact f2,?_⟩;have hd2:=hd.mono (e1.trans e2);obtain⟨WJ,e3⟩:=V5.put (o:=.lst (xs.set j v)) (c:=.lst (es.set j d)) (pS f1) λex=>⟨_,pM,(h2.mono ex).set (hd2.mono ex) j⟩;exact k σ _ δ _ (hs.mono (e1.trans (e2.trans e3))) WJ (e1.trans (e2.trans e3)) rfl q2
   | _=>exact q2.elim
  | _=>exact q2.elim⟩⟩
end L3
namespace L2
open PySem PySem.Spec PyProof.Rows
variable {prog:Pg}{w:Wo}{A:Ar}{E:Vl→Sd→Prop}{s:Sd}{X:Cx}
end L2
namespace L3
open PySem PySem.Spec PyProof.Rows L2
variable {X:Cx}{pos VO p:Pos}{a b o e i value:Expr}{es:List Expr}{ta tb ti to tv td tk:T3}{t:wU}
def Rh(x y:D)(M:Mp)(Q:DK):Prop:=match x,y with
 | .ref a,.int k=>(oy M a).elim False λes=>(0<=k/\k<=1000/\es.length<=1000)/\∀p,M p=none->Q (.ref p) (oX M p (.lst (List.replicate k.toNat es).flatten))
 | _,_=>False
theorem HP{K:pU}{H:Hp}{ds:List D}{xs:List V}(h:pP K H ds xs):∀n:Nat,pP K H (List.replicate n ds).flatten (List.replicate n xs).flatten
 | 0=>.nil
 | n+1=>by rw[eF,eF,fM,fM];exact h.append (HP h n)
def Rf:wH X (binaryOp .Mult) (R3 X.K Rh):=λVL s σ H vx vy v u Q' I rx ry h=>by
 obtain⟨x,y,M,Q,hx,hy,hm,q,k⟩:=h;unfold Rh at q;split at q
 .obtain⟨es,e1,⟨q1,q2,q3⟩,q⟩:=qC q;cases hx.mx;cases hy.int_inv;obtain⟨xs,h1,h2⟩:=Ei hm e1;have hz:=dN;have hl:=h2.length;refine Ri VL s σ H _ _ v u Q' I rx ry ⟨_,_,xs,rfl,rfl,h1,by omega,by omega,?_,λpp hp=>?_⟩
  .exact dX (jX (show xs.length<=1000 by omega) (show Int.toNat _<=1000 by omega)) (by rw[hz];decide)
  .exact k _ _ _ _ .ref (hm.new (c:=.lst _) hp ⟨_,pM,(HP h2 _).mono (.new hp)⟩) (.new hp) (q pp (hm.fresh hp))
 .exact q.elim
def Sl(ta tb:T3):T3:=λδ M Q=>ta δ M λx M1=>tb δ M1 λy M2=>Rh x y M2 Q
def BN(ha:E3 X a ta)(hb:E3 X b tb):E3 X (.BinOp a .Mult b pos) (Sl ta tb):=PE.mono (Pv Rf ha hb) Hi
def AZ(kvs:List (qK×D))(k:qK)(v:D):List (qK×D):=if (kvs.any λkv=>decide (kv.1=k))=true then kvs.map (λkv=>if kv.1=k then(kv.1,v)else kv)else kvs++[(k,v)]
theorem E4{κ α β:Type}{k:κ}[DecidableEq κ]:∀{xs:List (κ×α)} {ys:List (κ×β)},xs.map (·.1)=ys.map (·.1)->(xs.any λkv=>decide (kv.1=k))=ys.any λkv=>decide (kv.1=k)
 | [],[],_=>rfl
 | [],_::_,e=>by cases e
 | _::_,[],e=>by cases e
 | x::xs,y::ys,e=>by obtain⟨e1,e2⟩:=gS e;rw[gc,gc,E4 e2];have e1:x.1=y.1:=e1;rw[e1]
def JC{K:pU}{H:Hp}{k:qK}{d:D}{v:V}(hv:rj K H d v){kvs:List (qK×D)}{vs:List (qK×V)}(h1:vs.map (·.1)=kvs.map (·.1))(h2:pP K H (kvs.map (·.2)) (vs.map (·.2))):
  (xc vs k v).map (·.1)=(AZ kvs k d).map (·.1)/\pP K H ((AZ kvs k d).map (·.2)) ((xc vs k v).map (·.2)):=by
 have go:∀{kvs:List (qK×D)} {vs:List (qK×V)},vs.map (·.1)=kvs.map (·.1)->pP K H (kvs.map (·.2)) (vs.map (·.2))->
   (vs.map (λkv=>if kv.1=k then(kv.1,v)else kv)).map (·.1)=(kvs.map (λkv=>if kv.1=k then(kv.1,d)else kv)).map (·.1)/\pP K H ((kvs.map (λkv=>if kv.1=k then(kv.1,d)else kv)).map (·.2)) ((vs.map (λkv=>if kv.1=k then(kv.1,v)else kv)).map (·.2)):=λ{kvs}=>by
  induction kvs with
  | nil=>intro vs e h;cases vs with
   | nil=>exact⟨rfl,.nil⟩
   | cons _ _=>cases e
  | cons c r ih=>intro vs e h;cases vs with
   | nil=>cases e
   | cons w ws=>
    obtain⟨e1,e2⟩:=gS e;obtain⟨x,xr,e3,g1,g2⟩:=h.inv;obtain⟨e4,e5⟩:=gS e3;subst e4 e5;obtain⟨i1,i2⟩:=ih e2 g2;have e1:w.1=c.1:=e1;by_cases hk:c.1=k
    .have w1:(if w.1=k then(w.1,v)else w)=(w.1,v):=cY (e1.trans hk);have w2:(if c.1=k then(c.1,d)else c)=(c.1,d):=cY hk;simp only[dR,w1,w2];exact⟨by rw[i1,e1],.cons hv i2⟩
    .have w1:(if w.1=k then(w.1,v)else w)=w:=cW λz=>hk (e1.symm.trans z);have w2:(if c.1=k then(c.1,d)else c)=c:=cW hk;simp only[dR,w1,w2];exact⟨by rw[i1,e1],.cons g1 i2⟩
 unfold xc AZ;rw[E4 (k:=k) h1];by_cases hk:(kvs.any λkv=>decide (kv.1=k))=true
 .rw[cY hk,cY hk];exact go h1 h2
 .rw[cW hk,cW hk];exact⟨by rw[dJ,dJ,h1];rfl,by rw[dJ,dJ];exact h2.append (.cons hv .nil)⟩
def Tz(td tk tv:T3):xx:=λD δ M=>tv δ M λv M1=>td δ M1 λx M2=>tk δ M2 λy M3=>match x,y with
 | .ref a,.str k=>(zd M3 a).elim False λkvs=>kvs.length<sizeLine/\D.nx δ (oX M3 a (.dk (AZ kvs (.inr k) v)))
 | _,_=>False
def yG{M:Mp}{a:Addr}{kvs:List (qK×D)}(h:zd M a=some kvs):M a=some (.dk kvs):=by
 unfold zd at h;split at h
 .rename_i e;rw[e];cases h;rfl
 .cases h
def Pa{VU:Pos}(hu:X.A.units+9<cLine)(ho:E3 X o td)(hi:E3 X i tk)(hv:E3 X value tv)(hs:swapsWith value (some (.Subscript o i VU)) pos.line X.env=pure false:=by rfl):S3 X (.Assign [.Subscript o i VU] value pos) (Tz td tk tv):=
 PS.mono (Ng (by omega) ho hi hv hs) λD' σ H zz=>JX zz λδ M D hs hm ht k1 k2 k3 k4=>
 ⟨δ,M,_,hs,hm,ht,λv H1 d M1 hd VN e1 q1=>⟨δ,M1,_,hs.mono e1,VN,q1,λvx H2 x M2 hx V5 e2 q2=>⟨δ,M2,_,hs.mono (e1.trans e2),V5,q2,λvy H3 y M3 hy WJ e3 q3=>by
  split at q3
  .rename_i a0 k0;obtain⟨kvs,f1,f2,q3⟩:=qC q3;cases(hx.mono e3).mx;cases hy.str_inv;obtain⟨vs,h1,h2,h3⟩:=By WJ f1;have hl:vs.length=kvs.length:=by have:=eQ List.length h2;simpa using this
   refine⟨_,_,rfl,KP.k (k:=Sum.inr k0) h1 (by omega),?_⟩;have hd3:=hd.mono (e2.trans e3);obtain⟨hm4,e4⟩:=WJ.put (o:=.dK (xc vs (Sum.inr k0) v)) (c:=.dk (AZ kvs (.inr k0) d)) (yG f1) λex=>by obtain⟨g1,g2⟩:=JC (k:=Sum.inr k0) (hd3.mono ex) h2 (h3.mono ex);exact⟨_,pM,g1,g2⟩
   exact k1 σ _ δ _ (hs.mono (e1.trans (e2.trans (e3.trans e4)))) hm4 (e1.trans (e2.trans (e3.trans e4))) rfl q3
  .exact q3.elim⟩⟩⟩
variable {VL:List (Addr × Obj)}{σ:St}{H:Hp}{s:Sd}{tp:Pos}{We:List Expr}{n:Nat}
end L3
namespace L2
open PySem PySem.Spec PyProof.Rows Builtin Builtin.Str
variable {prog:Pg}{w:Wo}{A:Ar}{E:Vl→Sd→Prop}{s:Sd}{X:Cx}
end L2
namespace L3
open PySem PySem.Spec PyProof.Rows L2 Builtin Builtin.Str
variable {X:Cx}{pos VO:Pos}{o e:Expr}{es:List Expr}{ta:T3}{t:wU}
@[irreducible] def SsI (X:Cx) (st:List Stmt) (t:xx):Prop:=Hd X st t
@[irreducible] def SI (X:Cx) (st:Stmt) (t:xx):Prop:=S3 X st t
@[irreducible] def EI (X:Cx) (e:Expr) (t:T3):Prop:=E3 X e t
@[irreducible] def AI (X:Cx) (es:List Expr) (t:wU):Prop:=A3 X es t
variable {prog:Pg}{w:Wo}{A:Ar}{E:Vl→Sd→Prop}{s:Sd}{VL:List (Addr × Obj)}{σ:St}{H:Hp}{p tp:Pos}{We:List Expr}{n:Nat}
theorem tK{g:B'}{tt:zK}{te:T3}{ok:Mp->Prop}{Q:DK}(all:List D)(J:List D->List D->uJ->Mp->Prop)(mG:∀p acc δ M,J p acc δ M->ok M):∀(ds pre acc:List D) (δ:uJ) (M:Mp),pre++ds=all->acc.length+ds.length<=sizeLine->J pre acc δ M->
  (∀pre d post,pre++d::post=all->∀acc δ M,J pre acc δ M->∀(k:uJ->DK) (k2:uJ->Mp->Prop),(∀δ2 y M4,J (pre++[d]) (acc++[y]) δ2 M4->k δ2 y M4)->(∀δ2 M3,J (pre++[d]) acc δ2 M3->k2 δ2 M3)->g d δ M λδ2 M2=>tt δ2 M2 λb M3=>if b=true then te δ2 M3 (k δ2)else k2 δ2 M3)->
  (∀acc δ M,J all acc δ M->∀p,M p=none->Q (.ref p) (oX M p (.lst acc)))->uC g tt te ok Q ds acc δ M
 | [],pre,acc,δ,M,e,hl,j,_,hq=>⟨by simpa using hl,hq acc δ M (by rw[<-e,eM];exact j)⟩
 | d::r,pre,acc,δ,M,e,hl,j,ht,hq=>by rw[dY]at hl;refine⟨by omega,?_⟩;refine ht pre d r e acc δ M j (λδ2 y M4=>ok M4/\uC g tt te ok Q r (acc++[y]) δ2 M4) (λδ2 M3=>ok M3/\uC g tt te ok Q r acc δ2 M3) (λδ2 y M4 j'=>⟨mG _ _ _ _ j',tK all J mG r (pre++[d]) (acc++[y]) δ2 M4 (by rw[<-e,fi];rfl) ?_ j' ht hq⟩) λδ2 M3 j'=>⟨mG _ _ _ _ j',tK all J mG r (pre++[d]) acc δ2 M3 (by rw[<-e,fi];rfl) (by omega) j' ht hq⟩;rw[cU,dH];omega
end L3
namespace L2
open PySem PySem.Spec PyProof.Rows
def Cx.nK(X:Cx)(E:Vl->Sd->Prop):Cx:={X with xe:=E}
def Inv.nK{X:Cx}{E:Vl->Sd->Prop}{VL:List (Addr×Obj)}{σ:St}{H:Hp}{s:Sd}(I:Inv X VL σ H s):Inv (X.nK E) VL σ H s:=
 ⟨⟨I.ok.mod,I.ok.kind,I.ok.glob,I.ok.blt,I.ok.above,I.ok.inj,I.ok.has,I.ok.oj,I.ok.hd,I.ok.frames,I.ok.om,I.ok.oG,I.ok.bs,I.ok.nN,I.ok.nF,I.ok.nJ,I.ok.mZ,I.ok.nS⟩,I.os,I.bare,I.base,I.loc,I.cell,I.free,I.mM,I.pin,I.mG,I.len⟩
def Inv.xeOf{X:Cx}{E:Vl->Sd->Prop}{VL:List (Addr×Obj)}{σ:St}{H:Hp}{s:Sd}(I:Inv (X.nK E) VL σ H s):Inv X VL σ H s:=
 ⟨⟨I.ok.mod,I.ok.kind,I.ok.glob,I.ok.blt,I.ok.above,I.ok.inj,I.ok.has,I.ok.oj,I.ok.hd,I.ok.frames,I.ok.om,I.ok.oG,I.ok.bs,I.ok.nN,I.ok.nF,I.ok.nJ,I.ok.mZ,I.ok.nS⟩,I.os,I.bare,I.base,I.loc,I.cell,I.free,I.mM,I.pin,I.mG,I.len⟩
end L2
namespace L3
open PySem PySem.Spec PyProof.Rows L2
end L3
namespace L2
open PySem PySem.Spec PyProof.Rows
end L2
namespace L3
open PySem PySem.Spec PyProof.Rows L2
variable {X:Cx}{pos p tp kpos:Pos}{We:List Expr}{n:Nat}
end L3
namespace L2
open PySem PySem.Spec PyProof.Rows
variable {prog:Pg}{w:Wo}{A:Ar}{E:Vl→Sd→Prop}{s:Sd}{a:Addr}{δ:Type}{k:Str}{tk:Tok}
section
variable {R:δ→Vl→Prop}{D:List (Str × δ)}
end
end L2
namespace L3
open PySem PySem.Spec PyProof.Rows L2
variable {X:Cx}{pos p:Pos}{x:Str}{d:D}{e o i:Expr}{ta tb td tk:T3}{F:List (Str × List Str)}
end L3
namespace L2
open PySem PySem.Spec PyProof.Rows
def K'(h:Heap)(e:Addr)(cls:Vl)(dx tb:Option Addr)(F:Vl):Prop:=
 ∃oe vs,h.get? e=some oe/\oe.cls=cls/\oe.dict=dx/\oe.data=.fields vs/\1<vs.size/\vs[1]?=some (tb.elim Value.none Value.ref)/\∀T,tb=some T->T≠e/\∃oT ts,h.get? T=some oT/\oT.data=.fields ts/\3<ts.size/\ts[3]?=some F
def OV(h:Heap)(e:Addr)(cls:Vl)(dx tb:Option Addr):Prop:=K' h e cls dx tb Value.none
theorem Bx{h base:Heap}:∀{l:List Env} {b:Addr},h.FunFrames base l->b∈vC l->∃o,h.get? b=some o/\∀vs,o.data≠.fields vs
 | [],b,_,hb=>by cases hb
 | env::r,b,hF,hb=>by
  obtain⟨_,⟨L,o,hL,_,ho,hd⟩,hr⟩:=hF;have e:vC (env::r)=L::vC r:=by unfold vC;rw[fY,hL]
  rw[e]at hb;rcases c9.mp hb with z|z
  .rw[z];exact⟨o,ho,hd⟩
  .exact Bx hr z
def CU{h base:Heap}{l:List Env}{b:Addr}{o:Obj}{vs:Array Vl}(hF:h.FunFrames base l)(ho:h.get? b=some o)(hd:o.data=.fields vs):b∉vC l:=λhb=>by obtain⟨o',Wu,hn⟩:=Bx hF hb;rw[ho]at Wu;cases Wu;exact hn vs hd
variable {M:Model}{A:Ar}{s:Sd}{base:Heap}{env:Env}{outer:List Env}{L e:Addr}{cls:Vl}{dx:Option Addr}{Q:Unit→Sd→Prop}
section
variable {E:Vl→Sd→Prop}
def Oo{W6:Vl}{Yd:Bool}{oe:Obj}{vs:Array Vl}{Ww:Env}(hcf:Ww.frame=some L)(XT:A.frames=some (env::outer))(hF:s.heap.FunFrames base (env::outer))(hL:env.frame=some L)(ho:s.heap.get? e=some oe)(hd:oe.data=.fields vs)(h1:1<vs.size) (k:∀(h':Heap) (T:Addr),s.heap.get? T=none->(∀b o,s.heap.get? b=some o->b∉vC (env::outer)->b≠e->h'.get? b=some o)->(∀b o,s.heap.get? b=some o->b∈vC (env::outer)->∃sl,h'.get? b=some {o with slots:=sl})->
   (∃oe',h'.get? e=some oe'/\oe'.cls=oe.cls/\oe'.dict=oe.dict/\oe'.data=.fields (vs.setIfInBounds 1 (.ref T)))->(∃oT ts,h'.get? T=some oT/\oT.data=.fields ts/\3<ts.size/\ts[3]?=some (rawInt ↑L))->Q () {s with heap:=h'}):
  wpAny M A (do
   let a<-PySem.frameOf Ww;let pl<-entryPlaceOf L Yd;let b<-EntryCells.newEntry W6 a Value.none (rawInt ↑L) Value.none pl
   setField (Value.ref e) 1 b) Q E s:=by
 have ne:=CU hF ho hd;unfold PySem.frameOf;refine cS (cS (wpAny_frameEnvs XT (cS ?_)));have ed:List.dropWhile (λx=>x.frame != Ww.frame) (env::outer)=env::outer:=by rw[List.dropWhile_cons,cW (by rw[hL,hcf];simp)]
 rw[ed];unfold frameObject;refine cS (wpAny_readyFrames_fun hF λWy hs=>?_);obtain⟨z1,z2,z3⟩:=hs;rw[hL];refine cZ (cZ ?_);refine cS (wpAny_entryPlaceOf λpl hp=>?_);refine cS ?_;unfold EntryCells.newEntry newFields;have VR:([W6,Value.ref L,Value.none,rawInt ↑L,Value.none]++if pl.isEmpty=true then List.replicate 6 Value.none else pl).length=11:=by rw[cU];rcases hp with rfl|⟨_,_,_,_,_,_,_,rfl⟩<;>rfl
 have hfl:([W6,Value.ref L,Value.none,rawInt ↑L,Value.none]++if pl.isEmpty=true then List.replicate 6 Value.none else pl)[3]?=some (rawInt ↑L):=rfl;generalize ([W6,Value.ref L,Value.none,rawInt ↑L,Value.none]++if pl.isEmpty=true then List.replicate 6 Value.none else pl)=fs at VR hfl ⊢;refine fT ?_ (by
  show fs.toArray.size<=_;rw[dh,VR];decide)
 have e1:Wy.get? e=some oe:=by rw[z2 e ne];exact ho
 have e2:(Wy.push {cls:=.type "traceback",data:=.fields fs.toArray}).get? e=some oe:=cX _ e1;refine hZ e2 hd h1 ?_;have tn:s.heap.get? Wy.objs.size=none:=gJ (by rw[z1];exact de _);have te:Wy.objs.size≠e:=λz=>by rw[z,ho]at tn;cases tn
 obtain⟨oc,od,YX,WI⟩:=oe;obtain rfl:YX=.fields vs:=hd;have up:∀b,e≠b->((Wy.push {cls:=.type "traceback",data:=.fields fs.toArray}).update e (Obj.mapFields λx=>x.setIfInBounds 1 (.ref Wy.objs.size))).get? b=(Wy.push {cls:=.type "traceback",data:=.fields fs.toArray}).get? b:=λb z=>gb _ _ z;refine k _ Wy.objs.size tn (λb o hb nf ne'=>?_) (λb o hb hf=>?_) ⟨_,fG _ e2 rfl,rfl,rfl,rfl⟩ ⟨_,fs.toArray,(up _ (dM te)).trans (dF _ rfl),rfl,by rw[dh,VR];decide,by rw[iD];exact hfl⟩
 .rw[up b (dM ne')];exact cX _ (by rw[z2 b nf];exact hb)
 .obtain⟨sl,q⟩:=z3 b o hb;refine⟨sl,?_⟩;rw[up b (λz=>ne (z ▸ hf))];exact cX _ q
def Rk{E₁:Vl->Sd->Prop}{tb:Option Addr}{F:Vl}{Ww:Env}(hcf:Ww.frame=some L)(XT:A.frames=some (env::outer))(hF:s.heap.FunFrames base (env::outer))(hL:env.frame=some L)(hx:K' s.heap e cls dx tb F)(hFL:(F==rawInt ↑L)=false) (k:∀(h':Heap) (T:Addr),s.heap.get? T=none->(∀b o,s.heap.get? b=some o->b∉vC (env::outer)->b≠e->tb≠some b->h'.get? b=some o)->(∀b o,s.heap.get? b=some o->b∈vC (env::outer)->∃sl,h'.get? b=some {o with slots:=sl})->
   (∀b,h'.get? b=none->s.heap.get? b=none)->K' h' e cls dx (some T) (rawInt ↑L)->Q () {s with heap:=h'}):wpAny M A (noteFrame (.ref e) Ww) Q E₁ s:=by
 obtain⟨oe,vs,ho,hc,XF,hd,h1,hv,hT⟩:=hx;have ne:=CU hF ho hd;unfold noteFrame;rw[hcf];refine cS (e9 ho hd hv ?_);have VP:∀(s1:Sd) (oe1:Obj),s1.gens=s.gens->s1.drawn=s.drawn->s1.toks=s.toks->s1.os=s.os->s1.heap.FunFrames base (env::outer)->s1.heap.get? e=some oe1->oe1.cls=cls->oe1.dict=dx->oe1.data=.fields vs->(∀b o,s.heap.get? b=some o->b∉vC (env::outer)->b≠e->tb≠some b->s1.heap.get? b=some o)->
   (∀b o,s.heap.get? b=some o->b∈vC (env::outer)->s1.heap.get? b=some o)->(∀b,s1.heap.get? b=none↔s.heap.get? b=none)->∀(W6:Vl) (Yd:Bool),wpAny M A (do
   let a<-PySem.frameOf Ww;let pl<-entryPlaceOf L Yd;let b<-EntryCells.newEntry W6 a Value.none (rawInt ↑L) Value.none pl
   setField (Value.ref e) 1 b) Q E₁ s1:=by
  intro s1 oe1 g1 g2 g3 g4 hF1 ho1 hc1 hdx1 hd1 kb kf kn W6 Yd;refine Oo hcf XT hF1 hL ho1 hd1 h1 λh' T tn k1 k2 ⟨oe',he',YW,hdxe,hde⟩ ⟨oT,ts,WY,Xt,h3,h3v⟩=>?_;have te:T≠e:=λz=>by rw[z,ho1]at tn;cases tn
  have:=k h' T ((kn T).mp tn) (λb o hb nf nb nt=>k1 b o (kb b o hb nf nb nt) nf nb) (λb o hb hf=>k2 b o (kf b o hb hf) hf) (λb hb=>?_) ⟨oe',vs.setIfInBounds 1 (.ref T),he',YW.trans hc1,hdxe.trans hdx1,hde,by rw[jB];exact h1,by rw[ig h1];rfl,λT' eT=>?_⟩
  .show Q () {heap:=_,gens:=s1.gens,drawn:=s1.drawn,toks:=s1.toks,os:=s1.os};rw[g1,g2,g3,g4];exact this
  .refine(kn b).mp ?_;cases q:s1.heap.get? b with
   | none=>rfl
   | some o=>
    by_cases z:b=e
    .rw[z,he']at hb;cases hb
    .by_cases zf:b∈vC (env::outer)
     .obtain⟨sl,q2⟩:=k2 b o q zf;rw[q2]at hb;cases hb
     .rw[k1 b o q zf z]at hb;cases hb
  .cases eT;exact⟨te,oT,ts,WY,Xt,h3,h3v⟩
 cases tb with
 | none=>rw[cW (show ¬((none:Option Addr).elim Value.none Value.ref != Value.none)=true by decide+kernel)];exact VP s oe rfl rfl rfl rfl hF ho hc XF hd (λb o hb _ _ _=>hb) (λb o hb _=>hb) (λb=>.rfl) _ _
 | some T=>
  obtain⟨nTe,oT,ts,WY,Xt,h3,hn⟩:=hT T rfl;rw[cY (show((some T:Option Addr).elim Value.none Value.ref != Value.none)=true by rfl)];refine cS (e9 WY Xt hn ?_);rw[cW (by rw[hFL];exact dw)];refine cS (hZ WY Xt h3 ?_);have up:∀b,T≠b->(s.heap.update T (Obj.mapFields λx=>x.setIfInBounds 3 .none)).get? b=s.heap.get? b:=λb z=>gb _ _ z;have nf:∀b o,s.heap.get? b=some o->(∀vs,o.data≠.fields vs)->T≠b:=λb o hb hn z=>by rw[<-z,WY]at hb;cases hb;exact hn ts Xt
  have sz:∀b,(s.heap.update T (Obj.mapFields λx=>x.setIfInBounds 3 .none)).get? b=none↔s.heap.get? b=none:=λb=>by
   by_cases z:T=b
   .rw[<-z];obtain⟨oc,od,YX,WI⟩:=oT;obtain rfl:YX=.fields ts:=Xt;rw[fG _ WY rfl,WY];exact⟨(λq=>by cases q),(λq=>by cases q)⟩
   .rw[up b z]
  exact VP {s with heap:=s.heap.update T (Obj.mapFields λx=>x.setIfInBounds 3 .none)} oe rfl rfl rfl rfl (mi (λb o hb hn=>⟨o,(up b (nf b o hb hn)).trans hb,rfl⟩) hF) ((up e nTe).trans ho) hc XF hd
   (λb o hb _ _ nt=>(up b λz=>nt (by rw[z])).trans hb) (λb o hb hf=>by
    obtain⟨o',Wu,hn⟩:=Bx hF hf;rw[hb]at Wu;cases Wu;exact(up b (nf b o hb hn)).trans hb) sz _ _
def K5{T:Addr}{F:Vl}(x:Option Addr)(hx:K' s.heap e cls dx (some T) F)(k:∀h':Heap,(∀b,T≠b->h'.get? b=s.heap.get? b)->(∀b,h'.get? b=none↔s.heap.get? b=none)->K' h' e cls dx (some T) (x.elim .none λf=>rawInt f)->Q () {s with heap:=h'}):wpAny M A (setFlight (.ref e) x) Q E s:=by
 obtain⟨oe,vs,ho,hc,XF,hd,h1,hv,hT⟩:=hx;obtain⟨nTe,oT,ts,WY,Xt,h3,hn⟩:=hT T rfl;unfold setFlight;refine cS (e9 ho hd hv ?_);rw[cY (by rfl)];refine hZ WY Xt h3 ?_;obtain⟨oc,od,YX,WI⟩:=oT;obtain rfl:YX=.fields ts:=Xt;have up:∀b,T≠b->(s.heap.update T (Obj.mapFields λy=>y.setIfInBounds 3 (x.elim .none λf=>rawInt f))).get? b=s.heap.get? b:=λb z=>gb _ _ z;refine k _ up (λb=>?_) ⟨oe,vs,(up e nTe).trans ho,hc,XF,hd,h1,hv,λT' eT=>?_⟩
 .by_cases z:T=b
  .rw[<-z,fG _ WY rfl,WY];exact⟨(λq=>by cases q),(λq=>by cases q)⟩
  .rw[up b z]
 .cases eT;exact⟨nTe,_,ts.setIfInBounds 3 (x.elim .none λf=>rawInt f),fG _ WY rfl,rfl,by rw[jB];exact h3,by rw[ig h3]⟩
def Hs{E₁ E₂:Vl->Sd->Prop}{tb:Option Addr}(XT:A.frames=some (env::outer))(hF:s.heap.FunFrames base (env::outer))(hL:env.frame=some L)(hx:OV s.heap e cls dx tb) (k:∀(h':Heap) (T:Addr),s.heap.get? T=none->(∀b o,s.heap.get? b=some o->b∉vC (env::outer)->b≠e->tb≠some b->h'.get? b=some o)->(∀b o,s.heap.get? b=some o->b∈vC (env::outer)->∃sl,h'.get? b=some {o with slots:=sl})->
   OV h' e cls dx (some T)->Q () {s with heap:=h'}):wpAny M A (noteFrame (.ref e) env) (λ_ s₂=>wpAny M A (setFlight (.ref e) none) Q E₂ s₂) E₁ s:=by
 refine Rk hL XT hF hL hx (dE.mpr λz=>by have:=fk.mp z;cases this) λh' T tn k1 k2 _ x'=>?_;refine K5 none x' λh2 up _ x2=>k h2 T tn (λb o hb nf nb nt=>?_) (λb o hb hf=>?_) x2
 .have tb:T≠b:=λz=>by rw[z,hb]at tn;cases tn
  exact(up b tb).trans (k1 b o hb nf nb nt)
 .have tb:T≠b:=λz=>by rw[z,hb]at tn;cases tn
  obtain⟨sl,q⟩:=k2 b o hb hf;exact⟨sl,(up b tb).trans q⟩
def OZ{tb:Option Addr}(XT:A.frames=some (env::outer))(hF:s.heap.FunFrames base (env::outer))(hL:env.frame=some L)(hx:OV s.heap e cls dx tb) (k:∀(h':Heap) (T:Addr),s.heap.get? T=none->(∀b o,s.heap.get? b=some o->b∉vC (env::outer)->b≠e->tb≠some b->h'.get? b=some o)->(∀b o,s.heap.get? b=some o->b∈vC (env::outer)->∃sl,h'.get? b=some {o with slots:=sl})->
   OV h' e cls dx (some T)->Q () {s with heap:=h'}):wpAny M A (leaving env (.ref e)) Q E s:=cS (Hs XT hF hL hx k)
end
def A8(P:Pg)(w:Wo):JY:=λouter H s E ev s'=>Gh λe C dx H' tb=>ev=.ref e/\E (.ref C) dx H'/\s'.os=s.os/\AllBare s'.gens/\Un (vC outer) [] H H' s.heap s'.heap/\xN P w H' s'.heap/\
 OV s'.heap e (.ref C) dx (some tb)/\s.heap.get? e=none/\s.heap.get? tb=none/\H' e=none/\H' tb=none
def xK{P:Pg}{w:Wo}{H:Hp}{h:Heap}{a:Addr}{o:HO}(x:rK P w H h a o):∃ob,h.get? a=some ob:=by
 cases o with
 | lst xs=>obtain⟨_,_,_,_,e⟩:=x;exact⟨_,e⟩
 | tup xs=>obtain⟨_,_,_,o,e,_⟩:=x;exact⟨_,e⟩
 | dK kvs=>obtain⟨_,_,_,_,o,_,_,e,_⟩:=x;exact⟨_,e⟩
 | dT kvs=>obtain⟨_,_,_,_,o,_,_,e,_⟩:=x;exact⟨_,e⟩
 | set S n=>obtain⟨o,_,_,_,e,_⟩:=x;exact⟨_,e⟩
 | ins C dx fs=>obtain⟨_,_,_,e,_⟩:=x;exact⟨_,e⟩
 | own y=>exact x
 | xd fs=>obtain⟨_,⟨_,_,_,e,_⟩,_⟩:=x;exact⟨_,e⟩
 | rng lo hi=>obtain⟨_,_,_,e⟩:=x;exact⟨_,e⟩
 | frz ob u=>obtain⟨e,_⟩:=x;exact⟨_,e⟩
 | tbl ps=>exact⟨_,x⟩
 | met f y=>exact⟨_,x⟩
 | ext φ=>obtain⟨_,e,_⟩:=x;exact e
def yC{P:Pg}{w:Wo}{H:Hp}{h:Heap}{T:Addr}(mG:xN P w H h)(tn:h.get? T=none):H T=none:=by
 cases z:H T with
 | none=>rfl
 | some o=>obtain⟨ob,hob⟩:=xK (mG T o z);rw[hob]at tn;cases tn
variable {P:Pg}{w:Wo}{K:pU}{mg:Str→Option Vl}{N:List Str}{qual:Str}{scope:Scope}{f:Addr}{cd:Vl}{s0:Sd}{H0:Hp}
section
variable {E:XK}
def FM{fs ex:List Addr}{H H':Hp}{h h':Heap}(u:Un fs ex H H' h h')(hex:ex=[]){b:Addr}(hb:h'.get? b=none):h.get? b=none:=by
 cases q:h.get? b with
 | none=>rfl
 | some o=>obtain⟨o',e⟩:=u.there b o q (by rw[hex];simp);rw[e]at hb;cases hb
def KU{VL:List (Addr×Obj)}{σ:St}{H:Hp}{s:Sd}{e C T:Addr}{tb dx:Option Addr}{h':Heap}(I:Inv (uR (A8 P w) P w K mg base N qual scope f cd A outer s0 H0 E) VL σ H s)(he:s0.heap.get? e=none)(Wx:∀T,tb=some T->s0.heap.get? T=none/\H T=none)(hn:H e=none)(q:E (.ref C) dx H)(hT:s0.heap.get? T=none/\H T=none) (k1:∀b o,s.heap.get? b=some o->b∉vC (envOfC qual scope s0.heap.objs.size f cd::outer)->b≠e->tb≠some b->h'.get? b=some o) (k2:∀b o,s.heap.get? b=some o->b∈vC (envOfC qual scope s0.heap.objs.size f cd::outer)->∃sl,h'.get? b=some {o with slots:=sl}) (x':OV h' e (.ref C) dx (some T)):
  A8 P w outer H0 s0 E (.ref e) {s with heap:=h'}:=by
 have WA:=I.nq;have VZ:∀b o,H b=some o->∀u,s.heap.get? b=some u->h'.get? b=some u:=λb o hb u hu=>k1 b u hu (λz=>by rw[WA b z]at hb;cases hb) (λz=>by rw[z,hn]at hb;cases hb) (λz=>by rw[(Wx b z).2]at hb;cases hb);have oldf:∀b o,s0.heap.get? b=some o->b∉vC [envOfC qual scope s0.heap.objs.size f cd]:=λb o hb z=>by
  have:b=s0.heap.objs.size:=by have hz:b∈[s0.heap.objs.size]:=z;exact dg.mp hz
  rw[this]at hb;exact absurd (dv hb) (eY _)
 have fr:∀b,b∈vC (envOfC qual scope s0.heap.objs.size f cd::outer)->b∈vC [envOfC qual scope s0.heap.objs.size f cd]\/b∈vC outer:=λb hb=>by
  have hb:b∈s0.heap.objs.size::vC outer:=hb;rcases c9.mp hb with z|z
  .exact .inl (by rw[z];exact dO)
  .exact .inr z
 have Wh:Un (vC outer) [] H0 H s0.heap s.heap:=I.base;refine⟨e,C,dx,H,T,rfl,q,I.os,I.bare,⟨λb o hb h0 nf ne=>?_,λb o hb h0 hf ne=>?_,Wh.free,λb o hb ne=>?_,Wh.m7,Wh.mX,Wh.nj⟩,λb o hb=>?_,x',he,hT.1,hn,hT.2⟩
 .have hs:=Wh.keep b o hb h0 nf ne;refine k1 b o hs (λz=>?_) (λz=>by rw[z,he]at hb;cases hb) λz=>by rw[(Wx b z).1]at hb;cases hb
  rcases fr b z with z|z
  .exact oldf b o hb z
  .exact nf z
 .obtain⟨sl,hs⟩:=Wh.slot b o hb h0 hf ne;have:b∈vC (envOfC qual scope s0.heap.objs.size f cd::outer):=dC _ hf;obtain⟨Xh,h2⟩:=k2 b _ hs this;exact⟨Xh,h2⟩
 .obtain⟨o',hs⟩:=Wh.there b o hb ne;by_cases z:b∈vC (envOfC qual scope s0.heap.objs.size f cd::outer)
  .obtain⟨sl,h2⟩:=k2 b o' hs z;exact⟨_,h2⟩
  .exact⟨o',k1 b o' hs z (λz=>by rw[z,he]at hb;cases hb) λz=>by rw[(Wx b z).1]at hb;cases hb⟩
 .refine(I.mG b o hb).mV (λb' u WH hu=>?_) (λ_ q=>q) λ_ _ q=>q;rcases WH with z|z
  .subst z;exact VZ b' o hb u hu
  .exact VZ b' _ z u hu
def Sv{VL:List (Addr×Obj)}{σ:St}{H:Hp}{s:Sd}{e C:Addr}{tb dx:Option Addr}(I:Inv (uR (A8 P w) P w K mg base N qual scope f cd A outer s0 H0 E) VL σ H s)(hx:OV s.heap e (.ref C) dx tb)(he:s0.heap.get? e=none)(hT:∀T,tb=some T->s0.heap.get? T=none/\H T=none)(hn:H e=none)(q:E (.ref C) dx H):
  (uR (A8 P w) P w K mg base N qual scope f cd A outer s0 H0 E).xe (.ref e) s:=
 OZ (base:=base) (outer:=outer) I.ok.frames I.stack rfl hx λh' T tn k1 k2 x'=>KU I he hT hn q ⟨FM (show Un (vC outer) [] H0 H s0.heap s.heap from I.base) rfl tn,yC I.mG tn⟩ k1 k2 x'
end
section
variable {E:XK}
end
def ME(d:Addr)(f:Str)(v:V)(h:Heap):Prop:=∃u,h.Ns1 d (λy=>if y=f then some u else none)/\qp v u
end L2
namespace L3
open PySem PySem.Spec PyProof.Rows L2
abbrev XR:=Addr->Option (Str×D)->Mp->Prop
abbrev Fc:=List D->Mp->DK->XR->Prop
def TM(K:pU)(H:Hp)(dx:Option Addr)(y:Option (Str×D)):Prop:=(dx=none/\y=none)\/zZ λd f z v=>dx=some d/\y=some (f,z)/\H d=some (.ext (ME d f v))/\rj K H z v
def S8(K:pU)(R:XR)(E:XK):Prop:=∀C dx H M y,HM K H M->TM K H dx y->R C y M->E (.ref C) dx H
def UW(K:pU)(sp:Fc):Sp:=λvs H Q' E=>zZ λds M Q R=>pP K H ds vs/\HM K H M/\sp ds M Q R/\Up K H Q' Q/\S8 K R E
abbrev QC(P:Pg)(w:Wo)(K:pU)(mg:Str->Option Vl)(base:Heap)(k:Nat)(f:Addr)(fd:FuncData)(ps:List Str)(sp:Fc):Prop:=wD P w K mg base (A8 P w) k f fd ps (UW K sp)
variable {X:Cx}{x:Str}{p pos np VS:Pos}{e:Expr}{es:List Expr}{t:wU}{k:Nat}{f C:Addr}{fd:FuncData}{ps:List Str}{sp:Fc}{R:XR}{E:XK}{P:Pg}{w:Wo}{K:pU}{mg:Str→Option Vl}{base:Heap}{N:List Str}{qual:Str}{scope:Scope}{cd:Vl}{A:Ar}{outer:List Env}{s0:Sd}{H0:Hp}{ta:wU}
def Tc{x qual:Str}{st:Stmt}{f:Addr}{fd:FuncData}{N ps:List Str}{k:Nat}{sp:Fc}(F:Pi K x qual st f fd)(S:so N ps (pL st))(len:∀ds M Q R,sp ds M Q R->ds.length=ps.length) (Wa:∀(VV:Vl) (A:Ar) (outer:List Env) (s:Sd) (H:Hp) (E:XK) (R:XR),rB k (A.deeper (envOfC qual (pL st) s.heap.objs.size f VV))->S8 K R E->
   ∃t,Hd (uR (A8 P w) P w K mg base N qual (pL st) f VV A outer s H E) (rm st) t/\∀ds M Q,sp ds M Q R->t {nx:=λ_ M'=>∃VQ,qa VQ M'/\Q .mC VQ,rt:=λd M'=>∃VQ,qa VQ M'/\Q d VQ} (wg N ds) M):QC P w K mg base (k+1) f fd ps sp:=by
 obtain⟨oc,od,kV,Ws,pm,an,VV,ct,WI,rfl,lk,WO⟩:=F.ex;refine KQ lk WO S (λvs H Q E h=>?_) λA outer s H vs Q' E hr h=>?_
 .obtain⟨ds,M,Q,R,hd,_,hs,_⟩:=h;rw[<-hd.length];exact len ds M Q R hs
 .obtain⟨ds,M,Q,R,hd,hm,hs,k,hR⟩:=h;obtain⟨t,ht,hb⟩:=Wa VV A outer s H E R hr hR;exact⟨_,ht,wg N ds,M,_,Dk hd,hm,hb ds M Q hs,λσ' H' δ' M' _ x2 x3 _ ⟨VQ,y1,y2⟩=>k .mC H' .mC VQ .mC (x2.sub y1) x3 y2,λv H' d M' x1 x2 x3 ⟨VQ,y1,y2⟩=>k v H' d VQ x1 (x2.sub y1) x3 y2,λ_ _ _ _ _ _ _ _ z=>z,λ_ _ _ _ _ _ _ _ z=>z⟩
end L3
namespace L2
open PySem PySem.Spec PyProof.Rows
def TKept(H H':Hp):Prop:=(∀b xs,H b=some (.tup xs)->H' b=some (.tup xs))/\∀b o u,H b=some (.frz o u)->H' b=some (.frz o u)
def Uh(X:Cx)(VL:List (Addr×Obj))(σ:St)(J:Hp->Prop)(E:XK)(ev:Vl)(s':Sd):Prop:=Bj λH s=>J H/\Inv X VL σ H s/\A8 X.prog X.w X.stack H s E ev s'
def Sj(X:Cx)(VL:List (Addr×Obj))(σ:St)(J:Hp->Prop)(E:XK)(ev:Vl)(s':Sd):Prop:=RW λa C dx H' tb H1 s1=>ev=.ref a/\E (.ref C) dx H'/\Inv X VL σ H' s'/\OV s'.heap a (.ref C) dx (some tb)/\H' a=none/\H' tb=none/\J H1/\TKept H1 H'/\Inv X VL σ H1 s1/\s1.heap.get? a=none
def Rc{X:Cx}{M:Model}{E₁ E₂:Vl->Sd->Prop}{VL:List (Addr×Obj)}{σ:St}{J:Hp->Prop}{E:XK}{ev:Vl}{s':Sd}{outer:List Env}{L:Addr}(h:Uh X VL σ J E ev s')(V9:X.stack=X.env::outer)(hL:X.env.frame=some L):
  wpAny M X.A (noteFrame ev X.env) (λ_ s₂=>wpAny M X.A (setFlight ev none) (λ_ s₃=>Sj X VL σ J E ev s₃) E₂ s₂) E₁ s':=by
 obtain⟨H,s,jH,I,e,C,dx,H',tb,rfl,q,os,bare,un,mG,x,he,ht,ne,nt⟩:=h;obtain⟨hh,g,d,t,YE⟩:=s';obtain rfl:YE=s.os:=os;have I':=I.call (h':=hh) (g':=g) (d':=d) (t':=t) (ch:=[]) un mG bare (λb z=>absurd z (by simp));have hF:=I'.stack;have WA:=I'.nq;have XT:=I.ok.frames;rw[V9]at hF XT;refine Hs (base:=X.base) (outer:=outer) XT hF hL x λh' T tn k1 k2 x'=>?_;have VZ:∀b o,H' b=some o->∀u,hh.get? b=some u->h'.get? b=some u:=λb o hb u hu=>k1 b u hu (λz=>by rw[WA b (by rw[V9];exact z)]at hb;cases hb) (λz=>by rw[z,ne]at hb;cases hb) (λz=>by cases z;rw[nt]at hb;cases hb);have un':Un (vC X.stack) [] H H' s.heap h':=by
  refine⟨λb o hb h0 nf nx=>?_,λb o hb h0 hf nx=>?_,un.free,λb o hb nx=>?_,un.m7,un.mX,un.nj⟩
  .exact k1 b o (un.keep b o hb h0 nf nx) (λz=>nf (by rw[V9];exact z)) (λz=>by rw[z,he]at hb;cases hb) λz=>by cases z;rw[ht]at hb;cases hb
  .obtain⟨sl,hs⟩:=un.slot b o hb h0 hf nx;obtain⟨Xh,h2⟩:=k2 b _ hs (by rw[<-V9];exact hf);exact⟨Xh,h2⟩
  .obtain⟨o',hs⟩:=un.there b o hb nx;by_cases z:b∈vC (X.env::outer)
   .obtain⟨sl,h2⟩:=k2 b o' hs z;exact⟨_,h2⟩
   .exact⟨o',k1 b o' hs z (λz=>by rw[z,he]at hb;cases hb) λz=>by cases z;rw[ht]at hb;cases hb⟩
 have YJ:xN X.prog X.w H' h':=λb o hb=>(mG b o hb).mV (λb' u WH hu=>by
  rcases WH with z|z
  .subst z;exact VZ b' o hb u hu
  .exact VZ b' _ z u hu) (λ_ q=>q) λ_ _ q=>q
 have I3:Inv X VL σ H' {heap:=h',gens:=g,drawn:=d,toks:=t,os:=s.os}:=Inv.call (s:=s) (ch:=[]) I un' YJ bare (λb z=>absurd z (by simp));refine⟨e,C,dx,H',T,H,s,rfl,q,I3,x',ne,?_,jH,⟨un.m7,un.mX⟩,I,he⟩;cases z:H' T with
 | none=>rfl
 | some o=>obtain⟨ob,hob⟩:=xK (mG T o z);have tn:hh.get? T=none:=tn;rw[hob]at tn;cases tn
variable {X:Cx}{VL:List (Addr × Obj)}{σ σ':St}{H H1:Hp}{s s1:Sd}{ev:Vl}{E':Vl→Sd→Prop}{a:Addr}
def Inv.adopt{o:HO}(I:Inv X VL σ H s)(I1:Inv X VL σ' H1 s1)(n1:s1.heap.get? a=none)(hn:H a=none)(ok:rK X.prog X.w (upd H a o) s.heap a o):Inv X VL σ (upd H a o) s:=by
 have ne:∀b ob,s1.heap.get? b=some ob->b≠a:=λb ob e z=>by rw[z,n1]at e;cases e
 have nh:∀b ob,H b=some ob->b≠a:=λb ob e z=>by rw[z,hn]at e;cases e
 refine⟨I.ok,I.os,I.bare,⟨I.base.keep,I.base.slot,λb o' e h0 hb=>?_,I.base.there,λb xs e=>?_,λb o' u e=>?_,λb ps e=>?_⟩,I.loc,I.cell,?_,λx c e=>?_,λp hp=>?_,λb ob e=>?_,I.len⟩
 .obtain⟨o2,e2⟩:=I1.base.there b o' e hb;rw[pF (ne b o2 e2)];exact I.base.free b o' e h0 hb
 .have:=I.base.m7 b xs e;rw[pF (nh b _ this)];exact this
 .have:=I.base.mX b o' u e;rw[pF (nh b _ this)];exact this
 .obtain⟨more,this⟩:=I.base.nj b ps e;exact⟨more,by rw[pF (nh b _ this)];exact this⟩
 .obtain⟨m,⟨o2,_,_,e2,_⟩,_⟩:=I1.loc;rw[pF (ne _ o2 e2)];exact I.free
 .obtain⟨v,o2,e2,_⟩:=I1.cell x c e;rw[pF (ne _ o2 e2)];exact I.mM x c e
 .obtain⟨e1,e2,e3,e4,e5⟩:=I.pin p hp;exact⟨e1,by rw[pF (ne _ _ (I1.pin p hp).1)];exact e2,e3,e4,e5⟩
 .by_cases z:b=a
  .subst z;rw[pM]at e;cases e;exact ok
  .rw[pF z]at e;exact(I.mG b ob e).mV (λ_ _ _ q=>q) (λb' q=>by rw[pF (nh b' _ q)];exact q) λb' xs q=>by rw[pF (nh b' _ q)];exact q
def Inv.locs{h':Heap}{m':Str->Option Vl}(I:Inv X VL σ H s)(hn:h'.Ns X.env.locals m')(hs:Heap.SameBut X.env.locals s.heap h')(hl:σ'.length=X.N.length) (hm:∀m,s.heap.Ns X.env.locals m->(∀(i:Nat) (x:Str) (v:V),X.N[i]?=some x->σ[i]?=some (some v)->Qk X.env.scope x->∃u,qp v u/\Tv X.env s.heap m x u)->∀(i:Nat) (x:Str) (v:V),X.N[i]?=some x->σ'[i]?=some (some v)->Qk X.env.scope x->∃u,qp v u/\((X.env.kindOf x=some .local/\m' x=some u)\/((X.env.kindOf x=some .cell\/X.env.kindOf x=some .free)/\∃c,X.env.cells.lookup x=some c/\s.heap.IsCell c (some u)))):Inv X VL σ' H {s with heap:=h'}:=by
 obtain⟨m,hn0,hl0⟩:=id I.loc;obtain⟨oL,_,_,hoL,_⟩:=id hn0;have oH:=I.oH;refine⟨I.ok,I.os,I.bare,⟨λb o e n hb hx=>?_,λb o e n hb hx=>?_,I.base.free,λb o e hx=>?_,I.base.m7,I.base.mX,I.base.nj⟩,⟨_,hn,λj y v' e1 e2 e3=>?_⟩,λy c e=>?_,I.free,I.mM,λp hp=>?_,λb ob e=>?_,hl⟩
 .exact(hs.2 b (dG (dI (dv e) I.ok.above))).trans (I.base.keep b o e n hb hx)
 .obtain⟨sl,e1⟩:=I.base.slot b o e n hb hx;exact⟨sl,(hs.2 b (dG (dI (dv e) I.ok.above))).trans e1⟩
 .obtain⟨o',e1⟩:=I.base.there b o e hx;exact⟨o',(hs.2 b (dG (dI (dv e) I.ok.above))).trans e1⟩
 .obtain⟨u,r,q⟩:=hm m hn0 hl0 j y v' e1 e2 e3;refine⟨u,r,?_⟩;rcases q with q|⟨k,c,e,z⟩
  .exact .inl q
  .exact .inr ⟨k,c,e,z.sameBut hs (oH y c e)⟩
 .obtain⟨w',z⟩:=I.cell y c e;exact⟨w',z.sameBut hs (oH y c e)⟩
 .obtain⟨e,n,ne,nf,d⟩:=I.pin p hp;exact⟨(hs.2 p.1 ne).trans e,n,ne,nf,d⟩
 .refine(I.mG b ob e).mV (λc w' hc q=>(hs.2 c ?_).trans q) (λ_ q=>q) λ_ _ q=>q
  rintro rfl
  rcases hc with hc|hc
  .rw[<-hc,I.free]at e;cases e
  .rw[I.free]at hc;cases hc
def xG{M:Model}{A:Ar}{E:Vl->Sd->Prop}{i:Nat}{n:Str}{pos:Pos}{Q:Unit->Sd->Prop}(I:Inv X VL σ H s)(hN:X.N.Nodup)(hi:X.N[i]?=some n)(hk:X.env.scope.names.lookup n=some .local) (h:∀s',Inv X VL (σ.set i none) H s'->Q () s'):wpAny M A (do
   bindName X.env n Value.none
   unbindBehindTheSuite X.env n pos) Q E s:=by
 have hiσ:i<σ.length:=by rw[I.len];exact(cV.mp hi).1
 refine cS (wpAny_bindName (wI (v:=.mC) I hN hi (.inl hk) rfl (λs1 I1=>?_) (.inr hk)));have YA:(X.env.scope.kind==.class||(X.env.scope.kind==.module&&X.env.locals != X.env.globals))=false:=by rw[I.ok.kind];rfl
 obtain⟨m,hn,hl⟩:=id I1.loc;obtain⟨u,ru,lk⟩:=hl i n .mC hi (by rw[eK hiσ]) (.inl hk);have em:m n=some u:=by
  rcases lk with⟨_,e⟩|⟨k,_⟩
  .exact e
  .have YK:X.env.kindOf n=some .local:=hk;rw[YK]at k;rcases k with k|k<;>cases k
 unfold unbindBehindTheSuite;refine iA (wpAny_unbindName_local hk hn em YA λh' u' Xp hs=>h _ ?_);refine I1.locs Xp hs (by simpa using I.len) λm2 V5 hl2 j y v' e1 e2 e3=>?_;have hj:j≠i:=λz=>by subst z;rw[eK hiσ]at e2;cases e2
 rw[eP (dM hj)]at e2;obtain⟨u2,r2,q2⟩:=hl j y v' e1 (by rw[eP (dM hj)];exact e2) e3;refine⟨u2,r2,?_⟩;rcases q2 with⟨k,e⟩|q2
 .refine .inl ⟨k,?_⟩;have:y≠n:=λe=>hj (BZ hN e1 (e ▸ hi));simp[this,e]
 .exact .inr q2
def Cx.marked(X:Cx)(ev:Vl)(E:Vl->Sd->Prop):Cx:={X with A:=X.A.mark (some ev),calm:=false,xe:=E}
def Inv.mark(I:Inv X VL σ H s):Inv (X.marked ev E') VL σ H s:=
 ⟨⟨I.ok.mod,I.ok.kind,I.ok.glob,I.ok.blt,I.ok.above,I.ok.inj,I.ok.has,I.ok.oj,(λz=>by cases z),I.ok.frames,I.ok.om,I.ok.oG,I.ok.bs,I.ok.nN,I.ok.nF,I.ok.nJ,I.ok.mZ,I.ok.nS⟩,I.os,I.bare,I.base,I.loc,I.cell,I.free,I.mM,I.pin,I.mG,I.len⟩
def Inv.unmark(ok:X.Ok)(I:Inv (X.marked ev E') VL σ H s):Inv X VL σ H s:=⟨ok,I.os,I.bare,I.base,I.loc,I.cell,I.free,I.mM,I.pin,I.mG,I.len⟩
def SP.unmark(ok:X.Ok){D:D0}{f:Flow}(h:SP (X.marked ev E') VL D f s):SP X VL D f s:=by
 cases f with
 | next=>obtain⟨a,b,I,q⟩:=h;exact⟨a,b,I.unmark ok,q⟩
 | brk=>obtain⟨a,b,I,q⟩:=h;exact⟨a,b,I.unmark ok,q⟩
 | cont=>obtain⟨a,b,I,q⟩:=h;exact⟨a,b,I.unmark ok,q⟩
 | ret v=>obtain⟨a,b,c,I,q⟩:=h;exact⟨a,b,c,I.unmark ok,q⟩
def BF{M:Model}{h:Heap}{a:Addr}{o:Obj}(ho:h.get? a=some o):W.Looks M h (typeOf (.ref a)) o.cls:=by intro A Q E s k q;unfold typeOf;exact cS (wpAny_load (k a o ho) (cZ q))
def Ft{M:Model}{A:Ar}{E:Vl->Sd->Prop}{a C T:Addr}{Q:Unit->Sd->Prop}{dx:Option Addr}(x:OV s.heap a (.ref C) dx (some T))(h:∀h':Heap,(∀b,h'.get? b=s.heap.get? b)->Q () {s with heap:=h'}):wpAny M A (setFlight (.ref a) none) Q E s:=by
 obtain⟨oe,vs,ho,hc,_,hd,h1,hv,hT⟩:=x;obtain⟨nTe,oT,ts,WY,Xt,h3,hn⟩:=hT T rfl;unfold setFlight;refine cS (e9 ho hd hv ?_);rw[cY (by rfl)];refine hZ WY Xt h3 (h _ λb=>?_);by_cases z:T=b
 .subst z;obtain⟨oc,od,YX,WI⟩:=oT;obtain rfl:YX=.fields ts:=Xt;rw[fG _ WY rfl,WY];show some (Obj.mk oc od (.fields (ts.setIfInBounds 3 .none)) WI)=_;have:ts.setIfInBounds 3 .none=ts:=by
   apply Array.ext
   .simp
   .intro i h1 h2;rw[Array.getElem_setIfInBounds];split
    .rename_i e;subst e;rw[Array.getElem?_eq_getElem h3]at hn;exact(df hn).symm
    .rfl
  rw[this]
 .exact gb _ _ z
def P7(X:Cx)(e:Expr)(t:St->Hp->VK->(Hp->Prop)->XK->Prop):Prop:=∀(VL:List (Addr×Obj)) (s:Sd) (σ:St) (H:Hp) (Q:VK) (J:Hp->Prop) (E:XK),Inv X VL σ H s->t σ H Q J E->wpAny (model X.prog X.w) X.A (eval e X.env) (EP X VL σ Q) (Uh X VL σ J E) s
def Vt(X:Cx)(st:Stmt)(t:D0->St->Hp->(Hp->Prop)->XK->Prop):Prop:=∀(VL:List (Addr×Obj)) (s:Sd) (σ:St) (H:Hp) (D:D0) (J:Hp->Prop) (E:XK),Inv X VL σ H s->t D σ H J E->wpAny (model X.prog X.w) X.A (exec st X.env) (SP X VL D) (Uh X VL σ J E) s
def NQ{X:Cx}{i:Nat}{x:Str}{e:Expr}{te:St->Hp->VK->(Hp->Prop)->XK->Prop}{pos VU:Pos}(hN:X.N.Nodup)(hi:X.N[i]?=some x)(hx:JV X.env.scope x)(he:P7 X e te)(hs:swapsWith e (some (.Name x VU)) pos.line X.env=pure false:=by rfl)(hf:JW X x:=by first|exact .inl rfl|exact .inr rfl|assumption):
  Vt X (.Assign [.Name x VU] e pos) (λD σ H J E=>te σ H (λv H'=>D.nx (σ.set i (some v)) H') J E):=by
 intro VL s σ H D J E I h;refine kW (rR (he VL s σ H _ J E I h) λv s1 zz=>x5 zz λy H1 I1 r1 q1=>?_) hs;exact wI I1 hN hi hx r1 (λs2 I2=>⟨_,H1,I2,q1⟩) hf
variable {k:Nat}{f C:Addr}{fd:FuncData}{ps:List Str}{sp:Sp}{WC:List V}{ds:List Vl}{m:Str}{p pos VO:Pos}{e o:Expr}{es:List Expr}{t:TA}
section
variable {x:Str}
def MA(F:wD X.prog X.w X.K X.mg X.base (A8 X.prog X.w) k f fd ps sp)(hr:rB k X.A)(hg:Gl X x)(hm:X.mg x=some (.ref f))(hk:W.keepIn X.K (.ref f)=true)(hb:ut X.K fd ps ds)(hd:qh WC ds) (ha:PA (X.nK λ_ _=>False) (e::es) t) (V7:yb x:=by decide) (he:Az X e es:=by rfl) (V4:B0 X pos es:=by rfl):
  P7 X (.Call (.Name x p) (e::es) [] pos) (λσ H Q J E=>t σ H λvs H1=>J H1/\sp (vs++WC) H1 Q E):=by
 intro VL s σ H Q J E I h;refine gh (vQ I hg hm ?_ V7);refine iF (h₀:=X.base) I.ok.mod.oh hk (d9 (ha pos VL s σ H _ I.nK h) (λus s1 ⟨vs,H1,I1,r,jH,q⟩=>⟨I1.mR,?_⟩) λ_ _ z=>z.elim) he V4;have I1:=I1.xeOf;have r2:qh (vs++WC) (us++ds):=r.append hd;have hl:(us++ds).length=ps.length:=by rw[<-r2.length];exact F.len _ _ _ _ q
 refine ia (gj (F.run X.A X.stack s1 H1 ⟨us,[]⟩ (us++ds) (vs++WC) Q E hr I1.nP (hb s1 us I1.mR hl) r2 q) λr s' hq=>?_);cases r with
 | error e=>exact⟨H1,s1,jH,I1,hq⟩
 | ok fl=>
  cases fl with
  | ret u=>exact I1.after hq
  | next=>exact False.elim hq
  | brk=>exact False.elim hq
  | cont=>exact False.elim hq
end
structure K1(K:pU)(C:Addr):Prop where
 hd:(W.clsIn K C).isSome=true
 ga:W.findIn K (.ref C) "__getattribute__"=some (some (.builtin "BaseException.__getattribute__"))
 gt:W.findIn K (.ref C) "__getattr__"=some none
 ha:W.findIn K (.ref C) "__class__"=some (some (.builtin "object.__class__"))
 hn:W.specialIn K (.builtin "object.__class__") "__get__"=some (some (.builtin "getset_descriptor.__get__"))
 htk:W.takesIn K (.builtin "object.__class__")=some true
 hm:W.mroIn K C (.type "object")=some true
 hb:W.mroIn K C (.type "BaseException")=some true
def Na:builtinKind "BaseException.__getattribute__"=some Manifest.AttrKind.slot:=by decide+kernel
def LJ:splitId "BaseException.__getattribute__"=some ("BaseException","__getattribute__"):=by decide+kernel
variable {prog:Pg}{w:Wo}{A:Ar}{E:Vl→Sd→Prop}{K:pU}{ox:Obj}
section
variable {x:Addr}
def KZ{Yt:Vl}{Q:Unit->Sd->Prop}{M:Model}(c:K1 K C)(X:K.In s.heap)(hx:s.heap.get? x=some ox)(hc:ox.cls=.ref C)(hq:Q () s):wpAny M A (checkBuiltinCall "BaseException.__getattribute__" {pos:=[Value.ref x,Yt]}) Q E s:=by
 unfold checkBuiltinCall;simp only[Na,LJ];unfold isInstance;refine cS (cS ?_);refine(BF hx).at ?_;rw[hc];refine(W.looks_mroIn X c.hb).at ?_;rw[cW (by decide)];have ha:=F.args_bexc_ga (Value.ref x) Yt;unfold argsOk at ha;have:∀t:Sem Unit,t=pure ()->wpAny M A t Q E s:=λt z=>by rw[z];exact cZ hq
 exact this _ ha
end
end L2
namespace L3
open PySem PySem.Spec PyProof.Rows L2
theorem _root_.L2.TKept.ext{K:pU}{H H':Hp}(h:TKept H H'):qy K H H':=⟨λa xs q=>by
 rcases q with(q|⟨u,q⟩)|q
 .exact .inl (.inl (h.1 a xs q))
 .exact .inl (.inr ⟨u,h.2 a u _ q⟩)
 .exact .inr q,λa o xs q=>h.2 a o _ q⟩
abbrev RX:=uJ->Mp->DK->XR->Prop
def Vz(K:pU)(t:RX):St->Hp->VK->(Hp->Prop)->XK->Prop:=λσ H Q' J E=>zZ λδ M Q R=>yg K H σ δ/\HM K H M/\t δ M Q R/\(∀v H' d M',rj K H' d v->HM K H' M'->qy K H H'->Q d M'->Q' v H')/\(∀H1,qy K H H1->J H1)/\S8 K R E
def Vm(X:Cx)(e:Expr)(t:RX):Prop:=P7 X e (Vz X.K t)
def P7.mono{X:Cx}{e:Expr}{t t':St->Hp->VK->(Hp->Prop)->XK->Prop}(h:P7 X e t)(m:∀σ H Q J E,t' σ H Q J E->t σ H Q J E):P7 X e t':=λVL s σ H Q J E I q=>h VL s σ H Q J E I (m σ H Q J E q)
variable {X:Cx}{x:Str}{p pos np VS:Pos}{e:Expr}{es:List Expr}{t:wU}{k:Nat}{f C:Addr}{fd:FuncData}{ps:List Str}{sp:Fc}
def J'(F:QC X.prog X.w X.K X.mg X.base k f fd ps sp)(hr:rB k X.A)(hg:Gl X x)(hm:X.mg x=some (.ref f))(hk:W.keepIn X.K (.ref f)=true)(hb:ut X.K fd ps [])(ha:A3 (X.nK λ_ _=>False) (e::es) t) (V7:yb x:=by decide) (he:Az X e es:=by rfl) (V4:B0 X pos es:=by rfl):
  Vm X (.Call (.Name x p) (e::es) [] pos) (λδ M Q R=>t δ M λds M1=>sp ds M1 Q R):=P7.mono (MA F hr hg hm hk hb .nil ha V7 he V4) λσ H Q' J E ⟨δ,M,Q,R,hs,hm,ht,k,kJ,kR⟩=>
 ⟨δ,M,_,hs,hm,ht,λvs H1 ds M1 hd VN e1 q1=>⟨kJ H1 e1,ds,M1,Q,R,by rw[eM];exact hd,VN,q1,vk e1 k,kR⟩⟩
variable {b₀:Stmt}{Xf:List Stmt}{cn n:Str}{cnp Xl VO YY:Pos}{Cc L:Addr}{outer:List Env}{i ix:Nat}{te:RX}{th:xx}
def yg.unset{K:pU}{H:Hp}{σ:St}{δ:uJ}{i:Nat}(h:yg K H σ δ):yg K H (σ.set i none) (δ.set i none):=λj e q=>by
 by_cases hj:j=i
 .subst hj;by_cases hl:j<δ.length
  .rw[eK hl]at q;cases q
  .rw[gC (by simpa using hl)]at q;cases q
 .rw[eP (dM hj)]at q ⊢;exact h j e q
end L3
namespace L2
open PySem PySem.Spec PyProof.Rows
def AQ(es:Array DictEntry):Bool:=es.toList.all λe=>match e.key with|.str _ _=>true|_=>false
def A9{es:Array DictEntry}(h:AQ es=true):StrKeys es:=λe he=>by
 have:=eX.mp h e (j4.mpr he);cases z:e.key with
 | str n t=>exact⟨n,t,rfl⟩
 | _=>rw[z]at this;cases this
abbrev Lq:List Vl:=[.type "ValueError",.type "Exception",.type "BaseException",.type "object"]
def Nh{K:pU}{t:Vl}{C:Addr}{cd:ClassData}{b:Bool}(q0:W.subIn K (.ref C) (.type "BaseException")=some true)(q1:W.clsIn K C=some cd)(q2:W.typeIn K (.ref C)=some (.type "type"))(s:W.subIn K t (.ref C)=some b):W.exmOne K t (.ref C)=some b:=by unfold W.exmOne;rw[q0,cY (by rfl)];unfold W.kitCls;simp only;rw[q1,q2,cY (by rfl)];exact s
end L2
namespace L3
open PySem PySem.Spec PyProof.Rows L2
end L3
namespace L2
open PySem PySem.Spec PyProof.Rows
theorem A5(self:Vl):∀own:List Addr,refuseLoop self "__setattr__" (own.map Value.ref++Lq)=pure ()
 | []=>jC.passes self
 | c::r=>by show refuseLoop self "__setattr__" (.ref c::(r.map Value.ref++Lq))=pure ();rw[refuseLoop_ref];exact A5 self r
variable {prog:Pg}{w:Wo}{A:Ar}{s:Sd}{K:pU}{x C:Addr}{ox:Obj}{own:List Addr}{name:Str}{v:Vl}
section
variable {E:Vl→Sd→Prop}{cd:ClassData}
def Pf{Q:Unit->Sd->Prop}(X:K.In s.heap)(I:W.InstAt s.heap x ox C none)(hs:W.findIn K (.ref C) "__setattr__"=some (some (.builtin "object.__setattr__")))(hc:W.clsIn K C=some cd)(hm:cd.mro=own.map Value.ref++Lq)(ht:W.takerIn K C name=some none)(hd:cd.hasDict=true) (h:∀h' d t,(∀b o,b≠x->s.heap.get? b=some o->h'.get? b=some o)->h'.get? x=some {ox with dict:=some d}->s.heap.get? d=none->d≠x->h'.Ns1 d (λy=>if y=name then some v else none)->Q () {s with heap:=h',toks:=t}):wpAny (model prog w) A (setAttr (.ref x) name v) Q E s:=by
 refine W.set_plain X I hs ?_;have SF:=jC;have ne:cd.mro.isEmpty=false:=by rw[hm];cases own<;>rfl
 have has:cd.mro.contains (.type "object")=true:=by
  rw[hm,List.contains_eq_any_beq,lU];have:Lq.any (Value.type "object"==·)=true:=by decide+kernel
  rw[this,kP]
 have sub:W.Looks (model prog w) s.heap (isInstance (.ref x) (.type "object")) true:=I.type.andThen (W.looks_mroIn X (by unfold W.mroIn;rw[hc,lN,cW (by rw[ne];decide),has]));refine ic SF.slot.plain SF.entry (@PySem.W.check_slot (model prog w) _ _ {s with toks:=s.toks+1} "object.__setattr__" "object" "__setattr__" (.ref x) [.str name s.toks,v] [] _ SF.kind SF.split sub (SF.args (.ref x) (.str name s.toks) v) ?_);obtain⟨attr,ha,hr⟩:=Option.bind_eq_some_iff.mp ht;have YN:W.Looks (model prog w) s.heap (mroOf (.ref C)) cd.mro:=(ke X hc).andThen .now;have L3':W.Looks (model prog w) s.heap (Builtin.ObjectAttr.storeTaker? attr) none:=by
  cases attr with
  | none=>exact .now
  | some a=>
   obtain⟨b,hb,hr⟩:=iy.mp hr;refine(W.looks_takesIn X hb).andThen ?_;cases b
   .exact .now
   .cases hr
 rw[W.osa_eq,refuse_eq];refine cS (cS (I.type.here (s:={s with toks:=s.toks+1}) (cS (YN.here (s:={s with toks:=s.toks+1}) ?_))));rw[hm,A5];refine cZ (cS (I.type.here (s:={s with toks:=s.toks+1}) (cS ((iU X ha).here (s:={s with toks:=s.toks+1}) (cS (L3'.here (s:={s with toks:=s.toks+1}) ?_))))));obtain⟨hx,Ys,hn,XF⟩:=I;obtain⟨oc,odi,oda,WI⟩:=ox;dsimp only at Ys XF;subst Ys;cases odi with
 | some _=>exact XF.elim
 | none=>
  refine cS (cZ (cS (cS (wpAny_loadPart hx (cS (lY (s:={s with toks:=s.toks+1}) (ke X hc) ?_))))));rw[hd];rw[cW (by decide)];obtain⟨hh,g,dr,tk,os⟩:=s;dsimp only at hx h ⊢;rw[cW (by simp[typeHasDict])];split
  .cases hn
  .have y1:(hh.push W.emptyDict).get? x=some ⟨.ref C,none,oda,WI⟩:=cX _ hx;have nx:x≠hh.objs.size:=λz=>eY _ (z ▸ dv hx);refine cS (wpAny_alloc' (cS (wpAny_update' y1 (cZ ?_))));have e0:((hh.push W.emptyDict).update x λo=>{o with dict:=some hh.objs.size}).Ns hh.objs.size (λ_=>none):=⟨W.emptyDict,#[],_,(kx _ _ _ _ nx.symm).trans (dF hh rfl),rfl,λe he=>absurd he (by simp),λ_=>rfl⟩;refine cS (cZ (cS (wpAny_nsSet1 (kY e0) λh' n1 sb=>?_)));obtain⟨oD,esD,epD,g1,g2,g3⟩:=n1.count (Within.cons name v Within.nil);refine cS (lB g1 (g2 ▸ lC (dX g3 (by rw[dN,dH];decide))) (cZ (h h' hh.objs.size _ (λb o hb z=>?_) ?_ (gJ (de _)) nx.symm n1)))
   .exact(sb.2 b λy=>eY _ (y ▸ dv z)).trans ((kx _ _ _ _ hb).trans (cX _ z))
   .refine(sb.2 x nx).trans (fG _ y1 ?_);have fr:=(Heap.get?_some_iff.mp hx).2;cases oda with
    | _=>first|rfl|exact fr
end
variable {nm q:Str}{bs bm Xg:List Vl}{hdct:Bool}{sn:List Str}{sub:List Vl}{ab:Bool}{col:Option Bool}{dd:Option Addr}{k0 k1 k2 k3 k5:Option Vl}{B Bn newId nid Wl yB:String}{bmN:List Vl}{h:Heap}{g:Array GenState}{d:Drawn}{t:Nat}{os:OsState}
section
variable {E:Vl→Sd→Prop}{N:Addr}
abbrev MM(C t:Addr):Obj:={cls:=.ref C,data:=.fields #[.ref t,.none,.none,.none,.bool false,.none]}
def Ae(Fn:ExcBaseFacts Bn newId yB bmN)(hBn:Xg.contains (.type Bn)=true)(F:ExcBaseFacts B nid Wl Xg)(T:OwnTail h Xg bm){mN:Str->Option Vl}{us:List Vl}{fI:Addr}{oI:Obj}{Q:PySem.Fin->Sd->Prop} (hC:h.get? C=some (excClassObj nm q C N bs bm hdct sn sub ab col dd k0 k1 k2 k3 k5 newId)) (hn:h.Ns N mN) (hi:mN "__init__"=some (.ref fI)) (hf:h.get? fI=some oI) (hfc:oI.cls=.type "function") (VR:us.length<=sizeLine) (hq:∀h' e,Heap.MadeExcOf h h' e (.ref C) us->wpAny (model prog w) A (call (.ref fI) (.ref e::us)) (λr s'=>r=.none/\Q (.done (.ret (.ref e))) s') E ⟨h',g,d,t,os⟩):
  wpAny (model prog w) A (Builtin.«type.__call__» ⟨.ref C::us,[]⟩) Q E ⟨h,g,d,t,os⟩:=by
 repeat (first|with_reducible refine hG hC ?_|with_reducible refine wpAny_madeBy_exc hC ?_|wp_step)
 refine codeAny_call_builtin_code (io _ Fn.quiet) (wpAny_check_new_subU Fn hBn T hC (codeAny_exc_new_subU Fn hBn F T hC ?_ VR));have kp:∀b o,h.get? b=some o->((h.push {cls:=.type "tuple",data:=.seq us.toArray}).push (MM C h.objs.size)).get? b=some o:=λb o z=>cX _ (cX _ z);have gE:((h.push {cls:=.type "tuple",data:=.seq us.toArray}).push (MM C h.objs.size)).get? (h.objs.size+1)=some (MM C h.objs.size):=by heap_get
 have hC2:=kp _ _ hC;have YC:((h.push {cls:=.type "tuple",data:=.seq us.toArray}).push (MM C h.objs.size)).Ns N mN:=let⟨o,es,ep,e,r⟩:=hn;⟨o,es,ep,kp _ _ e,r⟩;have cC:(Value.ref C::bm).contains (.ref C)=true:=by rw[iq,fg,hW]
 have T2:=T.keeps kp;show wpAny _ _ _ _ _ _;unfold isInstance
 repeat (first|with_reducible refine hG gE ?_|(with_reducible refine ky hC2 ?_;rw[cC])|wp_step)
 show wpAny _ _ (typeLookup (.ref C) _) _ _ _;refine wpAny_typeLookup_tail hC2 YC T2 F.mroIs F.init.lookup ?_;rw[hi];refine eC (cS ?_);unfold bindSpecial;refine cS (jx (T:="function") ⟨_,kp _ _ hf,hfc⟩ ?_);rw[cY (by decide)];refine cZ (cS (d9 (hq _ (h.objs.size+1) ⟨kp,gJ (gY _),h.objs.size,gE,gJ (de _),cX _ (Heap.get?_push_at rfl rfl)⟩) (λr s' hr=>?_) λ_ _ z=>z));obtain⟨rfl,hQ⟩:=hr
 wp_walk
 exact hQ
def Gs(Fn:ExcBaseFacts Bn newId yB bmN)(hBn:Xg.contains (.type Bn)=true)(F:ExcBaseFacts B nid Wl Xg)(T:OwnTail h Xg bm){mN:Str->Option Vl}{us:List Vl}{fI:Addr}{oI:Obj}{Q:Vl->Sd->Prop} (hC:h.get? C=some (excClassObj nm q C N bs bm hdct sn sub ab col dd k0 k1 k2 k3 k5 newId)) (hn:h.Ns N mN) (hi:mN "__init__"=some (.ref fI)) (hf:h.get? fI=some oI) (hfc:oI.cls=.type "function") (VR:us.length<=sizeLine) (hq:∀h' e,Heap.MadeExcOf h h' e (.ref C) us->wpAny (model prog w) (A.under (.builtin "type.__call__" ⟨.ref C::us,[]⟩)) (call (.ref fI) (.ref e::us)) (λr s'=>r=.none/\Q (.ref e) s') E ⟨h',g,d,t,os⟩):
  wpAny (model prog w) A (call (.ref C) us) Q E ⟨h,g,d,t,os⟩:=by
 have f1:=tc_lookup;have f2:=tc_bind (.ref C);have hT:(⟨h,g,d,t,os⟩:Sd).TypeIs (.ref C) "type":=⟨_,hC,rfl⟩;refine ia (jL ?_);show wpAny _ _ (callAny (.ref C) _) _ _ _
 repeat (any_goals(first|assumption|with_reducible refine hG hC ?_|wp_step))
 exact⟨rfl,codeAny_call_builtin_at (io _ (by decide+kernel)) entry_typeCall (wpAny_check_type_call_sub hC (Ae Fn hBn F T hC hn hi hf hfc VR hq))⟩
end
variable {M:Model}{env:Env}
section
variable {E:Vl→Sd→Prop}{N:Addr}
def Hn(h:Heap)(e C:Addr)(dx:Option Addr):Prop:=Bj λt sl=>h.get? e=some ⟨.ref C,dx,.fields #[.ref t,.none,.none,.none,.bool false,.none],sl⟩
def FO{x:Sem Vl}{Q:Flow->Sd->Prop}(Wb:bm.contains (.type "BaseException")=true)(hh:A.handled=none) (h:wpAny M A x (λv s₁=>∃e dx,v=.ref e/\s₁.heap.get? C=some (excClassObj nm q C N bs bm hdct sn sub ab col dd k0 k1 k2 k3 k5 newId)/\Hn s₁.heap e C dx/\E (.ref e) s₁) E s):
  wpAny M A (raiseStmt env (some x) none) Q E s:=by
 have cB:(Value.ref C::bm).contains (.type "BaseException")=true:=by rw[iq,Wb,kP]
 unfold raiseStmt;refine cS (d9 h (λv s₁ ⟨e,dx,ev,hC,⟨t,sl,he⟩,hE⟩=>?_) λ_ _ z=>z);subst ev;obtain⟨hp,g,d,tk,os⟩:=s₁
 repeat (first|with_reducible refine hG he ?_|with_reducible refine hG hC ?_|(with_reducible refine ky hC ?_;rw[cB])|wp_step)
 exact wpAny_raiseNew_none hh hE
def Ge(Fn:ExcBaseFacts Bn newId yB bmN)(hBn:Xg.contains (.type Bn)=true)(F:ExcBaseFacts B nid Wl Xg){mN:Str->Option Vl}{fI:Addr}{x:Str}{np VS pos:Pos}{args:List Expr}{Q:Flow->Sd->Prop} (Wb:bm.contains (.type "BaseException")=true) (hh:A.handled=none) (V6:(backTo VS (starEach args env)).any (·.1)=false) (hi:mN "__init__"=some (.ref fI)) (h:wpAny (model prog w) A (eval (.Name x np) env) (λf s₁=>f=.ref C/\wpAny (model prog w) A (evalArgs (.ref C) true (backTo VS (starEach args env)) []) (λa s₂=>a.kw=[]/\a.pos.length<=sizeLine/\s₂.heap.get? C=some (excClassObj nm q C N bs bm hdct sn sub ab col dd k0 k1 k2 k3 k5 newId)/\s₂.heap.Ns N mN/\OwnTail s₂.heap Xg bm/\(∃oI,s₂.heap.get? fI=some oI/\oI.cls=.type "function")/\
    ∀h' e,Heap.MadeExcOf s₂.heap h' e (.ref C) a.pos->wpAny (model prog w) (A.under (.builtin "type.__call__" ⟨.ref C::a.pos,[]⟩)) (call (.ref fI) (.ref e::a.pos))
     (λr s'=>r=.none/\∃dx,s'.heap.get? C=some (excClassObj nm q C N bs bm hdct sn sub ab col dd k0 k1 k2 k3 k5 newId)/\Hn s'.heap e C dx/\E (.ref e) s') E {s₂ with heap:=h'}) E s₁) E s):
  wpAny (model prog w) A (exec (.Raise (some (.Call (.Name x np) args [] VS)) none pos) env) Q E s:=by
 rw[arm_exec_Raise];refine cS (gR (FO (C:=C) (nm:=nm) (q:=q) (N:=N) (bs:=bs) (bm:=bm) (hdct:=hdct) (sn:=sn) (sub:=sub) (ab:=ab) (col:=col) (dd:=dd) (k0:=k0) (k1:=k1) (k2:=k2) (k3:=k3) (k5:=k5) (newId:=newId) Wb hh ?_));refine cS (d9 (wpAny_Call_ofName (d9 h (λf s₁ ⟨ef,h₁⟩=>?_) λ_ _ z=>z)) (λv s₃ h₃=>cS (gR (cZ h₃))) λ_ _ z=>z);subst ef;unfold callWith;refine cS (eC (d9 h₁ (λa s₂ h₂=>cS (gR ?_)) λ_ _ z=>z));obtain⟨VO,akw⟩:=a;obtain⟨hkw,VR,hC,hn,T,⟨oI,hf,hfc⟩,h₂⟩:=h₂;obtain rfl:akw=[]:=hkw;obtain⟨hp,g,d,tk,os⟩:=s₂;simp only[V6];refine cS (wpAny_keeperOf_exc hC (cS (Gs Fn hBn F T hC hn hi hf hfc VR λh' e hm=>d9 (h₂ h' e hm) (λr s' ⟨z,dx,c1,c2,c3⟩=>⟨z,cS (eC (wpAny_point (cZ ⟨e,dx,rfl,c1,c2,c3⟩)))⟩) λ_ _ z=>z)))
end
def x0(a C:Addr)(h:Heap):Prop:=Hn h a C none
def x1(a C d:Addr)(h:Heap):Prop:=Hn h a C (some d)
structure yd(K:pU)(C:Addr)(f:Str):Prop where
 sa:W.findIn K (.ref C) "__setattr__"=some (some (.builtin "object.__setattr__"))
 cd:∃cd own,W.clsIn K C=some cd/\cd.mro=List.map Value.ref own++Lq/\cd.hasDict=true
 tk:W.takerIn K C f=some none
variable {X:Cx}{VL:List (Addr × Obj)}{σ σ':St}{H H1:Hp}{s1:Sd}{a:Addr}
section
variable {f:Str}
def Fm{A:Ar}{E:Vl->Sd->Prop}{y:V}{u:Vl}{Q:Unit->Sd->Prop}(I:Inv X VL σ H s)(e:H a=some (.ext (x0 a C)))(ry:qp y u)(st:yd X.K C f)(h:∀d s',H d=none->d≠a->Inv X VL σ (upd (upd H a (.ext (x1 a C d))) d (.ext (ME d f y))) s'->Q () s'):wpAny (model X.prog X.w) A (setAttr (.ref a) f u) Q E s:=by obtain⟨⟨t,sl,ho⟩,_,_⟩:=I.mG a _ e;obtain⟨cd,own,c1,c2,c3⟩:=st.cd;refine Pf I.mR ⟨ho,rfl,rfl,trivial⟩ st.sa c1 c2 st.tk c3 λh' d tk k1 k2 dn da n1=>h d _ (yC I.mG dn) da ?_;have I2:=I.write (t':=tk) (x:=a) (e:=a) (o:=.ext (x1 a C d)) (by rw[e];exact True.intro) (.inl rfl) k1 ⟨_,k2⟩ ⟨⟨t,sl,k2⟩,⟨_,k2⟩,λh1 h2 ⟨t',Xh,z⟩ kk=>⟨t',Xh,kk _ z⟩⟩;refine I2.adopt I dn (by rw[pF da];exact yC I.mG dn) ⟨⟨u,n1,ry⟩,?_,λh1 h2 ⟨u,n,r⟩ kk=>⟨u,n.at kk,r⟩⟩;obtain⟨o,_,_,z,_⟩:=n1;exact⟨o,z⟩
def Inv.drop{φ:Heap->Prop}(I:Inv X VL σ H s)(ea:H a=some (.ext φ)):Inv X VL σ (λb=>if b=a then none else H b) s:=by
 have less:∀b,H b=none->(if b=a then none else H b)=none:=λb e=>by split<;>first|rfl|exact e
 have keep:∀b o,H b=some o->(∀φ,o≠.ext φ)->(if b=a then none else H b)=some o:=λb o e n=>by
  rw[cW]
  .exact e
  .intro z;rw[z,ea]at e;exact n φ (df e).symm
 refine⟨I.ok,I.os,I.bare,⟨I.base.keep,I.base.slot,λb o e h0 hb=>less b (I.base.free b o e h0 hb),I.base.there,λb xs e=>keep b _ (I.base.m7 b xs e) (λ_ z=>nomatch z),λb o u e=>keep b _ (I.base.mX b o u e) (λ_ z=>nomatch z),λb ps e=>?_⟩,I.loc,I.cell,less _ I.free,λx c e=>less _ (I.mM x c e),λp hp=>⟨(I.pin p hp).1,less _ (I.pin p hp).2.1,(I.pin p hp).2.2⟩,λb ob e=>?_,I.len⟩
 .obtain⟨more,z⟩:=I.base.nj b ps e;exact⟨more,keep b _ z (λ_ z=>nomatch z)⟩
 .have e':H b=some ob:=by
   by_cases z:b=a
   .rw[cY z]at e;cases e
   .rw[cW z]at e;exact e
  exact(I.mG b ob e').mV (λ_ _ _ q=>q) (λb' q=>keep b' _ q (λ_ z=>nomatch z)) λb' xs q=>keep b' _ q (λ_ z=>nomatch z)
end
def LX(K:pU)(ta tv:TE)(f:Str):TS:=λD σ H=>tv σ H λy H1=>ta σ H1 λx H2=>∃a C,x=.ref a/\H2 a=some (.ext (x0 a C))/\yd K C f/\∀d,H2 d=none->d≠a->D.nx σ (upd (upd H2 a (.ext (x1 a C d))) d (.ext (ME d f y)))
def MR{X:Cx}{o value:Expr}{f:Str}{pos VU:Pos}{ta tv:TE}(ha:PE X o ta)(hv:PE X value tv)(hs:swapsWith value (some (.Attribute o f VU)) pos.line X.env=pure false:=by rfl):PS X (.Assign [.Attribute o f VU] value pos) (LX X.K ta tv f):=by intro VL s σ H D I h;refine iE (rR (hv VL s σ H _ I h) λu s1 zz=>x5 zz λy H1 I1 ry q=>rR (ha VL s1 σ H1 _ I1 q) λov s2 zz=>?_) hs;obtain⟨x,H2,I2,rx,a,C,ex,ea,st,q2⟩:=zz;subst ex;obtain rfl:ov=Value.ref a:=rx;exact Fm I2 ea ry st λd s3 dn da I3=>⟨σ,_,I3,q2 d dn da⟩
def vI(K:pU)(f:Str):Sp:=λvs H Q _=>Cv λe C y=>vs=[.ref e,y]/\H e=some (.ext (x0 e C))/\yd K C f/\∀d,H d=none->d≠e->Q .mC (upd (upd H e (.ext (x1 e C d))) d (.ext (ME d f y)))
variable {qual:Str}{scope:Scope}{outer:List Env}{s0:Sd}{H0:Hp}{P:Pg}{mg:Str→Option Vl}{base:Heap}
section
def Ms{x qual y1 y2 fl:Str}{st:Stmt}{f:Addr}{fd:FuncData}(F:Pi K x qual st f fd)(S:so [y1,y2] [y1,y2] (pL st)) (hb:∀(VV:Vl) (A:Ar) (outer:List Env) (s:Sd) (H:Hp) (E:XK),AK (uR (A8 P w) P w K mg base [y1,y2] qual (pL st) f VV A outer s H E) (rm st) (LX K (ES 0) (ES 1) fl)):wD P w K mg base (A8 P w) 1 f fd [y1,y2] (vI K fl):=by
 obtain⟨oc,od,kV,Ws,pm,an,VV,ct,WI,rfl,lk,WO⟩:=F.ex;refine KQ lk WO S (λvs H Q E h=>?_) λA outer s H vs Q' E hr h=>⟨_,hb VV A outer s H E,?_⟩
 .obtain⟨e,C,y,rfl,_⟩:=h;rfl
 .obtain⟨e,C,y,rfl,h1,h2,q⟩:=h;exact⟨y,rfl,.ref e,rfl,e,C,rfl,h1,h2,q⟩
def HR(K:pU)(C fI:Addr):Prop:=
 ∃nm q N bs bm Xg hdct sn sub ab col dd k0 k1 k2 k3 k5,∃B Bn newId nid Wl yB:String,∃bmN,∃mN:Str->Option Vl,ExcBaseFacts Bn newId yB bmN/\Xg.contains (Value.type Bn)=true/\ExcBaseFacts B nid Wl Xg/\bm.contains (Value.type "BaseException")=true/\mN "__init__"=some (.ref fI)/\
  ∀h:Heap,K.In h->h.get? C=some (excClassObj nm q C N bs bm hdct sn sub ab col dd k0 k1 k2 k3 k5 newId)/\h.Ns N mN/\OwnTail h Xg bm/\∃oI,h.get? fI=some oI/\oI.cls=.type "function"
variable {N:List Str}{f:Addr}{cd:Vl}{E:XK}
def JJ{X:Cx}(hX:X=uR (A8 P w) P w K mg base N qual scope f cd A outer s0 H0 E){C fI:Addr}{fdI:FuncData}{ps:List Str}{fl:Str}{k:Nat}{x:Str}{np VS pos:Pos}{e:Expr}{ta:TA}(hC:HR X.K C fI)(F:wD X.prog X.w X.K X.mg X.base (A8 X.prog X.w) k fI fdI ps (vI X.K fl))(hr:rB (k+1) X.A)(hb:ut X.K fdI ps [])(st:yd X.K C fl) (hg:Gl X x) (hm:X.mg x=some (.ref C)) (ha:PA X [e] ta) (hs:starEach [e] X.env=[(false,eval e X.env)]:=by rfl) (V7:yb x:=by decide):
  PS X (.Raise (some (.Call (.Name x np) [e] [] VS)) none pos) (λ_ σ H=>ta σ H λvs H1=>∃y,vs=[y]/\∀d,H1 d=none->E (.ref C) (some d) (upd H1 d (.ext (ME d fl y)))):=by
 intro VL s σ H D I h;obtain⟨nm,q,N',bs,bm,Xg,hdct,sn,sub,ab,col,dd,k0,k1,k2,k3,k5,B,Bn,newId,nid,Wl,yB,bmN,mN,f1,f2,f3,f4,f5,XM⟩:=hC;have hcalm:X.A.handled=none:=I.ok.hd (by rw[hX];rfl);refine Ge (nm:=nm) (q:=q) (N:=N') (bs:=bs) (hdct:=hdct) (sn:=sn) (sub:=sub) (ab:=ab) (col:=col) (dd:=dd) (k0:=k0) (k1:=k1) (k2:=k2) (k3:=k3) (k5:=k5) f1 f2 f3 f4 hcalm (by rw[hs];rfl) f5 (vQ I hg hm ⟨rfl,?_⟩ V7);rw[hs];refine evalArgs_kwB rfl ?_;have Xr:=ha VS VL s σ H _ I h;rw[hs]at Xr;refine rR Xr λus s1 zz=>?_;obtain⟨vs,H1,I1,r1,y,ey,q1⟩:=zz;subst ey;obtain⟨u,rfl,ru⟩:=xV r1;refine wpAny_evalAll_nil ?_;obtain⟨c1,c2,c3,c4⟩:=XM s1.heap I1.mR;refine⟨rfl,by show 1<=sizeLine;rw[dN];decide,c1,c2,c3,c4,λh' e' md=>?_⟩;obtain⟨mk,mn,t,mt,_⟩:=md;have hn:H1 e'=none:=yC I1.mG mn;have I2:Inv X VL σ H1 {s1 with heap:=h'}:=I1.kept (t':=s1.toks) mk;have I3:Inv X VL σ (upd H1 e' (.ext (x0 e' C))) {s1 with heap:=h'}:=I2.adopt I1 mn hn ⟨⟨t,_,mt⟩,⟨_,mt⟩,λh1 h2 ⟨t',Xh,z⟩ kk=>⟨t',Xh,kk _ z⟩⟩;have r2:qh [V.ref e',y] [Value.ref e',u]:=.cons rfl (.cons ru .nil);have Xi:vI X.K fl [V.ref e',y] (upd H1 e' (.ext (x0 e' C))) (λv H2=>v=.mC/\∃d,d≠e'/\H1 d=none/\H2=upd (upd H1 e' (.ext (x1 e' C d))) d (.ext (ME d fl y))) (λ_ _ _=>False):=⟨e',C,y,rfl,pM,st,λd dn da=>⟨rfl,d,da,by rw[pF da]at dn;exact dn,by rw[Os]⟩⟩;have hl:([Value.ref e',u]:List Vl).length=ps.length:=by rw[<-r2.length];exact F.len _ _ _ _ Xi
 refine ia (gj (F.run _ X.stack _ _ ⟨[Value.ref e',u],[]⟩ [Value.ref e',u] _ _ _ (hr.make C [u] []) (I3.nP.make C [u] []) (hb _ [Value.ref e',u] I3.mR hl) r2 Xi) λr s' Xv=>?_);cases r with
 | error ev=>obtain⟨_,_,_,_,_,_,z,_⟩:=Xv;exact z.elim
 | ok fw=>
  cases fw with
  | ret uv=>
   obtain⟨v,H',I4,rv,ev,d,da,dn,eH⟩:=I3.after Xv;subst ev eH;obtain⟨⟨t',Xh,md⟩,_,_⟩:=I4.mG e' _ (by rw[pF (dM da)];exact pM);have I5:Inv X VL σ (upd H1 d (.ext (ME d fl y))) _:=(funext λb=>by
    by_cases z:b=e'
    .subst z;rw[cY rfl,pF (dM da),hn]
    .rw[cW z];by_cases z2:b=d
     .subst z2;rw[pM,pM]
     .rw[pF z2,pF z2,pF z]:(λb=>if b=e' then none else upd (upd H1 e' (.ext (x1 e' C d))) d (.ext (ME d fl y)) b)=upd H1 d (.ext (ME d fl y))) ▸ I4.drop (a:=e') (φ:=x1 e' C d) (by rw[pF (dM da)];exact pM)
   refine⟨rv,some d,(XM s'.heap I4.mR).1,⟨t',Xh,md⟩,?_⟩;subst hX;have Wh:Un (vC outer) [] H0 H1 s0.heap s1.heap:=I1.base;exact Sv I5 (tb:=none) ⟨_,_,md,rfl,rfl,rfl,(by show 1<6;decide),rfl,λT z=>by cases z⟩ (FM Wh rfl mn) (λT z=>by cases z) (by rw[pF (dM da)];exact hn) (q1 d dn)
  | next=>exact False.elim Xv
  | brk=>exact False.elim Xv
  | cont=>exact False.elim Xv
end
end L2
namespace L3
open PySem PySem.Spec PyProof.Rows L2
variable {P:Pg}{w:Wo}{K:pU}{mg:Str→Option Vl}{base:Heap}{N:List Str}{qual:Str}{scope:Scope}{f:Addr}{cd:Vl}{A:Ar}{outer:List Env}{s0:Sd}{H0:Hp}{E:XK}{x:Str}{np VS pos:Pos}{e:Expr}{C fI:Addr}{fdI:FuncData}{ps:List Str}{fl:Str}{k:Nat}{R:XR}{ta:wU}
def OC(C:Addr)(R:XR)(f:Str)(ta:wU):xx:=λ_ δ M=>ta δ M λds M1=>∃z,ds=[z]/\R C (some (f,z)) M1
def Jl(hC:HR K C fI)(F:wD P w K mg base (A8 P w) k fI fdI ps (vI K fl))(hr:rB (k+1) (uR (A8 P w) P w K mg base N qual scope f cd A outer s0 H0 E).A)(hb:ut K fdI ps [])(st:yd K C fl)(_:W.findIn K (.ref C) "__init__"=some (some (.ref fI)))(hg:Gl (uR (A8 P w) P w K mg base N qual scope f cd A outer s0 H0 E) x)(hm:mg x=some (.ref C))(hR:S8 K R E)(ha:A3 (uR (A8 P w) P w K mg base N qual scope f cd A outer s0 H0 E) [e] ta) (hs:starEach [e] (uR (A8 P w) P w K mg base N qual scope f cd A outer s0 H0 E).env=[(false,eval e (uR (A8 P w) P w K mg base N qual scope f cd A outer s0 H0 E).env)]:=by rfl) (V7:yb x:=by decide):
  S3 (uR (A8 P w) P w K mg base N qual scope f cd A outer s0 H0 E) (.Raise (some (.Call (.Name x np) [e] [] VS)) none pos) (OC C R fl ta):=
 PS.mono (JJ rfl hC F hr hb st hg hm ha hs V7) λD' σ H ⟨δ,M,D,hs,hm,ht,_⟩=>⟨δ,M,_,hs,hm,ht,λvs H1 ds M1 hd VN e1 q1=>by
  obtain⟨z,rfl,r⟩:=q1;obtain⟨v,rfl,hv⟩:=rQ hd;exact⟨v,rfl,λd dn=>hR C (some d) _ M1 _ (VN.add dn) (.inr ⟨d,fl,z,v,rfl,rfl,pM,hv.mono (.new dn)⟩) r⟩⟩
variable {X:Cx}{b₀:Stmt}{Xf:List Stmt}{cn:Str}{cnp Xl epos:Pos}{Cc L:Addr}{te:RX}{th:xx}
end L3
namespace L2
open PySem PySem.Spec PyProof.Rows
def MB{K:pU}{C C2 N fI:Addr}{nm q:Str}{bs sub:List Vl}{hdct ab:Bool}{sn:List Str}{col:Option Bool}{dd od1 od2 dd2:Option Addr}{k0 k1 k2 k3 k5:Option Vl}{oc1 oc2 c0:Vl}{es1 es2:Array DictEntry}{ep1 ep2:Nat}{sl1 sl2 UJ:Array (Option Vl)}{cd2:ClassData}{oI:Obj} (l1:K.lookup C=some (excClassObj nm q C N bs (.ref C2::Lq) hdct sn sub ab col dd k0 k1 k2 k3 k5 "ValueError.__new__")) (n1:K.lookup N=some ⟨oc1,od1,.dict es1 ep1,sl1⟩) (s1:AQ es1=true) (i1:nsFind es1 "__init__"=some (.ref fI)) (l2:K.lookup C2=some ⟨c0,dd2,.cls cd2,UJ⟩) (n2:K.lookup cd2.ns=some ⟨oc2,od2,.dict es2 ep2,sl2⟩) (s2:AQ es2=true) (i2:nsFind es2 "__init__"=none) (l3:K.lookup fI=some oI) (hf:W.isFn K (.ref fI)=true):HR K C fI:=by
 have hc:oI.cls=.type "function":=by have hf:=fk.mp hf;unfold W.typeIn at hf;simp only at hf;rw[l3]at hf;exact df hf
 refine⟨nm,q,N,bs,.ref C2::Lq,Lq,hdct,sn,sub,ab,col,dd,k0,k1,k2,k3,k5,"ValueError","ValueError","ValueError.__new__","ValueError.__new__","ValueError.__init__","ValueError.__init__",Lq,λn=>nsFind es1 n,j9,by decide+kernel,j9,?_,i1,λh X=>⟨X C _ l1,⟨_,es1,ep1,X N _ n1,rfl,A9 s1,λ_=>rfl⟩,.own (X C2 _ l2) ⟨_,es2,ep2,X _ _ n2,rfl,A9 s2,λ_=>rfl⟩ i2 .base,oI,X fI _ l3,hc⟩⟩;rw[iq];have:Lq.contains (.type "BaseException")=true:=by decide+kernel
 rw[this,kP]
def Jq{K:pU}{C C2 N:Addr}{nm q f:Str}{bs sub:List Vl}{ab:Bool}{sn:List Str}{col:Option Bool}{dd:Option Addr}{k0 k1 k2 k3 k5:Option Vl}(l1:K.lookup C=some (excClassObj nm q C N bs (.ref C2::Lq) true sn sub ab col dd k0 k1 k2 k3 k5 "ValueError.__new__"))(sa:W.findIn K (.ref C) "__setattr__"=some (some (.builtin "object.__setattr__")))(tk:W.findIn K (.ref C) f=some none):yd K C f:=by refine⟨sa,⟨_,[C,C2],by unfold W.clsIn;rw[l1],rfl,rfl⟩,?_⟩;unfold W.takerIn;rw[tk];rfl
end L2
namespace L3
open PySem PySem.Spec PyProof.Rows L2
variable {X:Cx}{pos VO:Pos}{o e:Expr}{es:List Expr}{ta:T3}{t:wU}
structure FA where
 f:Addr
 d:FuncData
 p:List Str
structure DG(K:pU)(st:Stmt)(py qual:Str)(ps:List Str)(x:FA):Prop where
 pe:x.p=ps
 fn:Pi K py qual st x.f x.d
 b:ut K x.d x.p []
 ty:W.isFn K (.ref x.f)=true
structure TG(K:pU)(mg:Str->Option Vl)(st:Stmt)(py:Str)(ps:List Str)(x:FA):Prop extends DG K st py py ps x where
 mg:mg py=some (.ref x.f)
structure MG(K:pU)(C:Addr)(st:Stmt)(py qual:Str)(ps:List Str)(x:FA):Prop extends DG K st py qual ps x where
 at_:W.findIn K (.ref C) py=some (some (.ref x.f))
structure CG(K:pU)(mg:Str->Option Vl)(nm:Str)(C:Addr):Prop extends Cls K C where
 mg:mg nm=some (.ref C)
def DG.kp{K:pU}{st:Stmt}{py qual:Str}{ps:List Str}{x:FA}(h:DG K st py qual ps x):W.keepIn K (.ref x.f)=true:=h.fn.kp
def MG.mW{K:pU}{C:Addr}{st:Stmt}{py qual:Str}{ps:List Str}{x:FA}(h:MG K C st py qual ps x):uY K C py x.f:=⟨h.at_,h.ty,h.toDG.kp⟩
def yW(K:pU)(C:Addr)(fs:List Str):Prop:=∀f,fs.contains f=true->tG K C f
def sH{K:pU}{C:Addr}:yW K C []:=λf h=>by simp at h
def pB{K:pU}{C:Addr}{g:Str}{fs:List Str}(h:W.findIn K (.ref C) g=some none)(r:yW K C fs):yW K C (g::fs):=λf q=>by
 rw[iq,gW]at q;rcases q with q|q
 .rw[eq_of_beq q];exact h
 .exact r f q
abbrev Fq(P:Pg)(w:Wo)(K:pU)(mg:Str->Option Vl)(base:Heap)(k:Nat)(x:FA)(sp:qN):Prop:=RY P w K mg base k x.f x.d x.p sp
abbrev UY(P:Pg)(w:Wo)(K:pU)(mg:Str->Option Vl)(base:Heap)(k:Nat)(x:FA)(sp:Fc):Prop:=QC P w K mg base k x.f x.d x.p sp
def RF(N P:List Str)(sc:Scope):Bool:=sc.kind==.function&&(!sc.isCoroutine&&(!sc.isGenerator&&(decide N.Nodup&&(decide (N.take P.length=P)&&((P.all λx=>sc.names.lookup x==some .local||sc.names.lookup x==some .cell)&&sc.names.all λy=>!(y.2==.free))))))
def VF{N P:List Str}{sc:Scope}(h:RF N P sc=true):so N P sc:=by
 unfold RF at h;simp only[dS,gI,fk,eB]at h;obtain⟨h1,h2,h3,h4,h5,h6,h7⟩:=h;refine⟨h1,h2,h3,h4,h5,λx hx=>?_,λy hy e=>?_⟩
 .have:=eX.mp h6 x hx
  simpa using this
 .have:=eX.mp h7 y hy;rw[e]at this;simp at this
variable {P:Pg}{w:Wo}{K:pU}{mg:Str→Option Vl}{base:Heap}
def Um{x qual:Str}{st:Stmt}{fa:FA}{N ps:List Str}{k:Nat}{sp:qN}(F:DG K st x qual ps fa)(S:so N ps (pL st))(len:∀ds M Q,sp ds M Q->ds.length=ps.length) (Wa:∀(VV:Vl) (A:Ar) (outer:List Env) (s:Sd) (H:Hp) (E:XK),rB k (A.deeper (envOfC qual (pL st) s.heap.objs.size fa.f VV))->
   ∃t,Hd (uR MF P w K mg base N qual (pL st) fa.f VV A outer s H E).nX (rm st) t/\∀ds M Q,sp ds M Q->t {nx:=λ_ M'=>∃VQ,qa VQ M'/\Q .mC VQ,rt:=λd M'=>∃VQ,qa VQ M'/\Q d VQ} (wg N ds) M):Fq P w K mg base (k+1) fa sp:=by
 unfold Fq;rw[F.pe];exact SO F.fn S len Wa
def TJ{x qual:Str}{st:Stmt}{fa:FA}{N ps:List Str}{k:Nat}{sp:Fc}(F:DG K st x qual ps fa)(S:so N ps (pL st))(len:∀ds M Q R,sp ds M Q R->ds.length=ps.length) (Wa:∀(VV:Vl) (A:Ar) (outer:List Env) (s:Sd) (H:Hp) (E:XK) (R:XR),rB k (A.deeper (envOfC qual (pL st) s.heap.objs.size fa.f VV))->S8 K R E->
   ∃t,Hd (uR (A8 P w) P w K mg base N qual (pL st) fa.f VV A outer s H E) (rm st) t/\∀ds M Q,sp ds M Q R->t {nx:=λ_ M'=>∃VQ,qa VQ M'/\Q .mC VQ,rt:=λd M'=>∃VQ,qa VQ M'/\Q d VQ} (wg N ds) M):UY P w K mg base (k+1) fa sp:=by
 unfold UY;rw[F.pe];exact Tc F.fn S len Wa
variable {k n:Nat}{f C:Addr}{fa:FA}{st:Stmt}{qual:Str}{ps:List Str}{sp:qN}{x m:Str}{p:Pos}
def o9(F:Fq X.prog X.w X.K X.mg X.base k fa sp)(hr:rB n X.A)(T:TG X.K X.mg st x ps fa)(ha:A3 X (e::es) t)(hn:k<=n:=by first|decide|omega)(hg:Gl X x:=by rfl)
  (V7:yb x:=by decide) (he:Az X e es:=by rfl) (V4:B0 X pos es:=by rfl):
  E3 X (.Call (.Name x p) (e::es) [] pos) (C6 sp t):=NL F (hr.mono hn) hg T.mg T.toDG.kp T.b ha V7 he V4
def uP(F:Fq X.prog X.w X.K X.mg X.base k fa sp)(hr:rB n X.A)(c:CG X.K X.mg x C)(i:Mk X.K C fa.f)(T:DG X.K st m qual ps fa)(ha:A3 X (e::es) t)(hn:k+1<=n:=by first|decide|omega)(hg:Gl X x:=by rfl)
  (V7:yb x:=by decide) (he:Az X e es:=by rfl) (V4:B0 X pos es:=by rfl):
  E3 X (.Call (.Name x p) (e::es) [] pos) (PY C sp t):=NN c.toCls i F (hr.mono hn) hg c.mg T.b ha V7 he V4
def pG{pl:Sem Bool}(he:E3 X o ta)(c:Cls X.K C)(T:MG X.K C st m qual ps fa)(F:Fq X.prog X.w X.K X.mg X.base k fa sp)(hr:rB n X.A)(ha:A3 X (e::es) t)(hn:k<=n:=by first|decide|omega)
  (V9:Az X e es:=by rfl) (V4:B0 X pos es:=by rfl)
  (ht:eval (.Call (.Attribute o m VO) (e::es) [] pos) X.env=(do
   let ov<-eval o X.env
   standAt VO.atName
   let(f,first)<-holding [ov] (getMethod ov m pl)
   callWith pos f first (backTo pos (starEach (e::es) X.env)) (backToKw pos (keywordEach [] X.env))):=by rfl):
  E3 X (.Call (.Attribute o m VO) (e::es) [] pos) (zU m (λD s=>D=C/\s=sp) ta t):=
 Dn (R:=λD s=>D=C/\s=sp) he (λD s ⟨e1,e2⟩=>by subst e1 e2;exact⟨c,_,_,_,T.mW,F,T.b⟩) (hr.mono hn) ha V9 V4 ht
def xH{pl:Sem Bool}(he:E3 X o ta)(c:Cls X.K C)(T:MG X.K C st m qual ps fa)(F:Fq X.prog X.w X.K X.mg X.base k fa sp)(hr:rB n X.A)(hn:k<=n:=by first|decide|omega)
  (ht:eval (.Call (.Attribute o m VO) [] [] pos) X.env=(do
   let ov<-eval o X.env
   standAt VO.atName
   let(f,first)<-holding [ov] (getMethod ov m pl)
   callWith pos f first (backTo pos (starEach [] X.env)) (backToKw pos (keywordEach [] X.env))):=by rfl):
  E3 X (.Call (.Attribute o m VO) [] [] pos) (zU m (λD s=>D=C/\s=sp) ta xm):=
 AR (R:=λD s=>D=C/\s=sp) he (λD s ⟨e1,e2⟩=>by subst e1 e2;exact⟨c,_,_,_,T.mW,F,T.b⟩) (hr.mono hn) ht
def x9{pl:Sem Bool}(cm:JZ X.K C m fa.f)(F:Fq X.prog X.w X.K X.mg X.base k fa sp)(hr:rB n X.A)(c:CG X.K X.mg x C)(T:DG X.K st m qual ps fa)(ha:A3 X (e::es) t)(hn:k<=n:=by first|decide|omega)(hg:Gl X x:=by rfl)
  (V7:yb x:=by decide) (V9:Az X e es:=by rfl) (V4:B0 X pos es:=by rfl)
  (ht:eval (.Call (.Attribute (.Name x p) m VO) (e::es) [] pos) X.env=(do
   let ov<-eval (.Name x p) X.env
   standAt VO.atName
   let(f,first)<-holding [ov] (getMethod ov m pl)
   callWith pos f first (backTo pos (starEach (e::es) X.env)) (backToKw pos (keywordEach [] X.env))):=by rfl):
  E3 X (.Call (.Attribute (.Name x p) m VO) (e::es) [] pos) (C6 sp t):=O7 cm F (hr.mono hn) hg c.mg T.kp T.b ha V7 V9 V4 ht
variable {h:Heap}{py:Str}{od an:Option Addr}{sl:Array (Option Vl)}{kv dc pm cd ct:Vl}
def Im{fd:FuncData}{oc:Vl}(l:K.lookup f=some ⟨oc,od,.func fd,sl⟩):W.keepIn K (.ref f)=true:=by unfold W.keepIn;simp only;rw[l]
def Og{fd:FuncData}(l:K.lookup f=some ⟨.type "function",od,.func fd,sl⟩):W.isFn K (.ref f)=true:=by unfold W.isFn W.typeIn;simp only;rw[l];rfl
abbrev mS(py qual:Str)(st:Stmt)(ps:List Str):Prop:=∀(kV Ws pm:Vl) (an:Option Addr) (VV ct:Vl) (us:List Vl),us.length=ps.length->bindArgs (W.fnOf py qual (tO st) (rm st) (pL st) .none kV Ws pm an VV ct) ⟨us,[]⟩=pure (ps.zip us)
def PP(l:K.lookup f=some ⟨.type "function",od,.func (W.fnOf py qual (tO st) (rm st) (pL st) .none kv dc pm an cd ct),sl⟩)(k:W.codeIn K cd qual=true)(hb:mS py qual st ps):
  DG K st py qual ps ⟨f,W.fnOf py qual (tO st) (rm st) (pL st) .none kv dc pm an cd ct,ps⟩:=⟨rfl,Ku l k (Im l),(Ku l k (Im l)).binds hb,Og l⟩
def pT(X:K.In h)(G:h.Ns mainGlobals mg)(a:W.nsIn K mainGlobals py=some (some (.ref f)))(l:K.lookup f=some ⟨.type "function",od,.func (W.fnOf py py (tO st) (rm st) (pL st) .none kv dc pm an cd ct),sl⟩)(k:W.codeIn K cd py=true)(hb:mS py py st ps):
  TG K mg st py ps ⟨f,W.fnOf py py (tO st) (rm st) (pL st) .none kv dc pm an cd ct,ps⟩:=⟨PP l k hb,W.mg_of X G a⟩
def pI(a:W.findIn K (.ref C) py=some (some (.ref f)))(l:K.lookup f=some ⟨.type "function",od,.func (W.fnOf py qual (tO st) (rm st) (pL st) .none kv dc pm an cd ct),sl⟩)(k:W.codeIn K cd qual=true)(hb:mS py qual st ps):
  MG K C st py qual ps ⟨f,W.fnOf py qual (tO st) (rm st) (pL st) .none kv dc pm an cd ct,ps⟩:=⟨PP l k hb,a⟩
def vJ(X:K.In h)(G:h.Ns mainGlobals mg)(a:W.nsIn K mainGlobals py=some (some (.ref C)))(h1:W.plainGet K C Str.empty=true)(h2:W.hasDictIn K C=true)(h3:W.plainOver K C=true)(h4:W.findIn K (.ref C) "__setattr__"=some (some (.builtin "object.__setattr__"))):CG K mg py C:=⟨⟨h1,h2,h3,h4⟩,W.mg_of X G a⟩
def SG(h1:(W.clsIn K C).isSome=true)(h2:W.findIn K (.ref C) "__getattribute__"=some (some (.builtin "BaseException.__getattribute__")))(h3:W.findIn K (.ref C) "__getattr__"=some none)(h4:W.findIn K (.ref C) "__class__"=some (some (.builtin "object.__class__"))) (h5:W.specialIn K (.builtin "object.__class__") "__get__"=some (some (.builtin "getset_descriptor.__get__"))) (h6:W.takesIn K (.builtin "object.__class__")=some true) (h7:W.mroIn K C (.type "object")=some true) (h8:W.mroIn K C (.type "BaseException")=some true):K1 K C:=⟨h1,h2,h3,h4,h5,h6,h7,h8⟩
def NH{x:Str}{a:Addr}{es:List DictEntry}{ep:Nat}{T:List (Str×List Str)}(h:mg x=some (.ref a))(s:(a==sysModules)=false)(l:K.lookup a=some ⟨.type "dict",none,.dict es.toArray ep,#[]⟩) (r:KTD.Rows (λ(ss:List Str) v=>∃t,v=Value.ref t/\uG K (λ_=>none) t (ss.map V.str)) es T):KR K mg x T:=⟨a,_,_,_,h,s,l,⟨rfl,rfl,rfl⟩,rfl,by simpa using r⟩
def K6{P:Pg}{w:Wo}{base:Heap}{x qual y1 y2 fl:Str}{st:Stmt}{fa:FA}(F:DG K st x qual [y1,y2] fa)(S:so [y1,y2] [y1,y2] (pL st)) (hb:∀(VV:Vl) (A:Ar) (outer:List Env) (s:Sd) (H:Hp) (E:XK),AK (uR (A8 P w) P w K mg base [y1,y2] qual (pL st) fa.f VV A outer s H E) (rm st) (LX K (ES 0) (ES 1) fl)):wD P w K mg base (A8 P w) 1 fa.f fa.d fa.p (vI K fl):=by
 rw[F.pe];exact Ms F.fn S hb
def Tb(ds:List D)(M:Mp)(Q:DK):Prop:=match ds with
 | [.ref a]=>(oy M a).elim False λes=>(F1 es).elim False λbs=>Q (.bl (bs.any id)) M
 | _=>False
def Q2(hc:X.calm=true):C3 X (.builtin "any") Tb:=by
 intro VL s σ H vs us Q' I rv h;obtain⟨ds,M,Q,hd,hm,q,k⟩:=h;unfold Tb at q;split at q
 .rename_i a;obtain⟨v,rfl,hv⟩:=rQ hd;obtain⟨es,e0,q⟩:=qC q;obtain⟨bs,e1,q⟩:=qC q;cases hv.mx;obtain⟨u,rfl,ru⟩:=xV rv;cases ru;obtain⟨xs,h1,h2,_⟩:=pV hm e0;obtain⟨its,r,pl,hz⟩:=I.list h1;have YU:=DE e1 h2 r;subst YU;have Wc:a≠s.heap.objs.size:=by obtain⟨o,_,e,_⟩:=pl;exact dG (dv e)
  refine call_any_walk (gG pl.isList ?_);refine⟨s.heap.objs.size,_,_,_,_,_,λi=>(bs[i]?).getD false,rfl,j7 (A:=X.A.in1) (I.ok.hd hc) _ a Wc (bs.map Value.bool).toArray,⟨⟨_,dF _ rfl,rfl,rfl⟩,?_⟩,λi v s' Q E hP hQ=>?_,λh' tk hk=>?_⟩
  .obtain⟨o,n,e,c,d,q⟩:=pl;exact⟨o,cX _ e,c,n,q⟩
  .simp only[iD,dA]at hP;cases e2:bs[i]? with
   | none=>rw[e2]at hP;cases hP
   | some b=>rw[e2]at hP;cases hP;have hQ:Q ((bs[i]?).getD false) s':=hQ;rw[e2]at hQ;exact fh hQ
  .have ea:(List.range (bs.map Value.bool).toArray.size).any (λi=>(bs[i]?).getD false)=bs.any id:=by
    rw[dh,cR];rw[fW,gw,gw];constructor
    .rintro ⟨i,hi,z⟩
     have XO:=gu.mp hi;rw[cT XO]at z;exact⟨_,gN XO,z⟩
    .rintro ⟨b,hb,z⟩
     obtain⟨i,hi,e⟩:=fE hb;refine⟨i,gu.mpr hi,?_⟩;rw[cT hi,e];exact z
   rw[ea];refine⟨.bl (bs.any id),H,?_,rfl,k _ _ _ _ .bl hm .refl q⟩;exact I.kept (h':=h') (t':=tk) λb o e=>hk b o (by simpa using dG (dv e)) (cX _ e)
 .exact q.elim
def RB:bootBuiltins "any"=some (.builtin "any"):=by decide+kernel
end L3
namespace L2
open PySem PySem.Spec PyProof.Rows
def Jv(a C d:Addr)(h:Heap):Prop:=Bj λoe vs=>h.get? a=some oe/\oe.cls=.ref C/\oe.data=.fields vs/\oe.dict=some d
structure NB(K:pU)(C:Addr)(f:Str):Prop where
 ci:K1 K C
 hh:W.hasDictIn K C=true
 tk:W.findIn K (.ref C) f=some none
def Km{h:Heap}{d:Addr}{m:Str->Option Vl}{f:Str}{u:Vl}(x:h.Ns1 d m)(e:m f=some u):∃od,h.get? d=some od/\W.lookIn f od=some (some u):=by obtain⟨o,es,ep,e1,e2,_,_,e3⟩:=x;refine⟨o,e1,?_⟩;have e3:=e3 f;rw[e]at e3;unfold nsFind findBy at e3;rw[<-kG]at e3;obtain⟨en,h1,h2⟩:=iy.mp e3;unfold W.lookIn;rw[e2];dsimp only;rw[h1];exact eQ (λz=>some (some z)) h2
variable {prog:Pg}{w:Wo}{A:Ar}{E:Vl→Sd→Prop}{s:Sd}{K:pU}{x C:Addr}{ox od:Obj}{f:Str}{v:Vl}
def Lm{tk:Tok}{Q:PySem.Fin->Sd->Prop}(X:K.In s.heap)(I:W.InstAt s.heap x ox C (some od))(hf:W.findObj K C (some od) f=some (.value v))(h:Q (.done (.ret v)) s):wpAny (model prog w) A (Builtin.«object.__getattribute__» {pos:=[.ref x,.str f tk]}) Q E s:=by have L0:=I.type (M:=model prog w);unfold Builtin.«object.__getattribute__» slotArgs;refine cS ?_;rw[cW (by simp)];dsimp only;rw[cW (by simp)];refine cZ ?_;dsimp only;refine cS ?_;unfold Builtin.ObjectAttr.attrName;refine cZ (cS (L0.at (cS ((W.looks_find X I hf).at ?_))));exact cZ h
def NE{YB:Bool}{Q:Vl->Sd->Prop}(c:NB K C f)(X:K.In s.heap)(I:W.InstAt s.heap x ox C (some od))(hl:W.lookIn f od=some (some v))(hv:W.handedIn v=true)(h:Q v {s with toks:=s.toks+1}):wpAny (model prog w) A (getAttr (.ref x) f YB) Q E s:=by have L0:=I.type (M:=model prog w);unfold getAttr getAttrBy;refine cS (wpAny_mkText (eC (cS (L0.at (cS ((iU X c.ci.ga).at ?_))))));dsimp only;rw[cW (by simp)];unfold getAttrByItsOwn;refine cS ?_;unfold hookBefore;rw[cY (by rfl)];refine(iU X c.ci.gt).at (cS (kl (eC ?_)));unfold callGetattribute;rw[cW (by simp;intro _;rfl)];unfold boundAndCalled;refine cS ?_;rw[jY.ga.bind (.ref x)];refine cZ ?_;refine ia (ic jY.ga.plain F.entry_bexc_ga (KZ c.ci X I.at_ I.cls ?_));exact Lm X I (W.findObj_own c.hh c.tk rfl hl) (W.handed_on hv h)
variable {X:Cx}{e:Expr}{pos:Pos}{ta:TE}
def Kj:V->Bool
 | .str _=>true
 | .int _=>true
 | .bl _=>true
 | .mC=>true
 | _=>false
def Ed{v:V}{u:Vl}(r:qp v u)(p:Kj v=true):W.handedIn u=true:=by
 cases v<;>first
  | (cases r;rfl)
  | (obtain⟨t,rfl⟩:=r;rfl)
  | cases p
def K2(K:pU)(ta:TE)(f:Str):TE:=λσ H Q=>ta σ H λx H1=>zZ λa C d v=>x=.ref a/\H1 a=some (.ext (Jv a C d))/\H1 d=some (.ext (ME d f v))/\NB K C f/\Kj v=true/\Q v H1
def Oq(he:PE X e ta)(hb:attributeBase e f X.env (eval e X.env)=eval e X.env):PE X (.Attribute e f pos) (K2 X.K ta f):=by intro VL s σ H Q I h;refine Hm hb (rR (he VL s σ H _ I h) λu s1 zz=>?_);obtain⟨x,H1,I1,rx,a,C,d,v,ex,ea,ed,c,p,q⟩:=zz;subst ex;obtain rfl:u=Value.ref a:=rx;obtain⟨⟨oe,vs,e1,e2,e3,e4⟩,_,_⟩:=I1.mG a _ ea;obtain⟨⟨u,n1,r⟩,_,_⟩:=I1.mG d _ ed;obtain⟨od,g1,g2⟩:=Km n1 (cY rfl);exact NE (ox:=oe) c I1.mR ⟨e1,e2,by unfold W.notCls;rw[e3],by rw[e4];exact g1⟩ g2 (Ed r p) ⟨v,H1,I1.tok _,r,q⟩
def Pc{P:Pg}{w:Wo}{H:Hp}{h:Heap}{a C d:Addr}(x:Jv a C d h):rK P w H h a (.ext (Jv a C d)):=by refine⟨x,?_,λh1 h2 ⟨oe,vs,e1,e2,e3,e4⟩ k=>⟨oe,vs,k oe e1,e2,e3,e4⟩⟩;obtain⟨oe,_,e,_⟩:=x;exact⟨oe,e⟩
def OT{X:Cx}{st b₀:Stmt}{Xf:List Stmt}{cn n:Str}{cnp Xl pos:Pos}{Cc L:Addr}{outer:List Env}{i:Nat}{t:D0->St->Hp->(Hp->Prop)->XK->Prop}{th:TS}(hb:Vt X st t)(V9:X.stack=X.env::outer)(hL:X.env.frame=some L)(hg:Gl X cn)(hm:X.mg cn=some (.ref Cc)) (hN:X.N.Nodup) (hi:X.N[i]?=some n) (hk:X.env.scope.names.lookup n=some .local) (hs:∀ev E',AK (X.marked ev E') (b₀::Xf) th) (V7:yb cn:=by decide):
  PS X (.Try [st] [.ExceptHandler (some (.Name cn cnp)) (some n) (b₀::Xf) Xl] [] [] pos) (λD σ H=>∃(J:Hp->Prop) (E:XK),t D σ H J E/\∀C dx H1 H',J H1->TKept H1 H'->E (.ref C) dx H'->∃d,dx=some d/\W.exmOne X.K (.ref C) (.ref Cc)=some true/\
   ∀a,H' a=none->th {nx:=λσ' H2=>D.nx (σ'.set i none) H2,rt:=D.rt,bk:=λσ' H2=>D.bk (σ'.set i none) H2,ct:=λσ' H2=>D.ct (σ'.set i none) H2} (σ.set i (some (.ref a))) (upd H' a (.ext (Jv a C d)))):=by
 intro VL s σ H D I ⟨J,E,h,hh⟩;refine wpAny_Try_except (d9 (Q:=λf s'=>SP X VL D f s') (ju (rR (hb VL s σ H D J E I h) λf s1 q=>?_)) (λf s1 q=>?_) λev s1 x=>?_)
 .cases f with
  | next=>exact gT q
  | brk=>exact q
  | cont=>exact q
  | ret v=>exact q
 .cases f with
  | next=>exact gT q
  | brk=>exact q
  | cont=>exact q
  | ret v=>exact q
 .refine d9 (Rc x V9 hL) (λ_ s2 y=>rR y λ_ s3 z=>?_) λ_ _ z=>z;obtain⟨a,C,dx,H',tb,H1,s1,rfl,q,I3,x3,na,nt,jH,tk,I1,n1⟩:=z;obtain⟨d,rfl,VN,h1⟩:=hh C dx H1 H' jH tk q;refine wpAny_handleBy_cons (codeAny_handlers_test (vQ (X:=X.marked (.ref a) λ_ _=>False) I3.mark hg hm ?_ V7)) (by intro z;cases z);obtain⟨oe,vs,ho,hc,XF,hd,_⟩:=id x3;refine W.exm_one I3.mR (BF ho) (by rw[hc];exact VN) _ _ _ _ (λ_ _ z=>z) ?_;refine codeAny_handlers_suite_as (Ft x3 λh' hh'=>?_);have I4:Inv X VL σ H' {s3 with heap:=h'}:=I3.kept (t':=s3.toks) λb u z=>by rw[hh' b];exact z
  have I5:Inv X VL σ (upd H' a (.ext (Jv a C d))) {s3 with heap:=h'}:=I4.adopt I1 n1 na (Pc ⟨oe,vs,by show h'.get? a=_;rw[hh' a];exact ho,hc,hd,XF⟩);refine wI (v:=.ref a) I5 hN hi (.inl hk) rfl (λs6 I6=>?_) (.inr hk);refine d9 (hs (.ref a) _ VL _ _ _ _ I6.mark (h1 a na)) (λf s7 q7=>?_) λ_ _ z=>z;have q7:=SP.unmark I.ok q7;cases f with
  | next=>obtain⟨σ',H2,I7,q⟩:=q7;exact xG I7 hN hi hk λs8 I8=>⟨_,H2,I8,q⟩
  | brk=>obtain⟨σ',H2,I7,q⟩:=q7;exact xG I7 hN hi hk λs8 I8=>⟨_,H2,I8,q⟩
  | cont=>obtain⟨σ',H2,I7,q⟩:=q7;exact xG I7 hN hi hk λs8 I8=>⟨_,H2,I8,q⟩
  | ret v=>obtain⟨y,σ',H2,I7,r,q⟩:=q7;exact xG I7 hN hi hk λs8 I8=>⟨y,_,H2,I8,r,q⟩
end L2
namespace L3
open PySem PySem.Spec PyProof.Rows L2
variable {X:Cx}{cn n x:Str}{e:Expr}{cnp Xl pos VO YY p1 p2 p3 p4:Pos}{Cc L:Addr}{outer:List Env}{i ix:Nat}{te:RX}{fl:Str}
def SM(K:pU)(ix i:Nat)(Cc:Addr)(fl:Str)(te:RX):xx:=λD δ M=>∃R,te δ M (λd M1=>D.nx (δ.set ix (some d)) M1) R/\∀C y M',R C y M'->W.exmOne K (.ref C) (.ref Cc)=some true/\NB K C fl/\∃z,y=some (fl,.str z)/\D.nx ((δ.set ix (some (.str z))).set i none) M'
def MN(he:Vm X e te)(V9:X.stack=X.env::outer)(hL:X.env.frame=some L)(hg:Gl X cn)(hm:X.mg cn=some (.ref Cc))(hN:X.N.Nodup)(X7:X.N[ix]?=some x)(hx:X.env.scope.names.lookup x=some .local)(hi:X.N[i]?=some n)(hk:X.env.scope.names.lookup n=some .local)(Wc:ix≠i) (hd:yb n:=by decide) (WO:(n==("__classdict__":Str))=false:=by decide) (hab:attributeBase (.Name n p2) fl X.env (eval (.Name n p2) X.env)=eval (.Name n p2) X.env:=by rfl) (hsw2:swapsWith (.Attribute (.Name n p2) fl p3) (some (.Name x p1)) p4.line X.env=pure false:=by rfl)
  (V7:yb cn:=by decide) (Xj:swapsWith e (some (.Name x YY)) VO.line X.env=pure false:=by rfl):
  S3 X (.Try [.Assign [.Name x YY] e VO] [.ExceptHandler (some (.Name cn cnp)) (some n) [.Assign [.Name x p1] (.Attribute (.Name n p2) fl p3) p4] Xl] [] [] pos) (SM X.K ix i Cc fl te):=
 PS.nE (OT (th:=N0 (K2 X.K (ES i) fl) (Iq ix)) (NQ hN X7 (.inl hx) he Xj (.inr hx)) V9 hL hg hm hN hi hk (λev E'=>DN (Ma (X:=X.marked ev E') (te:=K2 X.K (ES i) fl) hN X7 (.inl hx) (Oq (X:=X.marked ev E') (Mo (X:=X.marked ev E') hi (.inl hk) hd WO) hab) hsw2 (.inr hx))) V7) λD' σ H hl ⟨δ,M,D,hs,hm,⟨R,ht,hh⟩,k1,k2,k3,k4⟩=>by
  refine⟨λH1=>qy X.K H H1,λcv d H'=>∃C M' y,cv=.ref C/\HM X.K H' M'/\TM X.K H' d y/\R C y M',⟨δ,M,_,R,hs,hm,ht,λv H1 d M1 hd VN e1 q1=>?_,λ_ z=>z,λC dx H' M' y h1 h0 h2=>⟨C,M',y,rfl,h1,h0,h2⟩⟩,λC dx H1 H' jH tk ⟨C',M',y,ec,Xk,XF,r⟩=>?_⟩
  .exact k1 _ H1 _ M1 ((hs.mono e1).set hd (by rw[hl];exact(cV.mp X7).1)) VN e1 (by simp) q1
  .cases ec;obtain⟨r1,c,z,ey,q⟩:=hh C y M' r;rcases XF with⟨_,z⟩|⟨d,f,z',v,ed,ez,hd,hv⟩
   .rw[ey]at z;cases z
   .rw[ey]at ez;cases ez;have hiσ:i<σ.length:=by rw[hl];exact(cV.mp hi).1
    refine⟨d,ed,r1,λa na=>⟨.ref a,by rw[eK hiσ],a,C,d,v,rfl,pM,?_,c,?_,?_⟩⟩
    .rw[pF]
     .exact hd
     .intro z;rw[z,na]at hd;cases hd
    .rw[hv.str_inv];rfl
    .have e1:qy X.K H H':=jH.trans (L2.TKept.ext tk);have e2:qy X.K H' (upd H' a (.ext (Jv a C d))):=.new na;have s1:=(hs.mono (e1.trans e2)).set (i:=ix) (hv.mono e2) (by rw[hl];exact(cV.mp X7).1);have s2:=s1.unset (i:=i);refine k1 _ _ _ M' ?_ (Xk.add na) (e1.trans e2) (by simp) q;rw[List.set_comm _ _ Wc.symm,iK];exact s2
end L3
namespace L2
open PySem PySem.Spec PyProof.Rows
variable {prog:Pg}{w:Wo}{A:Ar}{E:Vl→Sd→Prop}{s:Sd}
theorem C4{it t:Addr}{VM:Array Vl}(Wc:t≠it):∀(n i:Nat) (s:Sd) (Q:List Vl->Sd->Prop),s.heap.IsListIter it t i->s.heap.IsList t VM->i+n<=VM.size->
  (∀h',h'.IsListIter it t (i+n)->Heap.SameBut it s.heap h'->Q ((VM.toList.drop i).take n) {s with heap:=h'})->wpAny (model prog w) A (draw (.ref it) n) Q E s
 | 0,i,s,Q,hit,_,_,hQ=>by show wpAny _ _ (pure []) Q E s;exact cZ (by simpa using hQ s.heap hit (Heap.SameBut.refl ..))
 | n+1,i,s,Q,hit,ht,YZ,hQ=>by
  have VX:i<VM.size:=by omega
  show wpAny _ _ (pyNext (.ref it)>>=_) Q E s;refine cS (jP hit ht (x:=VM[i]) (by simp[VX]) λh₁ Y0 hs₁=>?_);refine cS (eC (C4 Wc n (i+1) _ _ Y0 (ht.extBut hs₁.extBut Wc) (by omega) λh₂ hit₂ hs₂=>cZ ?_));have hd:VM.toList.drop i=VM[i]::VM.toList.drop (i+1):=by simp[gK,VX]
  have:=hQ h₂ (by rw[show i+(n+1)=i+1+n by omega];exact hit₂) (hs₁.trans hs₂);rw[hd,List.take_succ_cons]at this;exact this
def zt{t:Addr}{VM:Array Vl}{Q:List Vl->Sd->Prop}(hh:A.handled=none)(ht:s.heap.IsList t VM) (hQ:∀h',Heap.ExtBut s.heap.objs.size s.heap h'->Q VM.toList {s with heap:=h'}):wpAny (model prog w) A (unpackItems (.ref t) VM.size none) Q E s:=by
 have VX:t≠s.heap.objs.size:=by obtain⟨o,ho,_⟩:=ht;exact dG (dv ho)
 unfold unpackItems;refine cS ?_
 .unfold notIterableAtAll;refine cS (iH ht.typeIs slot_list_iter.lookup ?_);refine cZ ?_;simp only[kQ,j5];refine cS (eC (gG ht ?_));refine cS (eC (C4 VX VM.size 0 _ _ ⟨_,dF _ rfl,rfl,rfl⟩ (ht.push _) (by omega) λh₁ Y0 hs₁=>?_));have Wv:List.take VM.size (List.drop 0 VM.toList)=VM.toList:=by rw[iX];exact gZ (by simp)
  rw[Wv];rw[cW (by simp)];have ht₁:h₁.IsList t VM:=(ht.push _).extBut hs₁.extBut VX;refine cS (eC (jS hh Y0 ht₁ (by simp) λh₂ he₂=>?_));simp only[Option.isSome_none,kQ,j5];refine cZ (hQ h₂ λb o hb e=>he₂ b o hb (hs₁.extBut b o hb (cX _ e)))
def yH{env:Env}{We:List Expr}{x1}{pos:Pos}{t:Addr}{VM:Array Vl}{Q:Unit->Sd->Prop}(hh:A.handled=none)(ht:s.heap.IsList t VM) (hn:(assignEach We env).length=VM.size) (hstar:(assignEach We env).findIdx? (·.1)=none) (h:∀h',Heap.ExtBut s.heap.objs.size s.heap h'->wpAny (model prog w) A (assignInOrder ((assignEach We env).map (·.2)) VM.toList) Q E {s with heap:=h'}):
  wpAny (model prog w) A (assign (.Tuple We x1 pos) env (.ref t)) Q E s:=by
 rw[arm_assign_Tuple];refine cS (gR ?_);unfold unpack;rw[hn,hstar];exact cS (eC (zt hh ht h))
end L2
namespace L3
open PySem PySem.Spec PyProof.Rows L2
variable {X:Cx}{pos:Pos}
def Qc(n:Nat)(t:B9):B':=λd δ M Q=>match d with|.ref a=>(oy M a).elim False λds=>ds.length=n/\t ds δ M Q|_=>False
def OM{es:List Expr}{k:Nat}{t:B9}{n:Nat}(hc:X.calm=true)(h:Sf X es t)(hn:(assignEach es X.env).length=n:=by rfl)(V9:(assignEach es X.env).findIdx? (·.1)=none:=by rfl):G3 X (.Tuple es k pos) (Qc n t):=by
 intro VL s σ H v u Q' I r ⟨d,δ,M,Q,hd,hs,hm,ht,kq⟩;cases d with
 | ref a=>
  obtain⟨ds,e,hl,ht⟩:=qC ht;cases hd.mx;cases r;obtain⟨xs,h1,h2,_⟩:=pV hm e;obtain⟨its,rv,pl,hz⟩:=I.list h1;have hx:xs.length=n:=by rw[<-hl];exact h2.length.symm
  refine yH (I.ok.hd hc) pl.isList (by simp[hn,<-hx,rv.length]) V9 λh' hx=>?_;have I1:Inv X VL σ H {s with heap:=h'}:=I.kept (t':=s.toks) λb o e=>hx b o (dG (dv e)) e;exact h VL _ σ H xs _ Q' I1 (by simpa using rv) ⟨ds,δ,M,Q,h2,hs,hm,ht,kq⟩
 | _=>exact ht.elim
end L3
namespace L3
open PySem PySem.Spec PyProof.Rows L2
def MI(i:Nat){X:Cx}{pos:Pos}{x:Str}(h1:X.N[i]?=some x:=by rfl)(h2:Qk X.env.scope x:=by first|exact Or.inl rfl|exact Or.inr (Or.inl rfl)|exact Or.inr (Or.inr rfl))(h3:yb x:=by decide)(h4:(x==("__classdict__":Str))=false:=by decide):E3 X (.Name x pos) (v3 i):=QO i (pv i h1 h2 h3 h4)
variable {X:Cx}{pos:Pos}
def VC{N:List Str}(h:decide N.Nodup=true):N.Nodup:=fO h
def pj(i:Nat){x:Str}{e:Expr}{te:T3}{VU:Pos}{ps:List Str}{sc:Scope}(S:so X.N ps sc)(he:E3 X e te)(hi:X.N[i]?=some x:=by rfl)(hx:JV X.env.scope x:=by first|exact Or.inl rfl|exact Or.inr rfl)(Xj:swapsWith e (some (.Name x VU)) pos.line X.env=pure false:=by rfl)(hf:JW X x:=by first|exact .inl rfl|exact .inr rfl|assumption):S3 X (.Assign [.Name x VU] e pos) (F0 te (sW i)):=Q6 S.nd hi hx he Xj hf
def qJ(i:Nat){x:Str}{ps:List Str}{sc:Scope}(S:so X.N ps sc)(hi:X.N[i]?=some x:=by rfl)(hx:JV X.env.scope x:=by first|exact Or.inl rfl|exact Or.inr rfl)(hf:JW X x:=by first|exact .inl rfl|exact .inr rfl|assumption):G3 X (.Name x pos) (sW i):=Hv S.nd hi hx hf
def qg(i:Nat){x:Str}(hN:decide X.N.Nodup=true:=by kernel_rfl)(hi:X.N[i]?=some x:=by rfl)(hx:JV X.env.scope x:=by first|exact Or.inl rfl|exact Or.inr rfl)(hf:JW X x:=by first|exact .inl rfl|exact .inr rfl|assumption):G3 X (.Name x pos) (sW i):=Hv (VC hN) hi hx hf
abbrev Sc(n:Nat)(N:List Str)(s:Stmt):=so N (N.take n) (pL s)
def sk{n:Nat}{N:List Str}{s:Stmt}(h:RF N (N.take n) (pL s)=true:=by decide+kernel):Sc n N s:=VF h
def pR{X:Cx}{e0:Expr}{t0:T3}(h0:E3 X e0 t0)(g0:starEach [e0] X.env=(false,eval e0 X.env)::starEach [] X.env:=by rfl):A3 X [e0] (uL t0 xm):=(pJ h0 sd g0)
def rA{X:Cx}{e0 e1:Expr}{t0 t1:T3}(h0:E3 X e0 t0)(h1:E3 X e1 t1)(g0:starEach [e0,e1] X.env=(false,eval e0 X.env)::starEach [e1] X.env:=by rfl)(g1:starEach [e1] X.env=(false,eval e1 X.env)::starEach [] X.env:=by rfl):A3 X [e0,e1] (uL t0 (uL t1 xm)):=(pJ h0 (pJ h1 sd g1) g0)
def qR{X:Cx}{e0 e1 e2:Expr}{t0 t1 t2:T3}(h0:E3 X e0 t0)(h1:E3 X e1 t1)(h2:E3 X e2 t2)(g0:starEach [e0,e1,e2] X.env=(false,eval e0 X.env)::starEach [e1,e2] X.env:=by rfl)(g1:starEach [e1,e2] X.env=(false,eval e1 X.env)::starEach [e2] X.env:=by rfl)(g2:starEach [e2] X.env=(false,eval e2 X.env)::starEach [] X.env:=by rfl):A3 X [e0,e1,e2] (uL t0 (uL t1 (uL t2 xm))):=(pJ h0 (pJ h1 (pJ h2 sd g2) g1) g0)
abbrev v0:=@MI 0
abbrev U1:=@MI 1
abbrev U2:=@MI 2
abbrev U3:=@MI 3
abbrev v5:=@MI 5
abbrev v4:=@MI 4
abbrev v6:=@MI 6
abbrev v7:=@MI 7
abbrev v8:=@MI 8
abbrev v9:=@MI 9
variable {P:Pg}{w:Wo}{K:pU}{mg:Str→Option Vl}{base:Heap}
def fq{x qual:Str}{st:Stmt}{fa:FA}{N ps:List Str}{k:Nat}{sp:qN}(F:DG K st x qual ps fa)(S:so N ps (pL st)) (hb:∀{VV:Vl} {A:Ar} {outer:List Env} {s:Sd} {H:Hp} {E:XK},rB k (A.deeper (envOfC qual (pL st) s.heap.objs.size fa.f VV))->(A.deeper (envOfC qual (pL st) s.heap.objs.size fa.f VV)).units+9<cLine->
   ∃t,Hd (uR MF P w K mg base N qual (pL st) fa.f VV A outer s H E).nX (rm st) t/\∀ds M Q,sp ds M Q->t {nx:=λ_ M'=>∃VQ,qa VQ M'/\Q .mC VQ,rt:=λd M'=>∃VQ,qa VQ M'/\Q d VQ} (wg N ds) M) (len:∀ds M Q,sp ds M Q->ds.length=ps.length:=by walk_at "l"):Fq P w K mg base (k+1) fa sp:=Um F S len λ_ _ _ _ _ _ h=>hb h (Vr h)
def wC{X:Cx}{scope:Scope}{ix:List (Option Nat)}{N':List Str}(h:GR X.env.scope X.N scope ix N'=true:=by kernel_rfl):rF X scope ix N':=S7 h
end L3
namespace Z
open PySem PySem.Spec PyProof.Rows L2 L3
def qL(i:Nat):Stmt:=PySem.Challenge.pw_callboard_k22_where_it_could_ring.main.body.getD i (.Pass ⟨0,0,0,0⟩)
abbrev tm(i j:Nat):Stmt:=OX (qL i) j
def zh:Sc 1 ["answers"] (qL 1):=sk
def Fv:Sc 2 ["call","word"] (qL 3):=sk
def B5:Sc 2 ["call","phone"] (qL 4):=sk
def xw:Sc 2 ["call","event","word"] (qL 5):=sk
def AV:Sc 3 ["board","caller","target","wishes"] (qL 12):=sk
def sF:Sc 3 ["board","caller","target","free","members","place","in_turn"] (qL 13):=sk
def uD:Sc 3 ["board","caller","target","phones"] (qL 14):=sk
def zj:Sc 2 ["wanted","target"] (qL 15):=sk
def vK:Sc 4 ["board","caller","target","way","come_to","steps","fits","wanted"] (qL 16):=sk
def yr:Sc 2 ["board","phone"] (qL 18):=sk
def vD:Sc 3 ["board","phone","target","word"] (qL 19):=sk
def Mj:Sc 3 ["word","phone","calls"] (qL 20):=sk
def sY:Sc 4 ["board","word","phone","numbers","calls","due"] (qL 21):=sk
def yf:Sc 3 ["board","word","number"] (qL 22):=sk
def Bv:Sc 2 ["board","deed","word"] (qL 23):=sk
def tw:Sc 3 ["board","number","steps","last","target","fits"] (qL 24):=sk
def uh:Sc 4 ["board","number","target","phones","members","place"] (qL 25):=sk
def wW:Sc 3 ["board","number","target","talk","members"] (qL 26):=sk
def w9:Sc 3 ["board","number","end","word"] (qL 27):=sk
def vE:Sc 2 ["board","number","call","told","end","steps","last"] (qL 28):=sk
def yM:Sc 3 ["board","phone","target","number"] (qL 29):=sk
def BV:Sc 3 ["board","phone","number","call"] (qL 30):=sk
def xW:Sc 2 ["board","call","wishes"] (qL 31):=sk
def Bh:Sc 3 ["board","number","fits","wish"] (qL 32):=sk
def sQ:Sc 1 ["board","number","call","fits"] (qL 33):=sk
def sJ:Sc 2 ["board","deed","word","phone","number","call","kept","others"] (qL 34):=sk
def Lc:Sc 2 ["board","deed","word"] (qL 35):=sk
def GW:Sc 2 ["board","deed","word","begun"] (qL 36):=sk
def GC:Sc 3 ["board","caller","target"] (qL 38):=sk
def Bg:Sc 1 ["told","word"] (qL 49):=sk
def Nz:Sc 2 ["holds","words"] (qL 64):=sk
def G6:Sc 1 ["text"] (qL 65):=sk
def B8:Sc 1 ["things"] (qL 66):=sk
def DO:Sc 3 ["chosen","known","most"] (qL 67):=sk
def tD:Sc 1 ["phones","name","lines","rank"] (qL 68):=sk
def tz:Sc 2 ["groups","phone_names","name","manner","members"] (qL 69):=sk
def Cw:Sc 4 ["kind","part","phone_names","names"] (qL 70):=sk
def tq:Sc 3 ["wish","phone_names","names","form","parts","kind","part"] (qL 71):=sk
def uy:Sc 3 ["wishes","phone_names","names","on","wish"] (qL 72):=sk
def vA:Sc 3 ["phones","groups","wishes","phone_names","names"] (qL 73):=sk
def IQ:Sc 2 ["_law_script","_law_k"] (qL 76):=sk
def E2:Sc 3 ["_law_cell","_law_factor","_law_many"] (qL 77):=sk
def tM:Sc 2 ["_law_seed","_law_which","_law_letters","_law_size","_law_place","_law_rest","_law_letter"] (qL 78):=sk
def xb:Sc 3 ["_law_row","_law_cell","_law_most","_law_first","_law_size"] (qL 79):=sk
def ul:Sc 2 ["_law_seed","_law_most","_law_phones_here","_law_k","_law_lines"] (qL 80):=sk
def um:Sc 2 ["_law_seed","_law_own","_law_groups_here","_law_g","_law_manner"] (qL 81):=sk
def sA:Sc 3 ["_law_cell","_law_own","_law_names_here","_law_a","_law_place","_law_b","_law_c","_law_pick","_law_first"] (qL 82):=sk
def rN:Sc 2 ["_law_script","_law_most","_law_seed","_law_phones_here","_law_own","_law_groups_here","_law_names_here","_law_wishes","_law_k","_law_cell"] (qL 83):=sk
def Cr:Sc 1 ["_law_call"] (qL 84):=sk
def zW:Sc 2 ["_law_board","_law_states"] (qL 85):=sk
def qV:Sc 4 ["_law_board","_law_cell","_law_word_here","_law_states","_law_some_here","_law_k","_law_people_here","_law_a","_law_m"] (qL 86):=sk
def ui:Sc 4 ["_law_cell","_law_own","_law_names_here","_law_many","_law_a","_law_b","_law_k","_law_m","_law_some_here"] (qL 87):=sk
def qW:Sc 4 ["_law_board","_law_cell","_law_own","_law_names_here","_law_word_here","_law_states","_law_found","_law_a"] (qL 88):=sk
def vg:Sc 2 ["_law_script","_law_most","_law_phones_here","_law_groups_here","_law_wishes"] (qL 89):=sk
def y8:Sc 1 ["_law_board","_law_own"] (qL 90):=sk
def wV:Sc 2 ["_law_board","_law_deed_here","_law_told","e"] (qL 91):=sk
def JE:Sc 2 ["_law_call","_law_phone"] (qL 92):=sk
def uU:Sc 3 ["_law_board","_law_caller","_law_phones_here","_law_due_here","_law_phone","_law_lines","_law_rank"] (qL 93):=sk
def rL:Sc 2 ["_law_board","_law_caller","_law_some_here","_law_name","_law_phones_here","_law_due_here","_law_k","_law_found"] (qL 94):=sk
def BQ:Sc 1 ["_law_script","_law_board","_law_own","_law_names_here","_law_cell"] (qL 95):=sk
def Bd:Sc 2 ["self","word"] (tm 10 0):=sk
def Cs:Sc 3 ["self","plan","hour"] (tm 6 0):=sk
def Eo:Sc 4 ["self","phones","groups","wishes"] (tm 74 0):=sk
def yX:Sc 3 ["self","caller","target"] (tm 6 7):=sk
def zI:Sc 2 ["self","phone"] (tm 6 3):=sk
def yU:Sc 2 ["self","name"] (tm 74 5):=sk
def zk:Sc 2 ["self","phone"] (tm 6 2):=sk
def FF:Sc 2 ["self","told"] (tm 40 0):=sk
def DS:Sc 2 ["self","told"] (tm 41 0):=sk
def Ao:Sc 2 ["self","told"] (tm 42 0):=sk
def Cz:Sc 2 ["self","told"] (tm 44 0):=sk
def Be:Sc 2 ["self","told"] (tm 46 0):=sk
def EF:Sc 2 ["self","told"] (tm 47 0):=sk
def Bl:Sc 2 ["self","told"] (tm 48 0):=sk
def xO:Sc 1 ["self"] (tm 74 2):=sk
def wJ:Sc 2 ["self","event","word"] (tm 6 12):=sk
def CB:Sc 2 ["self","phone"] (tm 6 1):=sk
def Cy:Sc 2 ["self","phone"] (tm 74 3):=sk
def Er:Sc 2 ["self","told"] (tm 39 0):=sk
def B6:Sc 1 ["self"] (tm 74 1):=sk
def EZ:Sc 2 ["self","caller"] (tm 2 0):=sk
def ye:Sc 2 ["self","phone"] (tm 2 2):=sk
def xZ:Sc 2 ["self","phone"] (tm 2 5):=sk
def xP:Sc 2 ["self","phone"] (tm 2 4):=sk
def zq:Sc 2 ["self","leg"] (tm 6 10):=sk
def xn:Sc 4 ["self","merged","kept","members","call"] (tm 6 11):=sk
def uS:Sc 1 ["self","call"] (tm 6 9):=sk
def yi:Sc 2 ["self","phone"] (tm 2 8):=sk
def F5:Sc 2 ["self","phone"] (tm 2 1):=sk
def Bt:Sc 2 ["self","phone"] (tm 6 4):=sk
def zE:Sc 2 ["self","phone"] (tm 6 5):=sk
def wn:Sc 2 ["self","phone"] (tm 2 7):=sk
def CC:Sc 2 ["self","phone"] (tm 2 6):=sk
def AY:Sc 2 ["self","call"] (tm 39 4):=sk
def zg:Sc 2 ["self","call"] (tm 46 2):=sk
def DP:Sc 1 ["self"] (tm 39 1):=sk
def Ce:Sc 2 ["self","phone"] (tm 2 3):=sk
def El:Sc 1 ["self"] (tm 40 1):=sk
def Cu:Sc 1 ["self"] (tm 41 1):=sk
def zG:Sc 1 ["self"] (tm 42 1):=sk
def Cm:Sc 1 ["self"] (tm 47 1):=sk
def Av:Sc 1 ["self"] (tm 48 1):=sk
def Fz:Sc 4 ["self","board","caller","target"] (tm 40 2):=sk
def ER:Sc 4 ["self","board","caller","target"] (tm 41 2):=sk
def BK:Sc 4 ["self","board","caller","target"] (tm 43 0):=sk
def Cn:Sc 4 ["self","board","caller","target"] (tm 44 2):=sk
def Dm:Sc 4 ["self","board","caller","target"] (tm 45 0):=sk
def Bp:Sc 4 ["self","board","caller","target"] (tm 46 1):=sk
def EV:Sc 4 ["self","board","caller","target"] (tm 47 2):=sk
def uX:Sc 4 ["self","board","caller","target","talk","members"] (tm 48 3):=sk
def A7:Sc 2 ["self","name"] (tm 74 6):=sk
def yF:Sc 2 ["self","hour"] (tm 44 1):=sk
def yA:Sc 1 ["self"] (tm 6 8):=sk
def za:Sc 2 ["self","phone"] (tm 6 6):=sk
def uO:Sc 3 ["self","plan","members","rank"] (tm 48 2):=sk
def EY:Sc 2 ["self","phone"] (tm 74 4):=sk
noncomputable def Jd:List (Str×List Str):=[("bar",["phone","names"]),("shut",["name","phones"]),("always",["name","name"]),("night",["name","name","hour","hour"]),("busy",["name","name"]),("silent",["name","name","turns"]),("wait",["phone"]),("breaks",["phone"])]
set_option genInjectivity false in
structure Ad where
 (J ab aO aP aQ aR aS aT aU ac aV aW aX aY aZ a0 a1 a2 a3 ad a4 a5 a6 a7 a8 a9 ba L M bb m ae af N bc bd be bf bg bh O i ag P bi bj bk bl bm bn bo bp bq br bs bt bu bv ah ai H aj ak Q R S T al am A an ao ap aq U k bw bx E bz ar V au X bA bB bC av bD bE bF bG aw q ax l bH ay az z aA aB aC aD aE aF aG aH aI aJ aK bI bJ bK bL aL:FA)
 (e c B r t Y w n x u v o h b0 F:Addr)
structure Gl(K:pU)(mg:Str->Option Vl)(a:Ad):Prop where
 e:CG K mg "Call" a.e
 c:CG K mg "Board" a.c
 B:CG K mg "Wish" a.B
 r:CG K mg "Bar" a.r
 t:CG K mg "Shut" a.t
 Y:CG K mg "Forward" a.Y
 w:CG K mg "Always" a.w
 n:CG K mg "Night" a.n
 x:CG K mg "Busy" a.x
 u:CG K mg "Silent" a.u
 v:CG K mg "Wait" a.v
 o:CG K mg "Breaks" a.o
 h:CG K mg "Plan" a.h
 cQ:mg "CallError"=some (.ref a.b0)
 bU:mg "NoDeed"=some (.ref a.F)
 J:TG K mg (qL 1) "place_of_true" ["answers"] a.J
 ab:TG K mg (qL 3) "end_call" ["call","word"] a.ab
 aO:TG K mg (qL 4) "drop_phone" ["call","phone"] a.aO
 aP:TG K mg (qL 5) "change_call" ["call","event"] a.aP
 aQ:TG K mg (qL 12) "fitting" ["board","caller","target"] a.aQ
 aR:TG K mg (qL 13) "rung_phones" ["board","caller","target"] a.aR
 aS:TG K mg (qL 14) "end_without_wish" ["board","caller","target"] a.aS
 aT:TG K mg (qL 15) "end_as_wanted" ["wanted","target"] a.aT
 aU:TG K mg (qL 16) "route" ["board","caller","target","way"] a.aU
 ac:TG K mg (qL 18) "word_for_idling" ["board","phone"] a.ac
 aV:TG K mg (qL 19) "word_for_call" ["board","phone","target"] a.aV
 aW:TG K mg (qL 20) "suits" ["word","phone","calls"] a.aW
 aX:TG K mg (qL 21) "word_for_numbers" ["board","word","phone","numbers"] a.aX
 aY:TG K mg (qL 22) "word_for_switch" ["board","word","number"] a.aY
 aZ:TG K mg (qL 23) "refusal" ["board","deed"] a.aZ
 a0:TG K mg (qL 24) "take_steps" ["board","number","steps"] a.a0
 a1:TG K mg (qL 25) "start_ringing" ["board","number","target","phones"] a.a1
 a2:TG K mg (qL 26) "break_in" ["board","number","target"] a.a2
 a3:TG K mg (qL 27) "come_to_end" ["board","number","end"] a.a3
 ad:TG K mg (qL 28) "go_on" ["board","number"] a.ad
 a4:TG K mg (qL 29) "make_call" ["board","phone","target"] a.a4
 a5:TG K mg (qL 30) "hang_up" ["board","phone","number"] a.a5
 a6:TG K mg (qL 31) "due_wishes" ["board","call"] a.a6
 a7:TG K mg (qL 32) "send_on" ["board","number","fits"] a.a7
 a8:TG K mg (qL 33) "let_turn_pass" ["board"] a.a8
 a9:TG K mg (qL 34) "event_of" ["board","deed"] a.a9
 ba:TG K mg (qL 35) "act" ["board","deed"] a.ba
 L:TG K mg (qL 36) "do" ["board","deed"] a.L
 M:TG K mg (qL 38) "is_busy" ["board","caller","target"] a.M
 bb:TG K mg (qL 49) "wish_of" ["told"] a.bb
 m:TG K mg (qL 64) "need" ["holds","words"] a.m
 ae:TG K mg (qL 65) "is_name" ["text"] a.ae
 af:TG K mg (qL 66) "all_unlike" ["things"] a.af
 N:TG K mg (qL 67) "is_choice" ["chosen","known","most"] a.N
 bc:TG K mg (qL 68) "check_phones" ["phones"] a.bc
 bd:TG K mg (qL 69) "check_groups" ["groups","phone_names"] a.bd
 be:TG K mg (qL 70) "part_holds" ["kind","part","phone_names","names"] a.be
 bf:TG K mg (qL 71) "check_wish" ["wish","phone_names","names"] a.bf
 bg:TG K mg (qL 72) "check_wishes" ["wishes","phone_names","names"] a.bg
 bh:TG K mg (qL 73) "check_plan" ["phones","groups","wishes"] a.bh
 O:TG K mg (qL 76) "_law_at" ["_law_script","_law_k"] a.O
 i:TG K mg (qL 77) "_law_draw" ["_law_cell","_law_factor","_law_many"] a.i
 ag:TG K mg (qL 78) "_law_word" ["_law_seed","_law_which"] a.ag
 P:TG K mg (qL 79) "_law_some" ["_law_row","_law_cell","_law_most"] a.P
 bi:TG K mg (qL 80) "_law_phones" ["_law_seed","_law_most"] a.bi
 bj:TG K mg (qL 81) "_law_groups" ["_law_seed","_law_own"] a.bj
 bk:TG K mg (qL 82) "_law_wish" ["_law_cell","_law_own","_law_names_here"] a.bk
 bl:TG K mg (qL 83) "_law_plan" ["_law_script","_law_most"] a.bl
 bm:TG K mg (qL 84) "_law_people" ["_law_call"] a.bm
 bn:TG K mg (qL 85) "_law_of_state" ["_law_board","_law_states"] a.bn
 bo:TG K mg (qL 86) "_law_on_call" ["_law_board","_law_cell","_law_word_here","_law_states"] a.bo
 bp:TG K mg (qL 87) "_law_any" ["_law_cell","_law_own","_law_names_here","_law_many"] a.bp
 bq:TG K mg (qL 88) "_law_deed" ["_law_board","_law_cell","_law_own","_law_names_here"] a.bq
 br:TG K mg (qL 89) "_law_made" ["_law_script","_law_most"] a.br
 bs:TG K mg (qL 90) "_law_names" ["_law_board"] a.bs
 bt:TG K mg (qL 91) "_law_done" ["_law_board","_law_deed_here"] a.bt
 bu:TG K mg (qL 92) "_law_in" ["_law_call","_law_phone"] a.bu
 bv:TG K mg (qL 93) "_law_due" ["_law_board","_law_caller","_law_phones_here"] a.bv
 ah:TG K mg (qL 94) "_law_right" ["_law_board","_law_caller"] a.ah
 ai:TG K mg (qL 95) "law" ["_law_script"] a.ai
 H:MG K a.F (tm 10 0) "__init__" "NoDeed.__init__" ["self","word"] a.H
 aj:MG K a.c (tm 6 0) "__init__" "Board.__init__" ["self","plan","hour"] a.aj
 ak:MG K a.h (tm 74 0) "__init__" "Plan.__init__" ["self","phones","groups","wishes"] a.ak
 Q:MG K a.c (tm 6 7) "ringable" "Board.ringable" ["self","caller","target"] a.Q
 R:MG K a.c (tm 6 3) "talk_of" "Board.talk_of" ["self","phone"] a.R
 S:MG K a.h (tm 74 5) "phones_of" "Plan.phones_of" ["self","name"] a.S
 T:MG K a.c (tm 6 2) "is_free" "Board.is_free" ["self","phone"] a.T
 al:MG K a.r (tm 40 0) "__init__" "Bar.__init__" ["self","told"] a.al
 am:MG K a.t (tm 41 0) "__init__" "Shut.__init__" ["self","told"] a.am
 A:MG K a.Y (tm 42 0) "__init__" "Forward.__init__" ["self","told"] a.A
 an:MG K a.n (tm 44 0) "__init__" "Night.__init__" ["self","told"] a.an
 ao:MG K a.u (tm 46 0) "__init__" "Silent.__init__" ["self","told"] a.ao
 ap:MG K a.v (tm 47 0) "__init__" "Wait.__init__" ["self","told"] a.ap
 aq:MG K a.o (tm 48 0) "__init__" "Breaks.__init__" ["self","told"] a.aq
 U:MG K a.h (tm 74 2) "phone_names" "Plan.phone_names" ["self"] a.U
 k:MG K a.c (tm 6 12) "apply" "Board.apply" ["self","event"] a.k
 bw:MG K a.c (tm 6 1) "used" "Board.used" ["self","phone"] a.bw
 bx:MG K a.h (tm 74 3) "lines" "Plan.lines" ["self","phone"] a.bx
 E:MG K a.B (tm 39 0) "__init__" "Wish.__init__" ["self","told"] a.E
 bz:MG K a.h (tm 74 1) "names" "Plan.names" ["self"] a.bz
 ar:MG K a.e (tm 2 0) "__init__" "Call.__init__" ["self","caller"] a.ar
 V:MG K a.e (tm 2 2) "talks_with" "Call.talks_with" ["self","phone"] a.V
 au:MG K a.e (tm 2 5) "waits_with" "Call.waits_with" ["self","phone"] a.au
 X:MG K a.e (tm 2 4) "is_tried_by" "Call.is_tried_by" ["self","phone"] a.X
 bA:MG K a.c (tm 6 10) "add_leg" "Board.add_leg" ["self","leg"] a.bA
 bB:MG K a.c (tm 6 11) "merge" "Board.merge" ["self","merged","kept","members"] a.bB
 bC:MG K a.c (tm 6 9) "pass_turn" "Board.pass_turn" ["self"] a.bC
 av:MG K a.e (tm 2 8) "other_than" "Call.other_than" ["self","phone"] a.av
 bD:MG K a.e (tm 2 1) "has" "Call.has" ["self","phone"] a.bD
 bE:MG K a.c (tm 6 4) "bound" "Board.bound" ["self","phone"] a.bE
 bF:MG K a.c (tm 6 5) "calling" "Board.calling" ["self","phone"] a.bF
 bG:MG K a.e (tm 2 7) "can_be_left_by" "Call.can_be_left_by" ["self","phone"] a.bG
 aw:MG K a.e (tm 2 6) "pairs" "Call.pairs" ["self","phone"] a.aw
 q:MG K a.B (tm 39 4) "is_due" "Wish.is_due" ["self","call"] a.q
 ax:MG K a.u (tm 46 2) "is_due" "Silent.is_due" ["self","call"] a.ax
 l:MG K a.B (tm 39 1) "told" "Wish.told" ["self"] a.l
 bH:MG K a.e (tm 2 3) "binds" "Call.binds" ["self","phone"] a.bH
 ay:MG K a.r (tm 40 1) "wants" "Bar.wants" ["self"] a.ay
 az:MG K a.t (tm 41 1) "wants" "Shut.wants" ["self"] a.az
 z:MG K a.Y (tm 42 1) "wants" "Forward.wants" ["self"] a.z
 aA:MG K a.v (tm 47 1) "wants" "Wait.wants" ["self"] a.aA
 aB:MG K a.o (tm 48 1) "wants" "Breaks.wants" ["self"] a.aB
 aC:MG K a.r (tm 40 2) "fits" "Bar.fits" ["self","board","caller","target"] a.aC
 aD:MG K a.t (tm 41 2) "fits" "Shut.fits" ["self","board","caller","target"] a.aD
 aE:MG K a.w (tm 43 0) "fits" "Always.fits" ["self","board","caller","target"] a.aE
 aF:MG K a.n (tm 44 2) "fits" "Night.fits" ["self","board","caller","target"] a.aF
 aG:MG K a.x (tm 45 0) "fits" "Busy.fits" ["self","board","caller","target"] a.aG
 aH:MG K a.u (tm 46 1) "fits" "Silent.fits" ["self","board","caller","target"] a.aH
 aI:MG K a.v (tm 47 2) "fits" "Wait.fits" ["self","board","caller","target"] a.aI
 aJ:MG K a.o (tm 48 3) "fits" "Breaks.fits" ["self","board","caller","target"] a.aJ
 aK:MG K a.h (tm 74 6) "manner" "Plan.manner" ["self","name"] a.aK
 bI:MG K a.n (tm 44 1) "has_hour" "Night.has_hour" ["self","hour"] a.bI
 bJ:MG K a.c (tm 6 8) "hour_now" "Board.hour_now" ["self"] a.bJ
 bK:MG K a.c (tm 6 6) "waits_at" "Board.waits_at" ["self","phone"] a.bK
 bL:MG K a.o (tm 48 2) "outranks" "Breaks.outranks" ["self","plan","members"] a.bL
 aL:MG K a.h (tm 74 4) "rank" "Plan.rank" ["self","phone"] a.aL
 b1:HR K a.F a.H.f
 b2:yd K a.F "word"
 b3:NB K a.F "word"
 b4:W.exmOne K (.ref a.F) (.ref a.F)=some true
 b5:Mk K a.c a.aj.f
 b6:Mk K a.h a.ak.f
 b7:Mk K a.r a.al.f
 b8:Mk K a.t a.am.f
 b9:Mk K a.w a.A.f
 ca:Mk K a.n a.an.f
 cb:Mk K a.x a.A.f
 cc:Mk K a.u a.ao.f
 cd:Mk K a.v a.ap.f
 ce:Mk K a.o a.aq.f
 cf:Mk K a.e a.ar.f
 cg:uY K a.r "is_due" a.q.f
 ch:uY K a.t "is_due" a.q.f
 ci:uY K a.w "is_due" a.q.f
 cj:uY K a.n "is_due" a.q.f
 ck:uY K a.x "is_due" a.q.f
 cl:uY K a.v "is_due" a.q.f
 cm:uY K a.o "is_due" a.q.f
 cn:uY K a.r "told" a.l.f
 co:uY K a.t "told" a.l.f
 cp:uY K a.w "told" a.l.f
 cq:uY K a.n "told" a.l.f
 cr:uY K a.x "told" a.l.f
 cs:uY K a.u "told" a.l.f
 ct:uY K a.v "told" a.l.f
 cu:uY K a.o "told" a.l.f
 cv:uY K a.w "wants" a.z.f
 cw:uY K a.n "wants" a.z.f
 cx:uY K a.x "wants" a.z.f
 cy:uY K a.u "wants" a.z.f
 aM:JZ K a.B "__init__" a.E.f
 bV:JZ K a.Y "__init__" a.A.f
 C:yW K a.c ["plan","hour","turn","calls","legs","nexts","on","log"]
 Z:yW K a.h ["phones","groups","wishes","on","phone_rows","group_rows"]
 bO:yW K a.r ["form","phone","targets"]
 bP:yW K a.t ["form","target","callers"]
 bQ:yW K a.w ["form","target","goal"]
 aN:yW K a.n ["form","target","goal","first","last"]
 bR:yW K a.x ["form","target","goal"]
 bM:yW K a.u ["form","target","goal","turns"]
 bW:yW K a.v ["form","phone"]
 bX:yW K a.o ["form","phone"]
 j:yW K a.e ["state","caller","way","at","members","holder","since","word"]
 cz:W.kitOne K (.type "list") (.type "list")=some true
 g:mg "len"=none
 y:mg "list"=none
 aa:mg "range"=none
 cA:mg "isinstance"=none
 bS:mg "dict"=none
 cB:mg "min"=none
 I:mg "tuple"=none
 cC:mg "set"=none
 bN:mg "all"=none
 bT:mg "enumerate"=none
 cD:mg "zip"=none
 cE:mg "any"=none
 cF:KD K mg "MOST_PHONES" (.int 8)
 cG:KD K mg "MOST_LINES" (.int 3)
 cH:KD K mg "MOST_RANK" (.int 9)
 cI:KD K mg "MOST_GROUPS" (.int 3)
 cJ:KD K mg "MANNERS" (.tup ((["all","turns"]:List Str).map D.str))
 cK:KD K mg "MOST_MEMBERS" (.int 4)
 cL:KD K mg "MOST_WISHES" (.int 16)
 cM:KD K mg "MOST_SIGNS" (.int 6)
 cN:KD K mg "LETTERS" (.str "abcdefghijklmnopqrstuvwxyz")
 bY:KR K mg "FORMS" Jd
 bZ:KD K mg "MOST_LISTED" (.int 6)
 cO:KD K mg "LAST_HOUR" (.int 23)
 cP:KD K mg "MOST_TURNS" (.int 9)
noncomputable def draw(c f m:Int):Int:=(c % 2147483647+5)*f % 2147483629 / 89 % m
def qF{c f m:Int}(h:0<m):0<=draw c f m:=eR _ (by omega)
def qu{c f m:Int}(h:0<m):draw c f m<m:=eN _ h
def HC:qN:=λds M Q=>Cv λc f m=>ds=[.int c,.int f,.int m]/\0<m/\Q (.int (draw c f m)) M
noncomputable def tX:Str:="abcdefghijklmnopqrstuvwxyz"
noncomputable def tH(i:Int):Str:=⟨#[97+i.toNat]⟩
noncomputable def size(s:Int):Int:=1+s % 6
noncomputable def ua(s:Int):Int:=s / 6 % size s
noncomputable def wK(s v:Int):Str:=xY (tH (s / 36 % 26)) (ua s)++tH ((s / 936+v) % 26)++xY (tH (s / 36 % 26)) (size s - 1 - ua s)
def Ni:qN:=λds M Q=>Bj λs v=>ds=[.int s,.int v]/\Q (.str (wK s v)) M
noncomputable def cell(ns:List Int)(i:Int):Int:=if 0<=i/\i<ns.length then ns.getD i.toNat 0 else 0
def SQ:qN:=λds M Q=>Bj λns i=>ds=[.rl (ns.map D.int),.int i]/\Q (.int (cell ns i)) M
def Fy(c:Int):0<size c:=by unfold size;have:=eR c (show(6:Int)≠0 by decide);omega
def HA(c:Int):size c<=6:=by unfold size;have:=eN c (show(0:Int)<6 by decide);omega
def E8(i n:Int):(xY (tH i) n).length=n.toNat:=by show((List.replicate n.toNat (tH i).cps).foldl (·++·) #[]:Array Nat).size=n.toNat;rw[Hu];show n.toNat*1=n.toNat;omega
def zP:tX.length<=sizeLine:=by decide+kernel
variable {P:Pg}{w:Wo}{K:pU}{mg:Str→Option Vl}{base:Heap}{a:Ad}
def qo(G:Gl K mg a):Fq P w K mg base 1 a.i HC:=by
 refine fq G.i.toDG E2 (λr u=>⟨_,(oO (oV (pH (pH (pH (pH (pH (pH v0 oQ) oQ) U1) oQ) oQ) U2))),?_⟩)
 rintro ds M Q ⟨c,f,m,rfl,hm,q⟩
 refine⟨by decide,.inl ?_,by decide,⟨by decide,by decide⟩,hm,M,.refl,q⟩;have h1:0<=c % 2147483647:=eR _ (by decide);have h2:c % 2147483647<2147483647:=eN _ (by decide);exact⟨by omega,by omega⟩
def CD{i:Int}(h0:0<=i)(h1:i<26):vM tX.cps.toList i=some (97+i.toNat):=by
 obtain⟨n,rfl⟩:=d6 h0;have hn:n<26:=by omega
 have key:∀n:_root_.Fin 26,vM tX.cps.toList ((n.val:Nat):Int)=some (97+n.val):=by decide+kernel
 exact key ⟨n,hn⟩
def IG(G:Gl K mg a):Fq P w K mg base 1 a.ag Ni:=by
 refine fq G.ag.toDG tM (λr u=>⟨_,(oN (pj 2 tM oR)
 (oN (pj 3 tM (pH oQ (pH v0 oQ)))
 (oN (pj 4 tM (pH (pH v0 oQ) U3))
 (oN (pj 5 tM (pf U2 (pH (pH v0 oQ) oQ)))
 (oN (pj 6 tM (pf U2 (pH (pH (pH v0 oQ) U1) oQ)))
 (oO (oV (pH (pH (pH v5 v4) v6) (pH v5 (pH (pH U3 oQ) v4)))))))))),?_⟩)
 rintro ds M Q ⟨c,v,rfl,q⟩
 have hs:=Fy c;have hs6:=HA c;have hp0:0<=ua c:=eR _ (by omega);have Xm:ua c<size c:=eN _ hs;have l1:=E8 (c / 36 % 26) (ua c);have l2:=E8 (c / 36 % 26) (size c - 1 - ua c);have hz:=dN;refine⟨by decide,⟨by decide,by decide⟩,hs,⟨by decide,by decide⟩,by decide,zP,i' (CD (eR _ (by decide)) (eN _ (by decide))) ?_⟩;refine⟨⟨by decide,by decide⟩,by decide,zP,i' (CD (eR _ (by decide)) (eN _ (by decide))) ?_⟩;refine⟨⟨?_,?_,?_⟩,?_,⟨?_,?_,?_⟩,?_,M,.refl,q⟩
 .show ua c<4096;omega
 .show -4096<ua c;omega
 .show(1:Nat)<4096;decide
 .show(xY (tH (c / 36 % 26)) (ua c)).length+1<=sizeLine;omega
 .show size c - 1 - ua c<4096;omega
 .show -4096<size c - 1 - ua c;omega
 .show(1:Nat)<4096;decide
 .show(xY (tH (c / 36 % 26)) (ua c)++tH ((c / 936+v) % 26)).length+(xY (tH (c / 36 % 26)) (size c - 1 - ua c)).length<=sizeLine;rw[PySem.size_cat];have:(tH ((c / 936+v) % 26)).length=1:=rfl;omega
def Kr(G:Gl K mg a):Fq P w K mg base 1 a.O SQ:=by
 refine fq G.O.toDG IQ (λr u=>⟨_,(oN (pA (Fl u oQ U1 (pD qc rfl G.g pX (pR v0)))
 (oO (oV (pf v0 U1)))
 pb)
 (oO (oV oQ))),?_⟩)
 rintro ds M Q ⟨ns,i,rfl,q⟩
 refine qm (λh0=>?_) (λh0=>?_)
 .have h0:0<=i:=fO h0;refine qm (λh1=>?_) (λh1=>?_)
  .have h1:i<((ns.map D.int).length:Int):=fO h1;rw[cR]at h1;have hi:i.toNat<ns.length:=by omega
   have e:vM (ns.map D.int) i=some (D.int (ns.getD i.toNat 0)):=by
    obtain⟨n,rfl⟩:=d6 h0;have hn:n<ns.length:=by omega
    refine uF ?_;rw[dA,cT hn];simp[hn]
   refine i' e ⟨M,.refl,?_⟩;have:cell ns i=ns.getD i.toNat 0:=by unfold cell;rw[cY ⟨h0,h1⟩]
   rw[<-this];exact q
  .have h1:¬i<((ns.map D.int).length:Int):=λz=>h1 (dQ z);rw[cR]at h1;refine⟨M,.refl,?_⟩;have:cell ns i=0:=by unfold cell;rw[cW (λz=>h1 z.2)]
   rw[<-this];exact q
 .have h0:¬0<=i:=λz=>h0 (dQ z);refine⟨M,.refl,?_⟩;have:cell ns i=0:=by unfold cell;rw[cW (λz=>h0 z.1)]
  rw[<-this];exact q
inductive Wi where
 | bar (x:Str) (ns:List Str)|shut (x:Str) (ns:List Str)|always (x y:Str)|night (x y:Str) (f l:Int)|busy (x y:Str)|silent (x y:Str) (n:Int)|wait (x:Str)|breaks (x:Str)
abbrev names(ns:List Str):D:=.tup (ns.map D.str)
noncomputable def Wi.told:Wi->List D
 | .bar x ns=>[.str "bar",.str x,names ns]
 | .shut x ns=>[.str "shut",.str x,names ns]
 | .always x y=>[.str "always",.str x,.str y]
 | .night x y f l=>[.str "night",.str x,.str y,.int f,.int l]
 | .busy x y=>[.str "busy",.str x,.str y]
 | .silent x y n=>[.str "silent",.str x,.str y,.int n]
 | .wait x=>[.str "wait",.str x]
 | .breaks x=>[.str "breaks",.str x]
noncomputable def Wi.cls(a:Ad):Wi->Addr
 | .bar _ _=>a.r
 | .shut _ _=>a.t
 | .always _ _=>a.w
 | .night _ _ _ _=>a.n
 | .busy _ _=>a.x
 | .silent _ _ _=>a.u
 | .wait _=>a.v
 | .breaks _=>a.o
noncomputable def Wi.more:Wi->List (Str×D)
 | .bar x ns=>[("phone",.str x),("targets",names ns)]
 | .shut x ns=>[("target",.str x),("callers",names ns)]
 | .always x y=>[("target",.str x),("goal",.str y)]
 | .night x y f l=>[("target",.str x),("goal",.str y),("first",.int f),("last",.int l)]
 | .busy x y=>[("target",.str x),("goal",.str y)]
 | .silent x y n=>[("target",.str x),("goal",.str y),("turns",.int n)]
 | .wait x=>[("phone",.str x)]
 | .breaks x=>[("phone",.str x)]
noncomputable def Wi.nu(v:Wi):List (Str×D):=("form",.tup v.told)::v.more
abbrev Bw(ns:List Str)(i:Int):Str:=ns.getD i.toNat Str.empty
noncomputable def wA(row:List Str)(c m:Int):Nat:=(1+draw c 40692 (if (row.length:Int)<m then(row.length:Int)else m)).toNat
noncomputable def Sk(row:List Str)(c:Int)(j:Nat):Str:=Bw row ((draw c 69621 row.length+(0+(j:Nat))) % row.length)
noncomputable def vf(row:List Str)(c m:Int):List Str:=(List.range (wA row c m)).map (Sk row c)
def NK:qN:=λds M Q=>zZ λr c m row=>ds=[.ref r,.int c,.int m]/\oy M r=some (row.map D.str)/\row≠[]/\0<m/\row.length<=64/\Q (names (vf row c m)) M
def HK{row:List Str}(h:row≠[])(x:Int):vM (row.map D.str) (x % row.length)=some (D.str (Bw row (x % row.length))):=by
 have hl:0<row.length:=fu.mpr h;have h0:0<=x % row.length:=eR _ (by omega);have h1:x % row.length<row.length:=eN _ (by omega);obtain⟨n,hn⟩:=d6 h0;rw[hn]at h1 ⊢;have Xp:n<row.length:=by omega
 refine uF ?_;rw[dA,cT Xp];simp[Bw,Xp]
def xK(G:Gl K mg a):Fq P w K mg base 2 a.P NK:=by
 refine fq G.P.toDG xb (λr u=>⟨_,(oN (pj 3 xb (o9 (qo G) r G.i (qR U1 oQ (pD qc rfl G.g pX (pR v0)))))
 (oN (pj 4 xb (pH oQ (o9 (qo G) r G.i (qR U1 oQ (pD (Qm rfl) rfl G.cB QY (rA U2 (pD qc rfl G.g pX (pR v0))))))))
 (oO (oV (pZ ur rfl G.I uq (pR (ql rfl (wC (ix:=[none,some 0,some 3]) (N':=["_law_j","_law_row","_law_first"])) (uI rfl G.aa (pR v4)) (qg 0) rh (pf U1 (pH (pH U2 v0) (pD qc rfl G.g pX (pR U1))))))))))),?_⟩)
 rintro ds M Q ⟨r,c,m,row,rfl,hl,Wc,hm,h64,q⟩
 have VR:0<row.length:=fu.mpr Wc;have hz:=dN;have el:((row.map D.str).length:Int)=row.length:=by rw[cR]
 refine i' hl ⟨c,69621,_,rfl,by rw[el];omega,?_⟩;refine i' hl ⟨c,40692,_,rfl,by rw[el];split<;>omega,?_⟩;rw[el];have d0:=qF (c:=c) (f:=40692) (m:=if (row.length:Int)<m then(row.length:Int)else m) (by split<;>omega);have d1:=qu (c:=c) (f:=40692) (m:=if (row.length:Int)<m then(row.length:Int)else m) (by split<;>omega);have d2:draw c 40692 (if (row.length:Int)<m then(row.length:Int)else m)<row.length+1:=by refine Int.lt_of_lt_of_le d1 ?_;split<;>omega
 refine⟨rfl,⟨?_,?_⟩,qH (f:=λd=>match d with|.int j=>D.str (Bw row ((draw c 69621 row.length+j) % row.length))|_=>.mC) trivial _ [] _ ?_ (λd hd k hk=>?_) λp hp=>?_⟩
 .show -(2 ^ 62)<=1+draw c 40692 (if (row.length:Int)<m then(row.length:Int)else m);omega
 .show 1+draw c 40692 (if (row.length:Int)<m then(row.length:Int)else m)<2 ^ 62;omega
 .rw[cR,eD];show 0+wA row c m<=sizeLine;unfold wA;omega
 .obtain⟨j,_,rfl⟩:=dz.mp hd;refine i' hl ⟨by rw[el];omega,i' hl ?_⟩;rw[el];exact i' (HK Wc _) hk
 .refine i' (x:=(vf row c m).map D.str) ?_ ⟨M,.new hp,q⟩;unfold oy;rw[pC];show some ([]++((List.range (wA row c m)).map λi=>D.int (0+(i:Nat))).map _)=_;rw[dW,dZ];unfold vf;rw[dZ];rfl
noncomputable def vH(c:Int)(own all:List Str):Wi:=
 let x:=Bw own (draw c 16807 own.length);let pl:=draw c 39373 all.length;let y:=Bw all pl;let z:=Bw all ((pl+1+draw c 742938285 ((all.length:Int) - 1)) % all.length);let k:=draw c 1226874159 12
 if k=0 then .bar x (vf all c 3)
 else if k=1 then .shut y (vf own c 3)
 else if k=2 then .always y z
 else if k<5 then .night y z (draw c 22695477 24) ((draw c 22695477 24+1+draw c 48271 23) % 24)
 else if k<7 then .busy y z
 else if k<9 then .silent y z ([1,1,2,3,9].getD (draw c 950706376 5).toNat 0)
 else if k=9 then .wait x
 else .breaks x
def Om:qN:=λds M Q=>Gh λc o n own all=>ds=[.int c,.ref o,.ref n]/\oy M o=some (own.map D.str)/\oy M n=some (all.map D.str)/\own≠[]/\2<=all.length/\own.length<=64/\all.length<=64/\Q (.tup (vH c own all).told) M
def Gm{row:List Str}{x:Int}(h0:0<=x)(h1:x<row.length):vM (row.map D.str) x=some (D.str (Bw row x)):=by
 obtain⟨n,rfl⟩:=d6 h0;have Xp:n<row.length:=by omega
 refine uF ?_;rw[dA,cT Xp];simp[Bw,Xp]
def Nl(G:Gl K mg a):Fq P w K mg base 3 a.bk Om:=by
 refine fq G.bk.toDG sA (λr u=>⟨_,(oN (pj 3 sA (pf U1 (o9 (qo G) r G.i (qR v0 oQ (pD qc rfl G.g pX (pR U1))))))
 (oN (pj 4 sA (o9 (qo G) r G.i (qR v0 oQ (pD qc rfl G.g pX (pR U2)))))
 (oN (pj 5 sA (pf U2 v4))
 (oN (pj 6 sA (pf U2 (pH (pH (pH v4 oQ) (o9 (qo G) r G.i (qR v0 oQ (pH (pD qc rfl G.g pX (pR U2)) oQ)))) (pD qc rfl G.g pX (pR U2)))))
 (oN (pj 7 sA (o9 (qo G) r G.i (qR v0 oQ oQ)))
 (oN (pA (oZ u v7 oQ)
 (oO (oV (pz (qR oR U3 (o9 (xK G) r G.P (qR U2 v0 oQ))))))
 pb)
 (oN (pA (oZ u v7 oQ)
 (oO (oV (pz (qR oR v5 (o9 (xK G) r G.P (qR U1 v0 oQ))))))
 pb)
 (oN (pA (oZ u v7 oQ)
 (oO (oV (pz (qR oR v5 v6))))
 pb)
 (oN (pA (oZ u v7 oQ)
 (oN (pj 8 sA (o9 (qo G) r G.i (qR v0 oQ oQ)))
 (oO (oV (pz (pJ oR (pJ v5 (qR v6 v8 (pH (pH (pH v8 oQ) (o9 (qo G) r G.i (qR v0 oQ oQ))) oQ))))))))
 pb)
 (oN (pA (oZ u v7 oQ)
 (oO (oV (pz (qR oR v5 v6))))
 pb)
 (oN (pA (oZ u v7 oQ)
 (oO (oV (pz (pJ oR (qR v5 v6 (pf (pz (pJ oQ (pJ oQ (qR oQ oQ oQ)))) (o9 (qo G) r G.i (qR v0 oQ oQ))))))))
 pb)
 (oN (pA (oZ u v7 oQ)
 (oO (oV (pz (rA oR U3))))
 pb)
 (oO (oV (pz (rA oR U3)))))))))))))))),?_⟩)
 rintro ds M Q ⟨c,o,n,own,all,rfl,ho,hn,Wc,h2,l1,l2,q⟩
 have VR:0<own.length:=fu.mpr Wc;have hne2:all≠[]:=λz=>by rw[z]at h2;simp at h2
 have e1:((own.map D.str).length:Int)=own.length:=by rw[cR]
 have e2:((all.map D.str).length:Int)=all.length:=by rw[cR]
 have p1:(0:Int)<own.length:=by omega
 have p2:(0:Int)<all.length:=by omega
 have p3:(0:Int)<(all.length:Int) - 1:=by omega
 refine i' ho ⟨c,_,_,rfl,by rw[e1];exact p1,?_⟩;rw[e1];refine i' ho (i' (Gm (qF p1) (qu p1)) ?_);refine i' hn ⟨c,_,_,rfl,by rw[e2];exact p2,?_⟩;rw[e2];refine i' hn (i' (Gm (qF p2) (qu p2)) ?_);refine i' hn ⟨c,_,_,rfl,by rw[e2];exact p3,?_⟩;rw[e2];refine i' hn ⟨by rw[e2];exact p2,?_⟩;rw[e2];refine i' hn (i' (HK hne2 _) ?_);refine⟨c,_,_,rfl,by decide,?_⟩;have VP:∀t:List D,(vH c own all).told=t->∃VQ,qa VQ M/\Q (.tup t) VQ:=λt e=>⟨M,.refl,e ▸ q⟩;have k0:0<=draw c 1226874159 12:=qF (by decide);refine qm (λh=>?_) (λh=>?_)
 .have h:draw c 1226874159 12=0:=by simpa using h
  refine⟨n,c,3,all,rfl,hn,hne2,by decide,l2,oK rfl,VP _ ?_⟩;simp only[vH,cY h,Wi.told]
 have h:¬draw c 1226874159 12=0:=by simpa using h
 refine qm (λg=>?_) (λg=>?_)
 .have g:draw c 1226874159 12=1:=by simpa using g
  refine⟨o,c,3,own,rfl,ho,Wc,by decide,l1,oK rfl,VP _ ?_⟩;simp only[vH,cW h,cY g,Wi.told]
 have g:¬draw c 1226874159 12=1:=by simpa using g
 refine qm (λi=>?_) (λi=>?_)
 .have i:draw c 1226874159 12=2:=by simpa using i
  refine⟨oK rfl,VP _ ?_⟩;simp only[vH,cW h,cW g,cY i,Wi.told]
 have i:¬draw c 1226874159 12=2:=by simpa using i
 refine qm (λj=>?_) (λj=>?_)
 .have j:draw c 1226874159 12<5:=fO j;refine⟨c,_,_,rfl,by decide,c,_,_,rfl,by decide,by decide,oK rfl,VP _ ?_⟩;simp only[vH,cW h,cW g,cW i,cY j,Wi.told]
 have j:¬draw c 1226874159 12<5:=λz=>j (dQ z);refine qm (λl=>?_) (λl=>?_)
 .have l:draw c 1226874159 12<7:=fO l;refine⟨oK rfl,VP _ ?_⟩;simp only[vH,cW h,cW g,cW i,cW j,cY l,Wi.told]
 have l:¬draw c 1226874159 12<7:=λz=>l (dQ z);refine qm (λm=>?_) (λm=>?_)
 .have m:draw c 1226874159 12<9:=fO m;have d0:0<=draw c 950706376 5:=qF (by decide);have d1:draw c 950706376 5<5:=qu (by decide);have e:vM [D.int 1,.int 1,.int 2,.int 3,.int 9] (draw c 950706376 5)=some (D.int ([1,1,2,3,9].getD (draw c 950706376 5).toNat 0)):=by
   obtain⟨t,ht⟩:=d6 d0;rw[ht]at d1 ⊢;have:t<5:=by omega
   match t,this with
   | 0,_=>rfl
   | 1,_=>rfl
   | 2,_=>rfl
   | 3,_=>rfl
   | 4,_=>rfl
  refine⟨oK rfl,c,_,_,rfl,by decide,i' e ⟨oK rfl,VP _ ?_⟩⟩;simp only[vH,cW h,cW g,cW i,cW j,cW l,cY m,Wi.told]
 have m:¬draw c 1226874159 12<9:=λz=>m (dQ z);refine qm (λr=>?_) (λr=>?_)
 .have r:draw c 1226874159 12=9:=by simpa using r
  refine⟨oK rfl,VP _ ?_⟩;simp only[vH,cW h,cW g,cW i,cW j,cW l,cW m,cY r,Wi.told]
 have r:¬draw c 1226874159 12=9:=by simpa using r
 refine⟨oK rfl,VP _ ?_⟩;simp only[vH,cW h,cW g,cW i,cW j,cW l,cW m,cW r,Wi.told]
def Lg(K:pU):qN:=λds M Q=>Cv λp d C=>ds=[.ref p,d]/\M p=some (.ins C [])/\tG K C "form"/\Q .mC (oX M p (.ins C [("form",d)]))
def Kw(K:pU):qN:=λds M Q=>Gh λp t x y C=>ds=[.ref p,.tup t]/\vM t 1=some x/\vM t 2=some y/\M p=some (.ins C [])/\tG K C "form"/\tG K C "target"/\tG K C "goal"/\Q .mC (oX M p (.ins C [("form",.tup t),("target",x),("goal",y)]))
def xI(a:Ad)(k:Wi->Prop):qN:=λds M Q=>Bj λp v=>ds=[.ref p,.tup (Wi.told v)]/\k v/\M p=some (.ins (v.cls a) [])/\Q .mC (oX M p (.ins (v.cls a) v.nu))
def xj(G:Gl K mg a):Fq P w K mg base 1 a.E (Lg K):=by
 refine fq G.E.toDG Er (λr u=>⟨_,(oO (pK v0 U1)),?_⟩)
 rintro ds M Q ⟨p,d,C,rfl,hp,na,q⟩
 exact oP hp ⟨na,by decide,_,.refl,q⟩
def yK(G:Gl K mg a):Fq P w K mg base 2 a.A (Kw K):=by
 refine fq G.A.toDG Ao (λr u=>⟨_,(oN (pq (x9 G.aM (xj G) r G.B G.E.toDG (rA v0 U1)))
 (oN (pK v0 (pf U1 oQ))
 (oO (pK v0 (pf U1 oQ))))),?_⟩)
 rintro ds M Q ⟨p,t,x,y,C,rfl,e1,e2,hp,n1,n2,n3,q⟩
 refine⟨p,_,C,rfl,hp,n1,i' e1 (oP pC ⟨n2,by show 1<1000;decide,?_⟩)⟩;refine i' e2 (oP pC ⟨n3,by show 2<1000;decide,_,?_,q⟩);rw[ra,ra];exact .refl
def Q4(G:Gl K mg a):Fq P w K mg base 2 a.al (xI a λv=>∃x ns,v=.bar x ns):=by
 refine fq G.al.toDG FF (λr u=>⟨_,(oN (pq (x9 G.aM (xj G) r G.B G.E.toDG (rA v0 U1)))
 (oN (pK v0 (pf U1 oQ))
 (oO (pK v0 (pf U1 oQ))))),?_⟩)
 rintro ds M Q ⟨p,v,rfl,⟨x,ns,rfl⟩,hp,q⟩
 refine⟨p,_,_,rfl,hp,(G.bO "form" rfl),oP pC ⟨(G.bO "phone" rfl),by show 1<1000;decide,?_⟩⟩;refine oP pC ⟨(G.bO "targets" rfl),by show 2<1000;decide,_,?_,q⟩;rw[ra,ra];exact .refl
def MP(G:Gl K mg a):Fq P w K mg base 2 a.am (xI a λv=>∃x ns,v=.shut x ns):=by
 refine fq G.am.toDG DS (λr u=>⟨_,(oN (pq (x9 G.aM (xj G) r G.B G.E.toDG (rA v0 U1)))
 (oN (pK v0 (pf U1 oQ))
 (oO (pK v0 (pf U1 oQ))))),?_⟩)
 rintro ds M Q ⟨p,v,rfl,⟨x,ns,rfl⟩,hp,q⟩
 refine⟨p,_,_,rfl,hp,(G.bP "form" rfl),oP pC ⟨(G.bP "target" rfl),by show 1<1000;decide,?_⟩⟩;refine oP pC ⟨(G.bP "callers" rfl),by show 2<1000;decide,_,?_,q⟩;rw[ra,ra];exact .refl
def Kc(G:Gl K mg a):Fq P w K mg base 3 a.an (xI a λv=>∃x y f l,v=.night x y f l):=by
 refine fq G.an.toDG Cz (λr u=>⟨_,(oN (pq (x9 G.bV (yK G) r G.Y G.A.toDG (rA v0 U1)))
 (oN (pK v0 (pf U1 oQ))
 (oO (pK v0 (pf U1 oQ))))),?_⟩)
 rintro ds M Q ⟨p,v,rfl,⟨x,y,f,l,rfl⟩,hp,q⟩
 refine⟨p,_,_,_,_,rfl,rfl,rfl,hp,(G.aN "form" rfl),(G.aN "target" rfl),(G.aN "goal" rfl),oP pC ⟨(G.aN "first" rfl),by show 3<1000;decide,?_⟩⟩;refine oP pC ⟨(G.aN "last" rfl),by show 4<1000;decide,_,?_,q⟩;rw[ra,ra];exact .refl
def Jz(G:Gl K mg a):Fq P w K mg base 3 a.ao (xI a λv=>∃x y n,v=.silent x y n):=by
 refine fq G.ao.toDG Be (λr u=>⟨_,(oN (pq (x9 G.bV (yK G) r G.Y G.A.toDG (rA v0 U1)))
 (oO (pK v0 (pf U1 oQ)))),?_⟩)
 rintro ds M Q ⟨p,v,rfl,⟨x,y,n,rfl⟩,hp,q⟩
 refine⟨p,_,_,_,_,rfl,rfl,rfl,hp,(G.bM "form" rfl),(G.bM "target" rfl),(G.bM "goal" rfl),oP pC ⟨(G.bM "turns" rfl),by show 3<1000;decide,_,?_,q⟩⟩;rw[ra];exact .refl
def NC(G:Gl K mg a):Fq P w K mg base 2 a.ap (xI a λv=>∃x,v=.wait x):=by
 refine fq G.ap.toDG EF (λr u=>⟨_,(oN (pq (x9 G.aM (xj G) r G.B G.E.toDG (rA v0 U1)))
 (oO (pK v0 (pf U1 oQ)))),?_⟩)
 rintro ds M Q ⟨p,v,rfl,⟨x,rfl⟩,hp,q⟩
 refine⟨p,_,_,rfl,hp,(G.bW "form" rfl),oP pC ⟨(G.bW "phone" rfl),by show 1<1000;decide,_,?_,q⟩⟩;rw[ra];exact .refl
def JT(G:Gl K mg a):Fq P w K mg base 2 a.aq (xI a λv=>∃x,v=.breaks x):=by
 refine fq G.aq.toDG Bl (λr u=>⟨_,(oN (pq (x9 G.aM (xj G) r G.B G.E.toDG (rA v0 U1)))
 (oO (pK v0 (pf U1 oQ)))),?_⟩)
 rintro ds M Q ⟨p,v,rfl,⟨x,rfl⟩,hp,q⟩
 refine⟨p,_,_,rfl,hp,(G.bX "form" rfl),oP pC ⟨(G.bX "phone" rfl),by show 1<1000;decide,_,?_,q⟩⟩;rw[ra];exact .refl
def GM(a:Ad):qN:=λds M Q=>∃v:Wi,ds=[.tup v.told]/\∀p,M p=none->Q (.ref p) (oX M p (.ins (v.cls a) v.nu))
def Ho(a:Ad):qN:=λds M Q=>Bj λp (v:Wi)=>ds=[.ref p]/\M p=some (.ins (v.cls a) v.nu)/\Q (.tup v.told) M
def Gx:qN:=λds M Q=>∃p,ds=[.ref p]/\Q (.tup [.str "end"]) M
def Kz:qN:=λds M Q=>∃p,ds=[.ref p]/\Q (.tup [.str "break"]) M
def PV:qN:=λds M Q=>zZ λp C fs y=>ds=[.ref p]/\M p=some (.ins C fs)/\fs.lookup ("goal":Str)=some y/\Q (.tup [.str "to",y]) M
def PX:qN:=λds M Q=>zZ λp C fs y=>ds=[.ref p]/\M p=some (.ins C fs)/\fs.lookup ("phone":Str)=some y/\Q (.tup [.str "wait",y]) M
def Ml(a:Ad):Addr->qN->Prop:=λC sp=>(∃v:Wi,C=v.cls a)/\sp=Ho a
def HF(a:Ad):Addr->qN->Prop:=λC sp=>((C=a.r\/C=a.t)/\sp=Gx)\/((C=a.w\/C=a.n\/C=a.x\/C=a.u)/\sp=PV)\/(C=a.v/\sp=PX)\/(C=a.o/\sp=Kz)
def GK(G:Gl K mg a):Fq P w K mg base 5 a.bb (GM a):=by
 refine fq G.bb.toDG Bg (λr u=>⟨_,(oN (pj 1 Bg (pf v0 oQ))
 (oN (pA (oZ u U1 oR)
 (oO (oV (uP (Q4 G) r G.r G.b7 G.al.toDG (pR v0))))
 pb)
 (oN (pA (oZ u U1 oR)
 (oO (oV (uP (MP G) r G.t G.b8 G.am.toDG (pR v0))))
 pb)
 (oN (pA (oZ u U1 oR)
 (oO (oV (uP (yK G) r G.w G.b9 G.A.toDG (pR v0))))
 pb)
 (oN (pA (oZ u U1 oR)
 (oO (oV (uP (Kc G) r G.n G.ca G.an.toDG (pR v0))))
 pb)
 (oN (pA (oZ u U1 oR)
 (oO (oV (uP (yK G) r G.x G.cb G.A.toDG (pR v0))))
 pb)
 (oN (pA (oZ u U1 oR)
 (oO (oV (uP (Jz G) r G.u G.cc G.ao.toDG (pR v0))))
 pb)
 (oN (pA (oZ u U1 oR)
 (oO (oV (uP (NC G) r G.v G.cd G.ap.toDG (pR v0))))
 pb)
 (oN (pA (oZ u U1 oR)
 (oO (oV (uP (JT G) r G.o G.ce G.aq.toDG (pR v0))))
 pb)
 (oO E7)))))))))),?_⟩)
 rintro ds M Q ⟨v,rfl,q⟩
 have VP:∀(x:Addr) (c0 c1:uo) (C:Addr) (fs:List (Str×D)),M x=none->Q (.ref x) (oX M x c1)->∃VQ,qa VQ (oX (oX M x c0) x c1)/\Q (.ref x) VQ:=λx c0 c1 C fs hx q=>⟨_,by rw[ra];exact .refl,q⟩;cases v with
 | bar x ns=>exact λp hp=>⟨p,.bar x ns,rfl,⟨_,_,rfl⟩,pC,rfl,VP p _ _ 0 [] hp (q p hp)⟩
 | shut x ns=>exact λp hp=>⟨p,.shut x ns,rfl,⟨_,_,rfl⟩,pC,rfl,VP p _ _ 0 [] hp (q p hp)⟩
 | always x y=>exact λp hp=>⟨p,_,_,_,_,rfl,rfl,rfl,pC,(G.bQ "form" rfl),(G.bQ "target" rfl),(G.bQ "goal" rfl),rfl,VP p _ _ 0 [] hp (q p hp)⟩
 | night x y f l=>exact λp hp=>⟨p,.night x y f l,rfl,⟨_,_,_,_,rfl⟩,pC,rfl,VP p _ _ 0 [] hp (q p hp)⟩
 | busy x y=>exact λp hp=>⟨p,_,_,_,_,rfl,rfl,rfl,pC,(G.bR "form" rfl),(G.bR "target" rfl),(G.bR "goal" rfl),rfl,VP p _ _ 0 [] hp (q p hp)⟩
 | silent x y n=>exact λp hp=>⟨p,.silent x y n,rfl,⟨_,_,_,rfl⟩,pC,rfl,VP p _ _ 0 [] hp (q p hp)⟩
 | wait x=>exact λp hp=>⟨p,.wait x,rfl,⟨_,rfl⟩,pC,rfl,VP p _ _ 0 [] hp (q p hp)⟩
 | breaks x=>exact λp hp=>⟨p,.breaks x,rfl,⟨_,rfl⟩,pC,rfl,VP p _ _ 0 [] hp (q p hp)⟩
def OY(G:Gl K mg a):Fq P w K mg base 1 a.l (Ho a):=by
 refine fq G.l.toDG DP (λr u=>⟨_,(oO (oV (oU v0))),?_⟩)
 rintro ds M Q ⟨p,v,rfl,hp,q⟩
 exact oP hp (i' rfl ⟨M,.refl,q⟩)
def Pe(G:Gl K mg a):Fq P w K mg base 1 a.ay Gx:=by
 refine fq G.ay.toDG El (λr u=>⟨_,(oO (oV (pz (pR oR)))),?_⟩)
 rintro ds M Q ⟨p,rfl,q⟩
 exact⟨oK rfl,M,.refl,q⟩
def J5(G:Gl K mg a):Fq P w K mg base 1 a.az Gx:=by
 refine fq G.az.toDG Cu (λr u=>⟨_,(oO (oV (pz (pR oR)))),?_⟩)
 rintro ds M Q ⟨p,rfl,q⟩
 exact⟨oK rfl,M,.refl,q⟩
def vj(G:Gl K mg a):Fq P w K mg base 1 a.z PV:=by
 refine fq G.z.toDG zG (λr u=>⟨_,(oO (oV (pz (rA oR (oU v0))))),?_⟩)
 rintro ds M Q ⟨p,C,fs,y,rfl,hp,e,q⟩
 exact oP hp (i' e ⟨oK rfl,M,.refl,q⟩)
def KB(G:Gl K mg a):Fq P w K mg base 1 a.aA PX:=by
 refine fq G.aA.toDG Cm (λr u=>⟨_,(oO (oV (pz (rA oR (oU v0))))),?_⟩)
 rintro ds M Q ⟨p,C,fs,y,rfl,hp,e,q⟩
 exact oP hp (i' e ⟨oK rfl,M,.refl,q⟩)
def GJ(G:Gl K mg a):Fq P w K mg base 1 a.aB Kz:=by
 refine fq G.aB.toDG Av (λr u=>⟨_,(oO (oV (pz (pR oR)))),?_⟩)
 rintro ds M Q ⟨p,rfl,q⟩
 exact⟨oK rfl,M,.refl,q⟩
def Qo(G:Gl K mg a):∀C sp,Ml a C sp->xo P w K mg base 1 "told" C (MH K sp):=by
 rintro C sp ⟨⟨v,rfl⟩,rfl⟩
 have F:=OY (P:=P) (w:=w) (base:=base) G;cases v with
 | bar _ _=>exact⟨G.r.toCls,_,_,_,G.cn,F,G.l.b⟩
 | shut _ _=>exact⟨G.t.toCls,_,_,_,G.co,F,G.l.b⟩
 | always _ _=>exact⟨G.w.toCls,_,_,_,G.cp,F,G.l.b⟩
 | night _ _ _ _=>exact⟨G.n.toCls,_,_,_,G.cq,F,G.l.b⟩
 | busy _ _=>exact⟨G.x.toCls,_,_,_,G.cr,F,G.l.b⟩
 | silent _ _ _=>exact⟨G.u.toCls,_,_,_,G.cs,F,G.l.b⟩
 | wait _=>exact⟨G.v.toCls,_,_,_,G.ct,F,G.l.b⟩
 | breaks _=>exact⟨G.o.toCls,_,_,_,G.cu,F,G.l.b⟩
def Nu(G:Gl K mg a):∀C sp,HF a C sp->xo P w K mg base 1 "wants" C (MH K sp):=by
 rintro C sp (⟨rfl|rfl,rfl⟩|⟨rfl|rfl|rfl|rfl,rfl⟩|⟨rfl,rfl⟩|⟨rfl,rfl⟩)
 .exact⟨G.r.toCls,_,_,_,G.ay.mW,Pe G,G.ay.b⟩
 .exact⟨G.t.toCls,_,_,_,G.az.mW,J5 G,G.az.b⟩
 .exact⟨G.w.toCls,_,_,_,G.cv,vj G,G.z.b⟩
 .exact⟨G.n.toCls,_,_,_,G.cw,vj G,G.z.b⟩
 .exact⟨G.x.toCls,_,_,_,G.cx,vj G,G.z.b⟩
 .exact⟨G.u.toCls,_,_,_,G.cy,vj G,G.z.b⟩
 .exact⟨G.v.toCls,_,_,_,G.aA.mW,KB G,G.aA.b⟩
 .exact⟨G.o.toCls,_,_,_,G.aB.mW,GJ G,G.aB.b⟩
noncomputable def tU(x:Str):Bool:=decide ((1:Int)<=x.length)&&(decide ((x.length:Int)<=6)&&x.cps.toList.all λc=>Co ⟨#[c]⟩ tX)
def GV:qN:=λds M Q=>∃x:Str,ds=[.str x]/\x.length<=1000/\Q (.bl (tU x)) M
def Ig:qN:=λds M Q=>∃w,ds=[.bl true,w]/\Q .mC M
noncomputable def vV(ss:List Str):Bool:=((sj ss).length:Int)==(ss.length:Int)
def QZ(M:Mp)(x:D)(ss:List Str):Prop:=x=.tup (ss.map D.str)\/∃a,x=.ref a/\oy M a=some (ss.map D.str)
def IX:qN:=λds M Q=>Bj λx ss=>ds=[x]/\QZ M x ss/\ss.length<4000/\Q (.bl (vV ss)) M
def yT{α:Type}(f:α->Bool)(l:List α):(l.map f).all id=l.all f:=by rw[l8];rfl
def rM(x:Str)(ss:List Str):inD (.str x) (ss.map D.str)=ss.any (·==x):=by unfold inD;rw[jD];rfl
theorem pW:∀ss:List Str,(ss.map D.str).all uE=true
 | []=>rfl
 | _::r=>by rw[dR,gp,pW r];rfl
noncomputable def rS(cs ks:List Str)(m:Int):Bool:=decide ((1:Int)<=cs.length)&&(decide ((cs.length:Int)<=m)&&(vV cs&&cs.all λc=>ks.any (·==c)))
def JR:qN:=λds M Q=>zZ λcs ks k m=>ds=[.tup (cs.map D.str),.ref k,.int m]/\oy M k=some (ks.map D.str)/\cs.length<4000/\Q (.bl (rS cs ks m)) M
def A0(G:Gl K mg a):Fq P w K mg base 1 a.ae GV:=by
 refine fq G.ae.toDG G6 (λr u=>⟨_,(oO (oV (sD (tW u oQ (pD qc rfl G.g pX (pR v0)) (rV rfl G.cM)) (rY (pD (EG rfl) rfl G.bN Du (pR (ql rfl (wC (ix:=[none]) (N':=["sign"])) (qk v0) (qg 0) rh (pN u v0 (rV rfl G.cN))))))))),?_⟩)
 rintro ds M Q ⟨x,rfl,hl,q⟩
 have hz:=dN;refine⟨by omega,qm (λh1=>?_) (λh1=>?_)⟩
 .refine qm (λh2=>?_) (λh2=>?_)
  .refine qH (f:=λd=>match d with|.str z=>D.bl (Co z tX)|_=>.mC) trivial _ [] _ ?_ (λd hd k hk=>?_) λp hp=>?_
   .rw[cR];have:x.cps.toList.length=x.length:=by simp[Str.length]
    simp only[dD];omega
   .obtain⟨c,_,rfl⟩:=dz.mp hd;exact hk
   .refine i' oW ?_;have e:([]++(x.cps.toList.map λc=>D.str ⟨#[c]⟩).map λd=>match d with|.str z=>D.bl (Co z tX)|_=>.mC)=x.cps.toList.map λc=>D.bl (Co ⟨#[c]⟩ tX):=by rw[dW,dZ];rfl
    rw[e];refine i' (xM (λc=>Co ⟨#[c]⟩ tX) x.cps.toList) ⟨M,.new hp,?_⟩;rw[yT];have:tU x=x.cps.toList.all λc=>Co ⟨#[c]⟩ tX:=by unfold tU;rw[h1,h2];rfl
    rw[<-this];exact q
  .refine⟨M,.refl,?_⟩;have:tU x=false:=by
    unfold tU;have h2:decide ((x.length:Int)<=6)=false:=by simpa using h2
    rw[h2];simp
   rw[<-this];exact q
 .refine⟨M,.refl,?_⟩;have:tU x=false:=by
   unfold tU;have h1:decide ((1:Int)<=x.length)=false:=by simpa using h1
   rw[h1];rfl
  rw[<-this];exact q
def sf(G:Gl K mg a):Fq P w K mg base 1 a.m Ig:=by
 refine fq G.m.toDG Nz (λr u=>⟨_,(oO (pA (vT (uu v0))
 (oO E7)
 pb)),?_⟩)
 rintro ds M Q ⟨x,rfl,q⟩
 exact⟨M,.refl,q⟩
def C1(G:Gl K mg a):Fq P w K mg base 1 a.af IX:=by
 refine fq G.af.toDG B8 (λr u=>⟨_,(oO (oV (pN u (JI rfl v0 rfl G.g rfl G.cC pX RM) (pD qc rfl G.g pX (pR v0))))),?_⟩)
 rintro ds M Q ⟨x,ss,rfl,hx,hl,q⟩
 have key:((ss.map D.str).length:Int)=ss.length:=by rw[cR]
 rcases hx with rfl|⟨b,rfl,hb⟩
 .refine i' (L3.BR ss) ⟨hl,M,.refl,?_⟩;rw[key];exact q
 .refine i' hb (i' (L3.BR ss) ⟨hl,i' hb ⟨M,.refl,?_⟩⟩);rw[key];exact q
def zw(G:Gl K mg a):Fq P w K mg base 2 a.N JR:=by
 refine fq G.N.toDG DO (λr u=>⟨_,(oO (oV (sD (tW u oQ (pD qc rfl G.g pX (pR v0)) U2) (sD (o9 (C1 G) r G.af (pR v0)) (rY (pD (EG rfl) rfl G.bN Du (pR (ql rfl (wC (ix:=[none,some 1]) (N':=["name","known"])) (qk v0) (qg 0) rh (pN u v0 U1))))))))),?_⟩)
 rintro ds M Q ⟨cs,ks,k,m,rfl,hk,hl,q⟩
 have hz:=dN;have key:((cs.map D.str).length:Int)=cs.length:=by rw[cR]
 have Y1:∀b:Bool,rS cs ks m=b->∃VQ,qa VQ M/\Q (.bl b) VQ:=λb e=>⟨M,.refl,e ▸ q⟩;refine qm (λh1=>?_) (λh1=>?_)
 .have h1:decide ((1:Int)<=cs.length)=true:=by rw[<-key];exact h1
  refine qm (λh2=>?_) (λh2=>?_)
  .have h2:decide ((cs.length:Int)<=m)=true:=by rw[<-key];exact h2
   refine⟨_,cs,rfl,.inl rfl,hl,qm (λh3=>?_) (λh3=>?_)⟩
   .refine qH (f:=λd=>match d with|.str z=>D.bl (ks.any (·==z))|_=>.mC) trivial _ [] _ ?_ (λd hd k0 hk0=>?_) λp hp=>?_
    .rw[cR];simp only[dD];omega
    .obtain⟨c,_,rfl⟩:=dz.mp hd;refine i' hk ⟨rfl,pW ks,?_⟩;show k0 (.bl (inD (.str c) (ks.map D.str))) M;rw[rM];exact hk0
    .refine i' oW ?_;have e:([]++(cs.map D.str).map λd=>match d with|.str z=>D.bl (ks.any (·==z))|_=>.mC)=cs.map λc=>D.bl (ks.any (·==c)):=by rw[dW,dZ];rfl
     rw[e];refine i' (xM (λc=>ks.any (·==c)) cs) ⟨M,.new hp,?_⟩;rw[yT];have:rS cs ks m=cs.all λc=>ks.any (·==c):=by unfold rS;rw[h1,h2,h3];rfl
     rw[<-this];exact q
   .refine Y1 _ ?_;unfold rS;have h3:vV cs=false:=by simpa using h3
    rw[h3];simp
  .refine Y1 _ ?_;unfold rS;have h2:decide ((cs.length:Int)<=m)=false:=by
    rw[<-key]
    simpa using h2
   rw[h2];simp
 .refine Y1 _ ?_;unfold rS;have h1:decide ((1:Int)<=cs.length)=false:=by
   rw[<-key]
   simpa using h1
  rw[h1];rfl
abbrev tI:=Str×Int×Int
abbrev tJ:=Str×Str×List Str
abbrev uT:=Bool×Wi
noncomputable def qx(p:tI):D:=.tup [.str p.1,.int p.2.1,.int p.2.2]
noncomputable def qI(g:tJ):D:=.tup [.str g.1,.str g.2.1,names g.2.2]
noncomputable def wz(w:uT):D:=.tup [.bl w.1,.tup w.2.told]
structure EO(p:tI):Prop where
 len:p.1.length<=1000
 nm:tU p.1=true
 l1:1<=p.2.1
 l2:p.2.1<=3
 r1:0<=p.2.2
 r2:p.2.2<=9
structure DZ(pn:List Str)(g:tJ):Prop where
 len:g.1.length<=1000
 nm:tU g.1=true
 man:g.2.1="all"\/g.2.1="turns"
 oK:g.2.2.length<4000
 mem:rS g.2.2 pn 4=true
def xk(ss:List Str)(x:Str):Prop:=ss.any (·==x)=true
def Ba(pn nm:List Str):Wi->Prop
 | .bar x ns=>xk pn x/\ns.length<4000/\rS ns nm 6=true
 | .shut x ns=>xk nm x/\ns.length<4000/\rS ns pn 6=true
 | .always x y=>xk nm x/\xk nm y/\x≠y
 | .night x y f l=>xk nm x/\xk nm y/\x≠y/\(0<=f/\f<=23)/\(0<=l/\l<=23)/\f≠l
 | .busy x y=>xk nm x/\xk nm y/\x≠y
 | .silent x y n=>xk nm x/\xk nm y/\x≠y/\1<=n/\n<=9
 | .wait x=>xk pn x
 | .breaks x=>xk pn x
inductive xq(pn nm:List Str):Str->D->Prop
 | mO (x:Str) (h:xk pn x):xq pn nm "phone" (.str x)
 | name (x:Str) (h:xk nm x):xq pn nm "name" (.str x)
 | mw (cs:List Str) (l:cs.length<4000) (h:rS cs pn 6=true):xq pn nm "phones" (names cs)
 | names (cs:List Str) (l:cs.length<4000) (h:rS cs nm 6=true):xq pn nm "names" (names cs)
 | hour (i:Int) (h0:0<=i) (h1:i<=23):xq pn nm "hour" (.int i)
 | turns (i:Int) (h0:1<=i) (h1:i<=9):xq pn nm "turns" (.int i)
def Io:qN:=λds M Q=>HL λk d pl nl (pn nm:List Str)=>ds=[.str k,d,.ref pl,.ref nl]/\oy M pl=some (pn.map D.str)/\oy M nl=some (nm.map D.str)/\xq pn nm k d/\Q (.bl true) M
def Ab:qN:=λds M Q=>Bj λr (ps:List tI)=>ds=[.ref r]/\oy M r=some (ps.map qx)/\1<=ps.length/\ps.length<=8/\(∀p∈ps,EO p)/\Q .mC M
def Au:qN:=λds M Q=>zZ λr (gs:List tJ) pl (pn:List Str)=>ds=[.ref r,.ref pl]/\oy M r=some (gs.map qI)/\oy M pl=some (pn.map D.str)/\gs.length<=3/\(∀g∈gs,DZ pn g)/\Q .mC M
def Cq:qN:=λds M Q=>Gh λv pl nl (pn nm:List Str)=>ds=[.tup (Wi.told v),.ref pl,.ref nl]/\oy M pl=some (pn.map D.str)/\oy M nl=some (nm.map D.str)/\Ba pn nm v/\Q .mC M
def An:qN:=λds M Q=>HL λr (ws:List uT) pl nl (pn nm:List Str)=>ds=[.ref r,.ref pl,.ref nl]/\oy M r=some (ws.map wz)/\oy M pl=some (pn.map D.str)/\oy M nl=some (nm.map D.str)/\ws.length<=16/\(∀w∈ws,Ba pn nm w.2)/\Q .mC M
def Vk{ss:List Str}{x:Str}(h:xk ss x):inD (.str x) (ss.map D.str)=true:=by rw[rM];exact h
def Nf(G:Gl K mg a):Fq P w K mg base 3 a.be Io:=by
 refine fq G.be.toDG Cw (λr u=>⟨_,(oN (pA (oZ u v0 oR)
 (oO (oV (pN u U1 U2)))
 pb)
 (oN (pA (oZ u v0 oR)
 (oO (oV (pN u U1 U3)))
 pb)
 (oN (pA (oZ u v0 oR)
 (oO (oV (o9 (zw G) r G.N (qR U1 U2 (rV rfl G.bZ)))))
 pb)
 (oN (pA (oZ u v0 oR)
 (oO (oV (o9 (zw G) r G.N (qR U1 U3 (rV rfl G.bZ)))))
 pb)
 (oN (pA (oZ u v0 oR)
 (oO (oV (tW u oQ U1 (rV rfl G.cO))))
 pb)
 (oO (oV (tW u oQ U1 (rV rfl G.cP))))))))),?_⟩)
 rintro ds M Q ⟨k,d,pl,nl,pn,nm,rfl,hp,hn,ok,q⟩
 cases ok with
 | mO x h=>refine i' hp ⟨rfl,pW pn,M,.refl,?_⟩;show Q (.bl (inD (.str x) (pn.map D.str))) M;rw[Vk h];exact q
 | name x h=>refine i' hn ⟨rfl,pW nm,M,.refl,?_⟩;show Q (.bl (inD (.str x) (nm.map D.str))) M;rw[Vk h];exact q
 | mw cs l h=>exact⟨cs,pn,pl,6,rfl,hp,l,M,.refl,by rw[h];exact q⟩
 | names cs l h=>exact⟨cs,nm,nl,6,rfl,hn,l,M,.refl,by rw[h];exact q⟩
 | hour i h0 h1=>refine Aa (c:=decide (0<=i)) (dQ h0) ⟨M,.refl,?_⟩;show Q (.bl (decide (i<=23))) M;rw[dQ h1];exact q
 | turns i h0 h1=>refine Aa (c:=decide (1<=i)) (dQ h0) ⟨M,.refl,?_⟩;show Q (.bl (decide (i<=9))) M;rw[dQ h1];exact q
def Ag(G:Gl K mg a):Fq P w K mg base 2 a.bc Ab:=by
 refine fq G.bc.toDG tD (λr u=>⟨_,(oN (pq (o9 (sf G) r G.m (rA (tW u oQ (pD qc rfl G.g pX (pR v0)) (rV rfl G.cF)) oR)))
 (oO (tZ eV rfl (qk v0) (uj (n:=3) rfl (pQ (qJ 1 tD) (pQ (qJ 2 tD) (pQ (qJ 3 tD) sr))))
 (oN (pq (o9 (sf G) r G.m (rA (o9 (A0 G) r G.ae (pR U1)) oR)))
 (oN (pq (o9 (sf G) r G.m (rA (tW u oQ U2 (rV rfl G.cG)) oR)))
 (oO (pq (o9 (sf G) r G.m (rA (tW u oQ U3 (rV rfl G.cH)) oR))))))))),?_⟩)
 rintro ds M Q ⟨r,ps,rfl,Wz,h1,h8,mG,q⟩
 have el:((ps.map qx).length:Int)=ps.length:=by rw[cR]
 refine i' Wz (Aa (c:=decide ((1:Int)<=(ps.map qx).length)) (dQ (by omega)) ⟨_,by rw[dQ (show((ps.map qx).length:Int)<=8 by omega)],i' Wz ?_⟩);refine Ay (λδ M'=>M=M'/\∃x y z,δ=[some (.ref r),x,y,z]) (λδ M' j=>by rw[<-j.1];exact Wz) _ _ _ ⟨rfl,none,none,none,rfl⟩ ?_ ?_
 .rintro d hd δ M' ⟨rfl,x,y,z,rfl⟩ nx VY
  obtain⟨p,hp,rfl⟩:=dz.mp hd;have o:=mG p hp;refine⟨rfl,⟨p.1,rfl,o.len,_,by rw[o.nm],?_⟩⟩;refine Aa (c:=decide ((1:Int)<=p.2.1)) (dQ o.l1) ⟨_,by rw[dQ (show p.2.1<=3 from o.l2)],?_⟩;refine Aa (c:=decide ((0:Int)<=p.2.2)) (dQ o.r1) ⟨_,by rw[dQ (show p.2.2<=9 from o.r2)],?_⟩;exact VY _ _ ⟨rfl,_,_,_,rfl⟩
 .rintro δ M' ⟨rfl,x,y,z,rfl⟩
  exact⟨M,.refl,q⟩
def zY(G:Gl K mg a):Fq P w K mg base 3 a.bd Au:=by
 refine fq G.bd.toDG tz (λr u=>⟨_,(oN (pq (o9 (sf G) r G.m (rA (pN u (pD qc rfl G.g pX (pR v0)) (rV rfl G.cI)) oR)))
 (oO (tZ eV rfl (qk v0) (uj (n:=3) rfl (pQ (qJ 2 tz) (pQ (qJ 3 tz) (pQ (qJ 4 tz) sr))))
 (oN (pq (o9 (sf G) r G.m (rA (o9 (A0 G) r G.ae (pR U2)) oR)))
 (oN (pq (o9 (sf G) r G.m (rA (pN u U3 (rV rfl G.cJ)) oR)))
 (oO (pq (o9 (sf G) r G.m (rA (o9 (zw G) r G.N (qR v4 U1 (rV rfl G.cK))) oR))))))))),?_⟩)
 rintro ds M Q ⟨r,gs,pl,pn,rfl,Wz,hp,h3,mG,q⟩
 have el:((gs.map qI).length:Int)=gs.length:=by rw[cR]
 refine i' Wz ⟨_,by rw[dQ (show((gs.map qI).length:Int)<=3 by omega)],i' Wz ?_⟩;refine Ay (λδ M'=>M=M'/\∃x y z,δ=[some (.ref r),some (.ref pl),x,y,z]) (λδ M' j=>by rw[<-j.1];exact Wz) _ _ _ ⟨rfl,none,none,none,rfl⟩ ?_ ?_
 .rintro d hd δ M' ⟨rfl,x,y,z,rfl⟩ nx VY
  obtain⟨g,hg,rfl⟩:=dz.mp hd;have o:=mG g hg;refine⟨rfl,⟨g.1,rfl,o.len,_,by rw[o.nm],?_⟩⟩;have hm:inD (.str g.2.1) [.str "all",.str "turns"]=true:=by rcases o.man with e|e<;>(rw[e];rfl)
  refine⟨rfl,rfl,.str "a group's manner is all or turns",eQ (λb=>[D.bl b,D.str "a group's manner is all or turns"]) hm,?_⟩;refine⟨g.2.2,pn,pl,4,rfl,hp,o.oK,_,by rw[o.mem],?_⟩;exact VY _ _ ⟨rfl,_,_,_,rfl⟩
 .rintro δ M' ⟨rfl,x,y,z,rfl⟩
  exact⟨M,.refl,q⟩
def Cf(G:Gl K mg a):Fq P w K mg base 4 a.bf Cq:=by
 refine fq G.bf.toDG tq (λr u=>⟨_,(oN (pq (o9 (sf G) r G.m (rA (MC G.bY rfl (pf v0 oQ)) oR)))
 (oN (pj 3 tq (Jh G.bY rfl (pf v0 oQ)))
 (oN (pj 4 tq (rO v0 (r6 oQ) sS))
 (oN (pq (o9 (sf G) r G.m (rA (pN u (pD qc rfl G.g pX (pR v4)) (pD qc rfl G.g pX (pR U3))) oR)))
 (oN (tZ eV rfl (Qr rfl G.cD (rA U3 v4)) (uj (n:=2) rfl (pQ (qJ 5 tq) (pQ (qJ 6 tq) sr)))
 (oO (pq (o9 (sf G) r G.m (rA (o9 (Nf G) r G.be (pJ v5 (qR v6 U1 U2))) oR)))))
 (oN (pA (oZ u (rO U3 sS (r6 oQ)) (pz (rA oR oR)))
 (oO (pq (o9 (sf G) r G.m (rA (pN u (pf v4 oQ) (pf v4 oQ)) oR))))
 pb)
 (oO (pA (oZ u (rO U3 (r6 oQ) sS) (pz (rA oR oR)))
 (oO (pq (o9 (sf G) r G.m (rA (pN u (pf v4 oQ) (pf v4 oQ)) oR))))
 pb)))))))),?_⟩)
 rintro ds M Q ⟨v,pl,nl,pn,nm,rfl,hp,hn,ok,q⟩
 have part:∀{k:Str} {d:D} {C:DK},xq pn nm k d->C (.bl true) M->Io [.str k,d,.ref pl,.ref nl] M C:=λo c=>⟨_,_,pl,nl,pn,nm,rfl,hp,hn,o,c⟩;have need:∀{x:D} {C:DK},C .mC M->Ig [.bl true,x] M C:=λc=>⟨_,rfl,c⟩;have ne:∀{x y:Str},x≠y->(!(x==y))=true:=λh=>by simpa using h
 have nei:∀{x y:Int},x≠y->(!(x==y))=true:=λh=>by simpa using h
 have VP:∃VQ,qa VQ M/\Q .mC VQ:=⟨M,.refl,q⟩;cases v with
 | bar x ns=>obtain⟨h1,h2,h3⟩:=ok;refine⟨_,rfl,_,rfl,?_⟩;refine⟨rfl,_,_,pl,nl,pn,nm,rfl,hp,hn,.mO x h1,_,rfl,trivial,⟨rfl,_,_,pl,nl,pn,nm,rfl,hp,hn,.names ns h2 h3,_,rfl,trivial,?_⟩⟩;exact⟨oK rfl,oK rfl,VP⟩
 | shut x ns=>obtain⟨h1,h2,h3⟩:=ok;refine⟨_,rfl,_,rfl,?_⟩;refine⟨rfl,_,_,pl,nl,pn,nm,rfl,hp,hn,.name x h1,_,rfl,trivial,⟨rfl,_,_,pl,nl,pn,nm,rfl,hp,hn,.mw ns h2 h3,_,rfl,trivial,?_⟩⟩;exact⟨oK rfl,oK rfl,VP⟩
 | always x y=>obtain⟨h1,h2,h3⟩:=ok;refine⟨_,rfl,_,rfl,?_⟩;refine⟨rfl,_,_,pl,nl,pn,nm,rfl,hp,hn,.name x h1,_,rfl,trivial,⟨rfl,_,_,pl,nl,pn,nm,rfl,hp,hn,.name y h2,_,rfl,trivial,?_⟩⟩;refine⟨oK rfl,⟨_,by rw[ne h3],?_⟩⟩;exact⟨oK rfl,VP⟩
 | night x y f l=>obtain⟨h1,h2,h3,h4,h5,h6⟩:=ok;refine⟨_,rfl,_,rfl,?_⟩;refine⟨rfl,_,_,pl,nl,pn,nm,rfl,hp,hn,.name x h1,_,rfl,trivial,⟨rfl,_,_,pl,nl,pn,nm,rfl,hp,hn,.name y h2,_,rfl,trivial,⟨rfl,_,_,pl,nl,pn,nm,rfl,hp,hn,.hour f h4.1 h4.2,_,rfl,trivial,⟨rfl,_,_,pl,nl,pn,nm,rfl,hp,hn,.hour l h5.1 h5.2,_,rfl,trivial,?_⟩⟩⟩⟩;refine⟨oK rfl,⟨_,by rw[ne h3],?_⟩⟩;refine⟨oK rfl,⟨_,by rw[nei h6],?_⟩⟩;exact VP
 | busy x y=>obtain⟨h1,h2,h3⟩:=ok;refine⟨_,rfl,_,rfl,?_⟩;refine⟨rfl,_,_,pl,nl,pn,nm,rfl,hp,hn,.name x h1,_,rfl,trivial,⟨rfl,_,_,pl,nl,pn,nm,rfl,hp,hn,.name y h2,_,rfl,trivial,?_⟩⟩;refine⟨oK rfl,⟨_,by rw[ne h3],?_⟩⟩;exact⟨oK rfl,VP⟩
 | silent x y n=>obtain⟨h1,h2,h3,h4,h5⟩:=ok;refine⟨_,rfl,_,rfl,?_⟩;refine⟨rfl,_,_,pl,nl,pn,nm,rfl,hp,hn,.name x h1,_,rfl,trivial,⟨rfl,_,_,pl,nl,pn,nm,rfl,hp,hn,.name y h2,_,rfl,trivial,⟨rfl,_,_,pl,nl,pn,nm,rfl,hp,hn,.turns n h4 h5,_,rfl,trivial,?_⟩⟩⟩;refine⟨oK rfl,⟨_,by rw[ne h3],?_⟩⟩;exact⟨oK rfl,VP⟩
 | wait x=>refine⟨_,rfl,_,rfl,?_⟩;refine⟨rfl,_,_,pl,nl,pn,nm,rfl,hp,hn,.mO x ok,_,rfl,trivial,?_⟩;exact⟨oK rfl,oK rfl,VP⟩
 | breaks x=>refine⟨_,rfl,_,rfl,?_⟩;refine⟨rfl,_,_,pl,nl,pn,nm,rfl,hp,hn,.mO x ok,_,rfl,trivial,?_⟩;exact⟨oK rfl,oK rfl,VP⟩
def z9(G:Gl K mg a):Fq P w K mg base 5 a.bg An:=by
 refine fq G.bg.toDG uy (λr u=>⟨_,(oN (pq (o9 (sf G) r G.m (rA (pN u (pD qc rfl G.g pX (pR v0)) (rV rfl G.cL)) oR)))
 (oO (tZ eV rfl (qk v0) (uj (n:=2) rfl (pQ (qJ 3 uy) (pQ (qJ 4 uy) sr)))
 (oO (pq (o9 (Cf G) r G.bf (qR v4 U1 U2))))))),?_⟩)
 rintro ds M Q ⟨r,ws,pl,nl,pn,nm,rfl,Wz,hp,hn,h16,mG,q⟩
 have el:((ws.map wz).length:Int)=ws.length:=by rw[cR]
 refine i' Wz ⟨_,by rw[dQ (show((ws.map wz).length:Int)<=16 by omega)],i' Wz ?_⟩;refine Ay (λδ M'=>M=M'/\∃x y,δ=[some (.ref r),some (.ref pl),some (.ref nl),x,y]) (λδ M' j=>by rw[<-j.1];exact Wz) _ _ _ ⟨rfl,none,none,rfl⟩ ?_ ?_
 .rintro d hd δ M' ⟨rfl,x,y,rfl⟩ nx VY
  obtain⟨v,hv,rfl⟩:=dz.mp hd;exact⟨rfl,⟨v.2,pl,nl,pn,nm,rfl,hp,hn,mG v hv,VY _ _ ⟨rfl,_,_,rfl⟩⟩⟩
 .rintro δ M' ⟨rfl,x,y,rfl⟩
  exact⟨M,.refl,q⟩
structure oY where
 mw:List tI
 groups:List tJ
 my:List uT
noncomputable def oY.pn(l:oY):List Str:=l.mw.map (·.1)
noncomputable def oY.gn(l:oY):List Str:=l.groups.map (·.1)
noncomputable def oY.nm(l:oY):List Str:=l.pn++l.gn
structure rg(l:oY):Prop where
 p1:1<=l.mw.length
 p8:l.mw.length<=8
 po:∀p∈l.mw,EO p
 g3:l.groups.length<=3
 go:∀g∈l.groups,DZ l.pn g
 nd:l.nm.Nodup
 w16:l.my.length<=16
 wo:∀w∈l.my,Ba l.pn l.nm w.2
def Dc{ss:List Str}(h:ss.Nodup):vV ss=true:=by unfold vV;rw[G2 ss h];simp
def B4:qN:=λds M Q=>zZ λr1 r2 r3 (l:oY)=>ds=[.ref r1,.ref r2,.ref r3]/\oy M r1=some (l.mw.map qx)/\oy M r2=some (l.groups.map qI)/\oy M r3=some (l.my.map wz)/\rg l/\Q .mC M
noncomputable def Ak:D->D
 | .tup (x::_)=>x
 | _=>.mC
def vP(ps:List tI):(ps.map qx).map Ak=(ps.map (·.1)).map D.str:=by rw[dZ,dZ];rfl
def vY(ps:List tJ):(ps.map qI).map Ak=(ps.map (·.1)).map D.str:=by rw[dZ,dZ];rfl
def Ck(G:Gl K mg a):Fq P w K mg base 6 a.bh B4:=by
 refine fq G.bh.toDG vA (λr u=>⟨_,(oN (pq (o9 (Ag G) r G.bc (pR v0)))
 (oN (uf (i:=3) vA.nd rfl (Or.inl rfl) rfl (wC (ix:=[none]) (N':=["phone"])) (qk v0) (qg 0) rh (pf v0 oQ))
 (oN (pq (o9 (zY G) r G.bd (rA U1 U3)))
 (oN (pj 4 vA (pH U3 (ql rfl (wC (ix:=[none]) (N':=["group"])) (qk U1) (qg 0) rh (pf v0 oQ))))
 (oN (pq (o9 (sf G) r G.m (rA (o9 (C1 G) r G.af (pR v4)) oR)))
 (oO (pq (o9 (z9 G) r G.bg (qR U2 U3 v4))))))))),?_⟩)
 rintro ds M Q ⟨r1,r2,r3,l,rfl,h1,h2,h3,ok,q⟩
 have hz:=dN;have l1:=ok.p8;have l2:=ok.g3;refine⟨r1,l.mw,rfl,h1,ok.p1,ok.p8,ok.po,i' h1 ?_⟩;refine qH (f:=Ak) h1 _ [] _ (by rw[cR];simp only[dD];omega) (λd hd k hk=>?_) λp hp=>?_
 .obtain⟨x,_,rfl⟩:=dz.mp hd;exact hk
 rw[dW,vP];have s1:=qa.new (c:=.lst ((l.mw.map (·.1)).map D.str)) hp;have lp:oy (oX M p (.lst ((l.mw.map (·.1)).map D.str))) p=some (l.pn.map D.str):=oW;generalize oX M p (.lst ((l.mw.map (·.1)).map D.str))=M1 at s1 lp ⊢;refine⟨r2,l.groups,p,l.pn,rfl,s1.lst h2,lp,ok.g3,ok.go,?_⟩;refine i' (s1.lst h2) (qH (f:=Ak) (s1.lst h2) _ [] _ (by rw[cR];simp only[dD];omega) (λd hd k hk=>?_) λp2 VT=>?_)
 .obtain⟨x,_,rfl⟩:=dz.mp hd;exact hk
 rw[dW,vY];have s2:=qa.new (c:=.lst ((l.groups.map (·.1)).map D.str)) VT;refine i' (s2.lst lp) (i' oW ⟨?_,λp3 hp3=>?_⟩)
 .rw[cR,cR,cR];show(l.mw.map (·.1)).length+_<=_;rw[cR];omega
 have en:l.pn.map D.str++(l.groups.map (·.1)).map D.str=l.nm.map D.str:=by unfold oY.nm;rw[dJ];rfl
 rw[en];have s3:=s2.trans (qa.new (c:=.lst (l.nm.map D.str)) hp3);have l3:=@oW (oX M1 p2 (.lst ((l.groups.map (·.1)).map D.str))) p3 (l.nm.map D.str);generalize oX (oX M1 p2 (.lst ((l.groups.map (·.1)).map D.str))) p3 (.lst (l.nm.map D.str))=M3 at s3 l3 ⊢;have ln:l.nm.length<4000:=by unfold oY.nm oY.pn oY.gn;rw[cU,cR,cR];omega
 refine⟨_,l.nm,rfl,.inr ⟨p3,rfl,l3⟩,ln,_,by rw[Dc ok.nd],?_⟩;exact⟨r3,l.my,p,p3,l.pn,l.nm,rfl,s3.lst (s1.lst h3),s3.lst lp,l3,ok.w16,ok.wo,M,s1.trans s3,q⟩
noncomputable def PQ(ph gr ws on pr gd:Addr):List (Str×D):=[("phones",.ref ph),("groups",.ref gr),("wishes",.ref ws),("on",.ref on),("phone_rows",.ref pr),("group_rows",.ref gd)]
noncomputable def Q8(l:oY):List (qK×D):=l.mw.map λp=>(Sum.inr p.1,qx p)
noncomputable def Hl(l:oY):List (qK×D):=l.groups.map λg=>(Sum.inr g.1,qI g)
def rT(a:Ad)(M:Mp)(rs:List Addr)(ws:List uT):Prop:=rs.length=ws.length/\∀(i:Nat) (r:Addr) (v:uT),rs[i]?=some r->ws[i]?=some v->M r=some (.ins (v.2.cls a) v.2.nu)
def sE(a:Ad)(M:Mp)(p:Addr)(l:oY):Prop:=RW λph gr ws on pr gd (rs:List Addr)=>M p=some (.ins a.h (PQ ph gr ws on pr gd))/\oy M ph=some (l.mw.map qx)/\oy M gr=some (l.groups.map qI)/\
 oy M ws=some (rs.map D.ref)/\oy M on=some (l.my.map λw=>D.bl w.1)/\zd M pr=some (Q8 l)/\zd M gd=some (Hl l)/\rT a M rs l.my
def rT.keep{a:Ad}{M M':Mp}{p:Addr}{rs:List Addr}{ws:List uT}(h:rT a M rs ws)(k:rD p M M')(n:∀r∈rs,r≠p):rT a M' rs ws:=⟨h.1,λi r v e1 e2=>k r _ (n r (fQ e1)) (h.2 i r v e1 e2)⟩
def rT.sub{a:Ad}{M M':Mp}{rs:List Addr}{ws:List uT}(h:rT a M rs ws)(k:qa M M'):rT a M' rs ws:=⟨h.1,λi r v e1 e2=>k r _ (h.2 i r v e1 e2)⟩
def sE.sub{a:Ad}{M M':Mp}{p:Addr}{l:oY}(h:sE a M p l)(s:qa M M'):sE a M' p l:=by obtain⟨ph,gr,ws,on,pr,gd,rs,h1,h2,h3,h4,h5,h6,h7,h8⟩:=h;exact⟨ph,gr,ws,on,pr,gd,rs,s _ _ h1,s.lst h2,s.lst h3,s.lst h4,s.lst h5,s.dk h6,s.dk h7,h8.sub s⟩
def NA(a:Ad):qN:=λds M Q=>Gh λp r1 r2 r3 (l:oY)=>ds=[.ref p,.ref r1,.ref r2,.ref r3]/\M p=some (.ins a.h [])/\oy M r1=some (l.mw.map qx)/\oy M r2=some (l.groups.map qI)/\oy M r3=some (l.my.map wz)/\rg l/\
 ∀M',rD p M M'->sE a M' p l->(∀VQ,(∀b c,(b=p\/M b=none)->M' b=some c->VQ b=some c)->sE a VQ p l)->Q .mC M'
def qY{M N:Mp}{p x:Addr}{c:uo}(k:rD p M N)(hp:N p=some c)(h:N x=none):M x=none:=by
 cases e:M x with
 | none=>rfl
 | some d=>
  have n:x≠p:=λz=>by rw[z,hp]at h;cases h
  rw[k x d n e]at h;cases h
def yG{M:Mp}{a:Addr}{es:List (qK×D)}(h:zd M a=some es):M a=some (.dk es):=by
 unfold zd at h;split at h
 .rename_i e;rw[e];cases h;rfl
 .cases h
theorem wq{α:Type}(f:α->Str)(g:α->D):∀l:List α,vR (l.map λx=>D.tup [.str (f x),g x])=some (l.map λx=>(Sum.inr (f x),g x))
 | []=>rfl
 | x::r=>by show(vR (r.map λx=>D.tup [.str (f x),g x])).map ((Sum.inr (f x),g x)::·)=_;rw[wq f g r];rfl
def II{ss:List Str}(h:ss.Nodup):(ss.map λx=>(Sum.inr x:qK)).Nodup:=by
 induction ss with
 | nil=>exact eG
 | cons x r ih=>obtain⟨h1,h2⟩:=dP.mp h;rw[dR];refine dP.mpr ⟨λz=>h1 ?_,ih h2⟩;obtain⟨y,hy,e⟩:=dz.mp z;cases e;exact hy
def x8{α:Type}{f:α->Str}{g:α->D}{l:List α}(h:(l.map f).Nodup):((l.map λx=>((Sum.inr (f x):qK),g x)).map (·.1)).Nodup:=by rw[dZ];have:=II h;rw[dZ]at this;exact this
noncomputable def AD(d:D):D:=.tup [Ak d,d]
noncomputable def Vn:D->D
 | .tup (x::_)=>x
 | _=>.mC
def QU(ws:List uT):(ws.map wz).map Vn=ws.map λw=>D.bl w.1:=by rw[dZ];rfl
def Fe(ps:List tI):(ps.map qx).map AD=ps.map λp=>D.tup [.str p.1,qx p]:=by rw[dZ];rfl
def F6(ps:List tJ):(ps.map qI).map AD=ps.map λp=>D.tup [.str p.1,qI p]:=by rw[dZ];rfl
def rT.snoc{a:Ad}{M:Mp}{rs:List Addr}{ws:List uT}{r:Addr}{v:uT}(h:rT a M rs ws)(n:M r=none):rT a (oX M r (.ins (v.2.cls a) v.2.nu)) (rs++[r]) (ws++[v]):=by
 refine⟨by rw[cU,cU,h.1];rfl,λi r' v' e1 e2=>?_⟩;by_cases hi:i<rs.length
 .rw[eI hi]at e1;rw[eI (by rw[<-h.1];exact hi)]at e2;have:=h.2 i r' v' e1 e2;rw[tV (Pb this n)];exact this
 .have XO:i=rs.length:=by have:=(cV.mp e1).1;rw[cU,dH]at this;omega
  subst XO;rw[eE (de _)]at e1;rw[h.1,eE (de _)]at e2;simp only[h9,iw,jl]at e1 e2;subst e1 e2;exact pC
def Ot(G:Gl K mg a):Fq P w K mg base 7 a.ak (NA a):=by
 refine fq G.ak.toDG Eo (λr u=>⟨_,(oN (pq (o9 (Ck G) r G.bh (qR U1 U2 U3)))
 (oN (pK v0 (pZ sL rfl G.y su (pR U1)))
 (oN (pK v0 (pZ sL rfl G.y su (pR U2)))
 (oN (pK v0 (ql rfl (wC (ix:=[none,none]) (N':=["on","wish"])) (qk U3) (uj (n:=2) rfl (pQ (qg 0) (pQ (qg 1) sr))) rh (o9 (GK G) r G.bb (pR U1))))
 (oN (pK v0 (ql rfl (wC (ix:=[none,none]) (N':=["on","wish"])) (qk U3) (uj (n:=2) rfl (pQ (qg 0) (pQ (qg 1) sr))) rh v0))
 (oN (pK v0 (pZ (Ea rfl) rfl G.bS D4 (pR (ql rfl (wC (ix:=[none]) (N':=["phone"])) (qk U1) (qg 0) rh (pz (rA (pf v0 oQ) v0))))))
 (oO (pK v0 (pZ (Ea rfl) rfl G.bS D4 (pR (ql rfl (wC (ix:=[none]) (N':=["group"])) (qk U2) (qg 0) rh (pz (rA (pf v0 oQ) v0))))))))))))),?_⟩)
 rintro ds M Q ⟨p,r1,r2,r3,l,rfl,hp,h1,h2,h3,ok,q⟩
 have hz:=dN;have l1:=ok.p8;have l2:=ok.g3;have l3:=ok.w16;refine⟨r1,r2,r3,l,rfl,h1,h2,h3,ok,?_⟩;refine i' h1 λph hph=>?_;obtain⟨n1,e1,k1,c1,p1⟩:=sv (fs':=[("phones",.ref ph)]) (c:=.lst (l.mw.map qx)) hp hph;refine oP e1 ⟨(G.Z "phones" rfl),by show 0<1000;decide,?_⟩;show uc _ _ _ _ (oX (oX M ph (.lst (l.mw.map qx))) p (.ins a.h [("phones",.ref ph)]));generalize oX (oX M ph (.lst (l.mw.map qx))) p (.ins a.h [("phones",.ref ph)])=N1 at k1 c1 p1 ⊢;have Wy:=k1.lst (pE h1 hp) h1;have h2':=k1.lst (pE h2 hp) h2;have Yu:=k1.lst (pE h3 hp) h3;have f1:oy N1 ph=some (l.mw.map qx):=se c1;refine i' h2' λgr hgr=>?_;obtain⟨n2,e2,k2,c2,p2⟩:=sv (fs':=[("phones",.ref ph),("groups",.ref gr)]) (c:=.lst (l.groups.map qI)) p1 hgr;refine oP e2 ⟨(G.Z "groups" rfl),by show 1<1000;decide,?_⟩;show uc _ _ _ _ (oX (oX N1 gr (.lst (l.groups.map qI))) p (.ins a.h [("phones",.ref ph),("groups",.ref gr)]));generalize oX (oX N1 gr (.lst (l.groups.map qI))) p (.ins a.h [("phones",.ref ph),("groups",.ref gr)])=N2 at k2 c2 p2 ⊢;have g1:=k2.lst (pE Wy p1) Wy;have g2:=k2.lst (pE h2' p1) h2';have g3:=k2.lst (pE Yu p1) Yu;have f2:=k2.lst (pE f1 p1) f1;have f3:oy N2 gr=some (l.groups.map qI):=se c2;have kk2:=k1.trans k2;have m2:M gr=none:=qY k1 p1 hgr;clear Wy h2' Yu f1 c1 c2 k1 k2 e1 e2;refine i' g3 ?_;refine EJ (l.my.map wz) (λpre acc δ Mx=>(∃x y,δ=[x,y])/\qa N2 Mx/\∃rs:List Addr,acc=rs.map D.ref/\(∀r∈rs,N2 r=none)/\rT a Mx rs (l.my.take pre.length)) (λpre acc δ Mx j=>j.2.1.lst g3) _ [] [] _ _ rfl (by rw[cR];simp only[dD];omega) ⟨⟨none,none,rfl⟩,.refl,[],rfl,λr hr=>absurd hr (dB),rfl,λi r v e=>by simp at e⟩ ?_ ?_
 .rintro pre d post e acc δ Mx ⟨⟨x,y,rfl⟩,sx,rs,rfl,fr,wa⟩ k hk
  obtain⟨v,hv,rfl⟩:∃v,l.my[pre.length]?=some v/\d=wz v:=by
   have:(l.my.map wz)[pre.length]?=some d:=by rw[<-e];simp
   rw[dA]at this;cases z:l.my[pre.length]? with
   | none=>rw[z]at this;cases this
   | some v=>rw[z]at this;exact⟨v,rfl,(df this).symm⟩
  refine⟨rfl,⟨v.2,rfl,λr hr=>hk _ _ _ ⟨⟨_,_,rfl⟩,sx.trans (.new hr),rs++[r],?_,λr' hr'=>?_,?_⟩⟩⟩
  .rw[dJ];rfl
  .rcases dU.mp hr' with z|z
   .exact fr r' z
   .rw[dg.mp z];exact sx.none hr
  .rw[cU,dH,gH,hv];exact wa.snoc hr
 rintro acc δ Mx ⟨⟨x,y,rfl⟩,sx,rs,rfl,fr,wa⟩ ws hws
 have wa:rT a Mx rs l.my:=by rw[cR,eW]at wa;exact wa
 obtain⟨n3,e3,k3,c3,p3⟩:=sv (fs':=[("phones",.ref ph),("groups",.ref gr),("wishes",.ref ws)]) (c:=.lst (rs.map D.ref)) (sx _ _ p2) hws;refine oP e3 ⟨(G.Z "wishes" rfl),by show 2<1000;decide,?_⟩;show uc _ _ _ _ (oX (oX Mx ws (.lst (rs.map D.ref))) p (.ins a.h [("phones",.ref ph),("groups",.ref gr),("wishes",.ref ws)]));generalize oX (oX Mx ws (.lst (rs.map D.ref))) p (.ins a.h [("phones",.ref ph),("groups",.ref gr),("wishes",.ref ws)])=N3 at k3 c3 p3 ⊢;have px:=sx _ _ p2;have i1:=k3.lst (pE (sx.lst g1) px) (sx.lst g1);have i2:=k3.lst (pE (sx.lst g2) px) (sx.lst g2);have i3:=k3.lst (pE (sx.lst g3) px) (sx.lst g3);have f4:=k3.lst (pE (sx.lst f2) px) (sx.lst f2);have f5:=k3.lst (pE (sx.lst f3) px) (sx.lst f3);have f6:oy N3 ws=some (rs.map D.ref):=se c3;have rp:∀r∈rs,r≠p:=λr hr z=>by have:=fr r hr;rw[z,p2]at this;cases this
 have w3:=wa.keep k3 rp;have kk3:=(kk2.trans sx.keep).trans k3;have m3:M ws=none:=qY (kk2.trans sx.keep) px hws;have mr:∀r∈rs,M r=none:=λr hr=>qY kk2 p2 (fr r hr);clear g1 g2 g3 f2 f3 c3 k3 e3 wa px kk2;refine i' i3 (AW (f:=Vn) (λδ=>∃x y,δ=[x,y]) i3 _ [] _ ⟨none,none,rfl⟩ (by rw[cR];simp only[dD];omega) (λd hd δ hj k hk=>?_) λon Y2=>?_)
 .obtain⟨x,y,rfl⟩:=hj;obtain⟨v,_,rfl⟩:=dz.mp hd;exact⟨rfl,hk _ ⟨_,_,rfl⟩⟩
 rw[dW,QU];obtain⟨n4,e4,k4,c4,p4⟩:=sv (fs':=[("phones",.ref ph),("groups",.ref gr),("wishes",.ref ws),("on",.ref on)]) (c:=.lst (l.my.map λw=>D.bl w.1)) p3 Y2;refine oP e4 ⟨(G.Z "on" rfl),by show 3<1000;decide,?_⟩;show uc _ _ _ _ (oX (oX N3 on (.lst (l.my.map λw=>D.bl w.1))) p (.ins a.h [("phones",.ref ph),("groups",.ref gr),("wishes",.ref ws),("on",.ref on)]));generalize oX (oX N3 on (.lst (l.my.map λw=>D.bl w.1))) p (.ins a.h [("phones",.ref ph),("groups",.ref gr),("wishes",.ref ws),("on",.ref on)])=N4 at k4 c4 p4 ⊢;have j1:=k4.lst (pE i1 p3) i1;have j2:=k4.lst (pE i2 p3) i2;have f7:=k4.lst (pE f4 p3) f4;have f8:=k4.lst (pE f5 p3) f5;have f9:=k4.lst (pE f6 p3) f6;have fa:oy N4 on=some (l.my.map λw=>D.bl w.1):=se c4;have w4:=w3.keep k4 rp;have XU:=kk3.trans k4;have m4:M on=none:=qY kk3 p3 Y2;clear i1 i2 i3 f4 f5 f6 c4 k4 e4 w3 kk3;refine i' j1 (qH (f:=AD) j1 _ [] _ (by rw[cR];simp only[dD];omega) (λd hd k hk=>?_) λq1 WQ=>?_)
 .obtain⟨v,_,rfl⟩:=dz.mp hd;exact⟨oK rfl,hk⟩
 rw[dW,Fe];have Yv:=qa.new (c:=.lst (l.mw.map λp=>D.tup [.str p.1,qx p])) WQ;refine i' oW (i' (wq (λp:tI=>p.1) qx l.mw) ⟨x8 (ir (List.sublist_append_left _ _) ok.nd),λpr hpr=>?_⟩);obtain⟨n5,e5,k5,c5,p5⟩:=sv (fs':=[("phones",.ref ph),("groups",.ref gr),("wishes",.ref ws),("on",.ref on),("phone_rows",.ref pr)]) (c:=.dk (l.mw.map λx=>(Sum.inr x.1,qx x))) (Yv _ _ p4) hpr;refine oP e5 ⟨(G.Z "phone_rows" rfl),by show 4<1000;decide,?_⟩;have k5:=Yv.keep.trans k5;have XG:vt "phone_rows" (.ref pr) [("phones",.ref ph),("groups",.ref gr),("wishes",.ref ws),("on",.ref on)]=([("phones",.ref ph),("groups",.ref gr),("wishes",.ref ws),("on",.ref on),("phone_rows",.ref pr)]:List (Str×D)):=rfl;rw[XG];generalize oX (oX (oX N4 q1 (.lst (l.mw.map λp=>D.tup [.str p.1,qx p]))) pr (.dk (l.mw.map λx=>(Sum.inr x.1,qx x)))) p (.ins a.h [("phones",.ref ph),("groups",.ref gr),("wishes",.ref ws),("on",.ref on),("phone_rows",.ref pr)])=N5 at k5 c5 p5 ⊢;have mm:=k5.lst (pE j2 p4) j2;have fb:=k5.lst (pE f7 p4) f7;have fc:=k5.lst (pE f8 p4) f8;have fd:=k5.lst (pE f9 p4) f9;have fe:=k5.lst (pE fa p4) fa;have ff:zd N5 pr=some (Q8 l):=CO c5;have w5:=w4.keep k5 rp;have XW:=XU.trans k5;have m5:M pr=none:=qY (XU.trans Yv.keep) (Yv _ _ p4) hpr;clear j1 j2 f7 f8 f9 fa c5 k5 e5 w4 XU;refine i' mm (qH (f:=AD) mm _ [] _ (by rw[cR];simp only[dD];omega) (λd hd k hk=>?_) λq2 Ye=>?_)
 .obtain⟨v,_,rfl⟩:=dz.mp hd;exact⟨oK rfl,hk⟩
 rw[dW,F6];have sq2:=qa.new (c:=.lst (l.groups.map λg=>D.tup [.str g.1,qI g])) Ye;refine i' oW (i' (wq (λp:tJ=>p.1) qI l.groups) ⟨x8 (ir (jq _ _) ok.nd),λgd hgd=>?_⟩);obtain⟨n6,e6,k6,c6,p6⟩:=sv (fs':=PQ ph gr ws on pr gd) (c:=.dk (Hl l)) (sq2 _ _ p5) hgd;have k6:=sq2.keep.trans k6;refine oP e6 ⟨(G.Z "group_rows" rfl),by show 5<1000;decide,_,.refl,?_⟩;have m6:M gd=none:=qY (XW.trans sq2.keep) (sq2 _ _ p5) hgd;have w6:=w5.keep k6 rp;have y1:=k6.lst (pE fb p5) fb;have y2:=k6.lst (pE fc p5) fc;have y3:=k6.lst (pE fd p5) fd;have y4:=k6.lst (pE fe p5) fe;have y5:=k6.dk (Bk ff p5) ff;refine q _ (XW.trans k6) ⟨ph,gr,ws,on,pr,gd,rs,p6,y1,y2,y3,y4,y5,CO c6,w6⟩ λVQ hs=>?_;exact⟨ph,gr,ws,on,pr,gd,rs,hs _ _ (.inl rfl) p6,se (hs _ _ (.inr hph) (pS y1)),se (hs _ _ (.inr m2) (pS y2)),se (hs _ _ (.inr m3) (pS y3)),se (hs _ _ (.inr m4) (pS y4)),CO (hs _ _ (.inr m5) (yG y5)),CO (hs _ _ (.inr m6) c6),w6.1,λi r v e1 e2=>hs _ _ (.inr (mr r (fQ e1))) (w6.2 i r v e1 e2)⟩
theorem xF{α:Type}(f:α->Str)(g:α->D)(k:Str):∀l:List α,va (l.map λx=>((Sum.inr (f x):qK),g x)) (Sum.inr k)=(l.find? λx=>decide (f x=k)).map g
 | []=>rfl
 | x::r=>by
  have ih:=xF f g k r;unfold va at ih ⊢;rw[dR,fH,fH];by_cases h:f x=k
  .have h':decide ((Sum.inr (f x):qK)=Sum.inr k)=true:=dQ (by rw[h]);simp[h]
  .have h':¬(Sum.inr (f x):qK)=Sum.inr k:=λz=>h (jO z);simp only[h,h',decide_false];exact ih
noncomputable def oY.mO(l:oY)(x:Str):Option tI:=l.mw.find? λp=>decide (p.1=x)
noncomputable def oY.group(l:oY)(x:Str):Option tJ:=l.groups.find? λg=>decide (g.1=x)
noncomputable def oY.mv(l:oY)(x:Str):List Str:=(l.group x).elim [x] λg=>g.2.2
noncomputable def oY.mF(l:oY)(x:Str):Str:=(l.group x).elim "one" λg=>g.2.1
def E1(l:oY)(x:Str):va (Q8 l) (Sum.inr x)=(l.mO x).map qx:=xF (λp:tI=>p.1) qx x l.mw
def vG(l:oY)(x:Str):va (Hl l) (Sum.inr x)=(l.group x).map qI:=xF (λp:tJ=>p.1) qI x l.groups
def yl(a:Ad):qN:=λds M Q=>Bj λp (l:oY)=>ds=[.ref p]/\sE a M p l/\l.mw.length<=100/\∀q,M q=none->Q (.ref q) (oX M q (.lst (l.pn.map D.str)))
def EB(a:Ad):qN:=λds M Q=>Bj λp (l:oY)=>ds=[.ref p]/\sE a M p l/\l.mw.length<=100/\l.groups.length<=100/\∀q,M q=none->Q (.ref q) (oX M q (.lst (l.nm.map D.str)))
def DB(a:Ad):qN:=λds M Q=>zZ λp x v (l:oY)=>ds=[.ref p,.str x]/\sE a M p l/\l.mO x=some v/\Q (.int v.2.1) M
def F8(a:Ad):qN:=λds M Q=>zZ λp x v (l:oY)=>ds=[.ref p,.str x]/\sE a M p l/\l.mO x=some v/\Q (.int v.2.2) M
def zv(a:Ad):qN:=λds M Q=>Cv λp x (l:oY)=>ds=[.ref p,.str x]/\sE a M p l/\∀q,M q=none->Q (.ref q) (oX M q (.lst ((l.mv x).map D.str)))
def B7(a:Ad):qN:=λds M Q=>Cv λp x (l:oY)=>ds=[.ref p,.str x]/\sE a M p l/\Q (.str (l.mF x)) M
def sV(G:Gl K mg a):Fq P w K mg base 1 a.U (yl a):=by
 refine fq G.U.toDG xO (λr u=>⟨_,(oO (oV (ql rfl (wC (ix:=[none]) (N':=["phone"])) (qk (oU v0)) (qg 0) rh (pf v0 oQ)))),?_⟩)
 rintro ds M Q ⟨p,l,rfl,hp,hl,q⟩
 have hz:=dN;obtain⟨ph,gr,ws,on,pr,gd,rs,h1,h2,h3,h4,h5,h6,h7,h8⟩:=hp;refine oP h1 (i' rfl (i' h2 ?_));refine qH (f:=Ak) h2 _ [] _ (by rw[cR];simp only[dD];omega) (λd hd k hk=>?_) λq1 WQ=>?_
 .obtain⟨x,_,rfl⟩:=dz.mp hd;exact hk
 rw[dW,vP];exact⟨_,.refl,q q1 WQ⟩
def Ci(G:Gl K mg a):Fq P w K mg base 2 a.bz (EB a):=by
 refine fq G.bz.toDG B6 (λr u=>⟨_,(oO (oV (pH (xH v0 G.h.toCls G.U (sV G) r) (ql rfl (wC (ix:=[none]) (N':=["group"])) (qk (oU v0)) (qg 0) rh (pf v0 oQ))))),?_⟩)
 rintro ds M Q ⟨p,l,rfl,hp,hl,hl2,q⟩
 have hz:=dN;have V4:=hp;obtain⟨ph,gr,ws,on,pr,gd,rs,h1,h2,h3,h4,h5,h6,h7,h8⟩:=hp;refine oP h1 ⟨rfl,_,⟨rfl,rfl⟩,p,l,rfl,V4,hl,λq1 WQ=>?_⟩;have s1:=qa.new (c:=.lst (l.pn.map D.str)) WQ;have e1:=@oW M q1 (l.pn.map D.str);generalize oX M q1 (.lst (l.pn.map D.str))=M1 at s1 e1 ⊢;have Yu:=s1.lst h3;refine oP (s1 _ _ h1) (i' rfl (i' Yu ?_));refine qH (f:=Ak) Yu _ [] _ (by rw[cR];simp only[dD];omega) (λd hd k hk=>?_) λq2 Ye=>?_
 .obtain⟨x,_,rfl⟩:=dz.mp hd;exact hk
 rw[dW,vY];have s2:=qa.new (c:=.lst ((l.groups.map (·.1)).map D.str)) Ye;refine i' (s2.lst e1) (i' oW ⟨?_,λq3 hq3=>?_⟩)
 .rw[cR,cR,cR];show(l.mw.map (·.1)).length+_<=_;rw[cR];omega
 have en:l.pn.map D.str++(l.groups.map (·.1)).map D.str=l.nm.map D.str:=by unfold oY.nm;rw[dJ];rfl
 rw[en];exact⟨_,(s1.trans s2).upd,q q3 ((s1.trans s2).none hq3)⟩
def B1(G:Gl K mg a):Fq P w K mg base 1 a.bx (DB a):=by
 refine fq G.bx.toDG Cy (λr u=>⟨_,(oO (oV (pf (zc u (oU v0) U1) oQ))),?_⟩)
 rintro ds M Q ⟨p,x,v,l,rfl,hp,hv,q⟩
 obtain⟨ph,gr,ws,on,pr,gd,rs,h1,h2,h3,h4,h5,h6,h7,h8⟩:=hp;exact oP h1 (i' rfl (i' rfl (i' h6 (i' (x:=qx v) (by rw[E1,hv];rfl) ⟨M,.refl,q⟩))))
def yO(G:Gl K mg a):Fq P w K mg base 1 a.aL (F8 a):=by
 refine fq G.aL.toDG EY (λr u=>⟨_,(oO (oV (pf (zc u (oU v0) U1) oQ))),?_⟩)
 rintro ds M Q ⟨p,x,v,l,rfl,hp,hv,q⟩
 obtain⟨ph,gr,ws,on,pr,gd,rs,h1,h2,h3,h4,h5,h6,h7,h8⟩:=hp;exact oP h1 (i' rfl (i' rfl (i' h6 (i' (x:=qx v) (by rw[E1,hv];rfl) ⟨M,.refl,q⟩))))
def tS(G:Gl K mg a):Fq P w K mg base 1 a.S (zv a):=by
 refine fq G.S.toDG yU (λr u=>⟨_,(oN (pA (LC u U1 (oU v0))
 (oO (oV (pZ sL rfl G.y su (pR (pf (zc u (oU v0) U1) oQ)))))
 pb)
 (oO (oV (qA (pR U1))))),?_⟩)
 rintro ds M Q ⟨p,x,l,rfl,hp,q⟩
 obtain⟨ph,gr,ws,on,pr,gd,rs,h1,h2,h3,h4,h5,h6,h7,h8⟩:=hp;refine oP h1 (i' rfl (i' h7 ?_));cases e:l.group x with
 | none=>refine Mz (c:=(va (Hl l) (Sum.inr x)).isSome) (by rw[vG,e];rfl) ⟨oK rfl,λq1 WQ=>⟨_,.refl,?_⟩⟩;have:=q q1 WQ;unfold oY.mv at this;rw[e]at this;exact this
 | some g=>refine Aa (c:=(va (Hl l) (Sum.inr x)).isSome) (by rw[vG,e];rfl) (oP h1 (i' rfl (i' rfl (i' h7 (i' (x:=qI g) (by rw[vG,e];rfl) λq1 WQ=>⟨_,.refl,?_⟩)))));have:=q q1 WQ;unfold oY.mv at this;rw[e]at this;exact this
def wM(G:Gl K mg a):Fq P w K mg base 1 a.aK (B7 a):=by
 refine fq G.aK.toDG A7 (λr u=>⟨_,(oN (pA (LC u U1 (oU v0))
 (oO (oV (pf (zc u (oU v0) U1) oQ)))
 pb)
 (oO (oV oR))),?_⟩)
 rintro ds M Q ⟨p,x,l,rfl,hp,q⟩
 obtain⟨ph,gr,ws,on,pr,gd,rs,h1,h2,h3,h4,h5,h6,h7,h8⟩:=hp;refine oP h1 (i' rfl (i' h7 ?_));cases e:l.group x with
 | none=>refine Mz (c:=(va (Hl l) (Sum.inr x)).isSome) (by rw[vG,e];rfl) ⟨M,.refl,?_⟩;unfold oY.mF at q;rw[e]at q;exact q
 | some g=>refine Aa (c:=(va (Hl l) (Sum.inr x)).isSome) (by rw[vG,e];rfl) (oP h1 (i' rfl (i' rfl (i' h7 (i' (x:=qI g) (by rw[vG,e];rfl) ⟨M,.refl,?_⟩)))));unfold oY.mF at q;rw[e]at q;exact q
noncomputable def MY:List Int:=[1,1,2,2,3]
noncomputable def ON:List Int:=[0,1,1,2,5,9]
noncomputable def Nx:List Str:=["all","turns"]
noncomputable def Ff(t:List Int)(i:Int):Int:=t.getD i.toNat 0
noncomputable def vp(s:Int)(i:Nat):tI:=(wK s (0+(i:Nat)),Ff MY (draw (s+17*(0+(i:Nat))*(0+(i:Nat))) 16807 5),Ff ON (draw (s+17*(0+(i:Nat))*(0+(i:Nat))) 39373 6))
noncomputable def rb(s m:Int):Nat:=(2+draw s 48271 (m - 1)).toNat
noncomputable def pY(s m:Int):List tI:=(List.range (rb s m)).map (vp s)
noncomputable def zH(s:Int)(own:List Str)(i:Nat):tJ:=(wK s (8+(0+(i:Nat))),Bw Nx (draw (s+5*(0+(i:Nat))) 742938285 2),vf own (s+11*(0+(i:Nat))) 4)
noncomputable def vh(s:Int):Nat:=(draw s 69621 3).toNat
noncomputable def qE(s:Int)(own:List Str):List tJ:=(List.range (vh s)).map (zH s own)
def Fd{ts:List Int}{i:Int}(h0:0<=i)(h1:i<ts.length):vM (ts.map D.int) i=some (D.int (Ff ts i)):=by
 obtain⟨n,rfl⟩:=d6 h0;have Xp:n<ts.length:=by omega
 refine uF ?_;rw[dA,cT Xp];simp[Ff,Xp]
def BM{n:Nat}{pre post:List D}{d:D}(e:pre++d::post=(List.range n).map λi=>D.int (0+(i:Nat))):d=.int (0+(pre.length:Nat))/\pre.length<n:=by
 have h:((List.range n).map λi=>D.int (0+(i:Nat)))[pre.length]?=some d:=by rw[<-e];simp
 have hl:pre.length<n:=by
  have:=(cV.mp h).1
  simpa using this
 rw[dA,kt hl]at h;exact⟨(df h).symm,hl⟩
def BW{α β:Type}(f:Nat->α)(g:α->β)(n:Nat):((List.range n).map f).map g++[g (f n)]=((List.range (n+1)).map f).map g:=by rw[jN,dJ,dJ];rfl
def Gw:qN:=λds M Q=>Bj λs m=>ds=[.int s,.int m]/\2<=m/\m<=100/\∀q,M q=none->Q (.ref q) (oX M q (.lst ((pY s m).map qx)))
def G5:qN:=λds M Q=>Cv λs o own=>ds=[.int s,.ref o]/\oy M o=some (own.map D.str)/\own≠[]/\own.length<=64/\∀q,M q=none->Q (.ref q) (oX M q (.lst ((qE s own).map qI)))
def vZ{s m:Int}(h2:2<=m)(h:m<=100):rb s m<=100/\2<=rb s m:=by have d0:=qF (c:=s) (f:=48271) (m:=m - 1) (by omega);have d1:=qu (c:=s) (f:=48271) (m:=m - 1) (by omega);unfold rb;omega
def wu{s:Int}:vh s<=3:=by have d0:=qF (c:=s) (f:=69621) (m:=3) (by decide);have d1:=qu (c:=s) (f:=69621) (m:=3) (by decide);unfold vh;omega
def GG(G:Gl K mg a):Fq P w K mg base 2 a.bi Gw:=by
 refine fq G.bi.toDG ul (λr u=>⟨_,(oN (pj 2 ul (qA sd))
 (oN (tZ eV rfl (uI rfl G.aa (pR (pH oQ (o9 (qo G) r G.i (qR v0 oQ (pH U1 oQ)))))) (qJ 3 ul)
 (oN (pj 4 ul (pf (pz (pJ oQ (pJ oQ (qR oQ oQ oQ)))) (o9 (qo G) r G.i (qR (pH v0 (pH (pH oQ U3) U3)) oQ oQ))))
 (oO (pq (qM U2 (pR (pz (qR (o9 (IG G) r G.ag (rA v0 U3)) v4 (pf (pz (pJ oQ (pJ oQ (pJ oQ (qR oQ oQ oQ))))) (o9 (qo G) r G.i (qR (pH v0 (pH (pH oQ U3) U3)) oQ oQ)))))))))))
 (oO (oV U2)))),?_⟩)
 rintro ds M Q ⟨s,m,rfl,h2,h100,q⟩
 have hz:=dN;have d0:=qF (c:=s) (f:=48271) (m:=m - 1) (by omega);have d1:=qu (c:=s) (f:=48271) (m:=m - 1) (by omega);have nl:=(vZ (s:=s) h2 h100).1;refine⟨oK rfl,λr hr=>⟨s,_,_,rfl,by show 0<m - 1;omega,rfl,⟨?_,?_⟩,?_⟩⟩
 .show -(2 ^ 62)<=2+draw s 48271 (m - 1);omega
 .show 2+draw s 48271 (m - 1)<2 ^ 62;omega
 refine uM ((List.range (rb s m)).map λi=>D.int (0+(i:Nat))) (λpre δ M'=>M'=oX M r (.lst (((List.range pre.length).map (vp s)).map qx))/\∃x y,δ=[some (.int s),some (.int m),some (.ref r),x,y]) (λ_ _ _ _=>trivial) _ [] _ _ rfl ⟨rfl,none,none,rfl⟩ ?_ ?_
 .rintro pre d post e δ M' ⟨rfl,x,y,rfl⟩ nx VY
  obtain⟨rfl,VX⟩:=BM e;generalize hi:pre.length=i at VX VY ⊢;have cm:Cp (17*(0+(i:Int))) (0+(i:Int)):=.inr ⟨by omega,by omega⟩;have c17:Cp 17 (0+(i:Int)):=.inl ⟨by decide,by decide⟩;have t5:vM [D.int 1,.int 1,.int 2,.int 2,.int 3] (draw (s+17*(0+(i:Int))*(0+(i:Int))) 16807 5)=some (.int (vp s i).2.1):=Fd (ts:=MY) (qF (by decide)) (qu (by decide));have t6:vM [D.int 0,.int 1,.int 1,.int 2,.int 5,.int 9] (draw (s+17*(0+(i:Int))*(0+(i:Int))) 39373 6)=some (.int (vp s i).2.2):=Fd (ts:=ON) (qF (by decide)) (qu (by decide));refine⟨oK rfl,c17,cm,_,_,_,rfl,by decide,i' t5 ?_⟩;refine⟨by show(oy _ r).isSome=true;rw[oW];rfl,s,_,rfl,oK rfl,c17,cm,_,_,_,rfl,by decide,i' t6 ⟨oK rfl,i' oW ⟨?_,?_⟩⟩⟩
  .rw[cR,cR,eD];omega
  .refine VY _ _ ⟨?_,_,_,rfl⟩;rw[ra,cU,hi];show oX M r (.lst (_++[qx (vp s i)]))=_;rw[BW];rfl
 .rintro δ M' ⟨rfl,x,y,rfl⟩
  refine⟨_,.refl,?_⟩;rw[cR,eD];exact q r hr
def GS(G:Gl K mg a):Fq P w K mg base 3 a.bj G5:=by
 refine fq G.bj.toDG um (λr u=>⟨_,(oN (pj 2 um (qA sd))
 (oN (tZ eV rfl (uI rfl G.aa (pR (o9 (qo G) r G.i (qR v0 oQ oQ)))) (qJ 3 um)
 (oN (pj 4 um (pf (pz (rA oR oR)) (o9 (qo G) r G.i (qR (pH v0 (pH oQ U3)) oQ oQ))))
 (oO (pq (qM U2 (pR (pz (qR (o9 (IG G) r G.ag (rA v0 (pH oQ U3))) v4 (o9 (xK G) r G.P (qR U1 (pH v0 (pH oQ U3)) oQ))))))))))
 (oO (oV U2)))),?_⟩)
 rintro ds M Q ⟨s,o,own,rfl,ho,Wc,h64,q⟩
 have hz:=dN;have d0:=qF (c:=s) (f:=69621) (m:=3) (by decide);have d1:=qu (c:=s) (f:=69621) (m:=3) (by decide);have nl:=wu (s:=s);refine⟨oK rfl,λr hr=>⟨s,_,_,rfl,by decide,rfl,⟨?_,?_⟩,?_⟩⟩
 .show -(2 ^ 62)<=draw s 69621 3;omega
 .show draw s 69621 3<2 ^ 62;omega
 have nor:o≠r:=λz=>by rw[z]at ho;unfold oy at ho;rw[hr]at ho;cases ho
 refine uM ((List.range (vh s)).map λi=>D.int (0+(i:Nat))) (λpre δ M'=>M'=oX M r (.lst (((List.range pre.length).map (zH s own)).map qI))/\∃x y,δ=[some (.int s),some (.ref o),some (.ref r),x,y]) (λ_ _ _ _=>trivial) _ [] _ _ rfl ⟨rfl,none,none,rfl⟩ ?_ ?_
 .rintro pre d post e δ M' ⟨rfl,x,y,rfl⟩ nx VY
  obtain⟨rfl,VX⟩:=BM e;generalize hi:pre.length=i at VX VY ⊢;have c5:Cp 5 (0+(i:Int)):=.inl ⟨by decide,by decide⟩;have c11:Cp 11 (0+(i:Int)):=.inl ⟨by decide,by decide⟩;have tm:vM [D.str "all",.str "turns"] (draw (s+5*(0+(i:Int))) 742938285 2)=some (.str (zH s own i).2.1):=Gm (row:=Nx) (qF (by decide)) (qu (by decide));have Wu:oy (oX M r (.lst (((List.range i).map (zH s own)).map qI))) o=some (own.map D.str):=by unfold oy;rw[tV nor];exact ho
  refine⟨oK rfl,c5,_,_,_,rfl,by decide,i' tm ?_⟩;refine⟨by show(oy _ r).isSome=true;rw[oW];rfl,s,_,rfl,c11,o,_,_,own,rfl,Wu,Wc,by decide,h64,oK rfl,i' oW ⟨?_,?_⟩⟩
  .rw[cR,cR,eD];omega
  .refine VY _ _ ⟨?_,_,_,rfl⟩;rw[ra,cU,hi];show oX M r (.lst (_++[qI (zH s own i)]))=_;rw[BW];rfl
 .rintro δ M' ⟨rfl,x,y,rfl⟩
  refine⟨_,.refl,?_⟩;rw[cR,eD];exact q r hr
noncomputable def HB(ns:List Int)(own nm:List Str)(i:Nat):uT:=(decide (0<draw (cell ns (1+(0+(i:Nat)))+31*(0+(i:Nat))*(0+(i:Nat))) 22695477 6),vH (cell ns (1+(0+(i:Nat)))+31*(0+(i:Nat))*(0+(i:Nat))) own nm)
noncomputable def wc(s:Int):Nat:=(draw s 950706376 11).toNat
noncomputable def uK(ns:List Int)(m:Int):oY:=
 let s:=cell ns 0;let own:=(pY s m).map (·.1);let gs:=qE s own
 ⟨pY s m,gs,(List.range (wc s)).map (HB ns own (own++gs.map (·.1)))⟩
def Lf:qN:=λds M Q=>Bj λns m=>ds=[.rl (ns.map D.int),.int m]/\2<=m/\m<=8/\∀r1 r2 r3 M',qa M M'->oy M' r1=some ((uK ns m).mw.map qx)->oy M' r2=some ((uK ns m).groups.map qI)->oy M' r3=some ((uK ns m).my.map wz)->Q (.tup [.ref r1,.ref r2,.ref r3]) M'
def Mv(G:Gl K mg a):Fq P w K mg base 4 a.bl Lf:=by
 refine fq G.bl.toDG rN (λr u=>⟨_,(oN (pj 2 rN (o9 (Kr G) r G.O (rA v0 oQ)))
 (oN (pj 3 rN (o9 (GG G) r G.bi (rA U2 U1)))
 (oN (uf (i:=4) rN.nd rfl (Or.inl rfl) rfl (wC (ix:=[none]) (N':=["_law_phone"])) (qk U3) (qg 0) rh (pf v0 oQ))
 (oN (pj 5 rN (o9 (GS G) r G.bj (rA U2 v4)))
 (oN (pj 6 rN (pH v4 (ql rfl (wC (ix:=[none]) (N':=["_law_group"])) (qk v5) (qg 0) rh (pf v0 oQ))))
 (oN (pj 7 rN (qA sd))
 (oN (tZ eV rfl (uI rfl G.aa (pR (o9 (qo G) r G.i (qR U2 oQ oQ)))) (qJ 8 rN)
 (oN (pj 9 rN (pH (o9 (Kr G) r G.O (rA v0 (pH oQ v8))) (pH (pH oQ v8) v8)))
 (oO (pq (qM v7 (pR (pz (rA (pN u (o9 (qo G) r G.i (qR v9 oQ oQ)) oQ) (o9 (Nl G) r G.bk (qR v9 v4 v6))))))))))
 (oO (oV (pz (qR U3 v5 v7))))))))))),?_⟩)
 rintro ds M Q ⟨ns,m,rfl,h2,h8,q⟩
 have hz:=dN;have pl:=vZ (s:=cell ns 0) h2 (by omega);have p8:rb (cell ns 0) m<=8:=by have d1:=qu (c:=cell ns 0) (f:=48271) (m:=m - 1) (by omega);unfold rb;omega
 have gl:=wu (s:=cell ns 0);have lp:(pY (cell ns 0) m).length=rb (cell ns 0) m:=by unfold pY;rw[cR,eD]
 refine⟨ns,0,rfl,cell ns 0,m,rfl,h2,by omega,λr1 Wz=>?_⟩;have s1:=qa.new (c:=.lst ((pY (cell ns 0) m).map qx)) Wz;have a1:=@oW M r1 ((pY (cell ns 0) m).map qx);generalize oX M r1 (.lst ((pY (cell ns 0) m).map qx))=M1 at s1 a1 ⊢;refine i' a1 (qH (f:=Ak) a1 _ [] _ (by rw[cR];simp only[dD];omega) (λd hd k hk=>?_) λo ho=>?_)
 .obtain⟨x,_,rfl⟩:=dz.mp hd;exact hk
 rw[dW,vP];have s2:=s1.trans (qa.new (c:=.lst (((pY (cell ns 0) m).map (·.1)).map D.str)) ho);have b1:=(qa.new (c:=.lst (((pY (cell ns 0) m).map (·.1)).map D.str)) ho).lst a1;have bo:=@oW M1 o (((pY (cell ns 0) m).map (·.1)).map D.str);generalize oX M1 o (.lst (((pY (cell ns 0) m).map (·.1)).map D.str))=M2 at s2 b1 bo ⊢;have ol:((pY (cell ns 0) m).map (·.1)).length=rb (cell ns 0) m:=by rw[cR,lp]
 have one:(pY (cell ns 0) m).map (·.1)≠[]:=λz=>by rw[z]at ol;have:0=rb (cell ns 0) m:=ol;omega
 have V4:uK ns m=⟨pY (cell ns 0) m,qE (cell ns 0) ((pY (cell ns 0) m).map (·.1)),(List.range (wc (cell ns 0))).map (HB ns ((pY (cell ns 0) m).map (·.1)) ((pY (cell ns 0) m).map (·.1)++(qE (cell ns 0) ((pY (cell ns 0) m).map (·.1))).map (·.1)))⟩:=rfl;rw[V4]at q;generalize (pY (cell ns 0) m).map (·.1)=own at bo ol one q ⊢;refine⟨cell ns 0,o,own,rfl,bo,one,by omega,λr2 Yf=>?_⟩;have t3:=qa.new (c:=.lst ((qE (cell ns 0) own).map qI)) Yf;have c2:=@oW M2 r2 ((qE (cell ns 0) own).map qI);have c1:=t3.lst b1;have co:=t3.lst bo;have s3:=s2.trans t3;generalize oX M2 r2 (.lst ((qE (cell ns 0) own).map qI))=M3 at s3 c1 c2 co ⊢;have gll:(qE (cell ns 0) own).length=vh (cell ns 0):=by unfold qE;rw[cR,eD]
 refine i' c2 (qH (f:=Ak) c2 _ [] _ (by rw[cR];simp only[dD];omega) (λd hd k hk=>?_) λx4 hx4=>?_)
 .obtain⟨x,_,rfl⟩:=dz.mp hd;exact hk
 rw[dW,vY];have t4:=qa.new (c:=.lst (((qE (cell ns 0) own).map (·.1)).map D.str)) hx4;refine i' (t4.lst co) (i' oW ⟨?_,λn hn=>?_⟩)
 .rw[cR,cR,cR];omega
 have en:own.map D.str++((qE (cell ns 0) own).map (·.1)).map D.str=(own++(qE (cell ns 0) own).map (·.1)).map D.str:=by rw[dJ]
 rw[en];have nl:(own++(qE (cell ns 0) own).map (·.1)).length=rb (cell ns 0) m+vh (cell ns 0):=by rw[cU,cR,ol,gll]
 have t5:=t4.trans (qa.new (c:=.lst ((own++(qE (cell ns 0) own).map (·.1)).map D.str)) hn);have en5:=@oW (oX M3 x4 (.lst (((qE (cell ns 0) own).map (·.1)).map D.str))) n ((own++(qE (cell ns 0) own).map (·.1)).map D.str);have e1:=t5.lst c1;have e2:=t5.lst c2;have eo:=t5.lst co;have s5:=s3.trans t5;generalize oX (oX M3 x4 (.lst (((qE (cell ns 0) own).map (·.1)).map D.str))) n (.lst ((own++(qE (cell ns 0) own).map (·.1)).map D.str))=M5 at s5 e1 e2 eo en5 ⊢;generalize own++(qE (cell ns 0) own).map (·.1)=nm at en5 nl q ⊢;have d0:=qF (c:=cell ns 0) (f:=950706376) (m:=11) (by decide);have d1:=qu (c:=cell ns 0) (f:=950706376) (m:=11) (by decide);refine⟨oK rfl,λr3 XX=>⟨_,_,_,rfl,by decide,rfl,⟨?_,?_⟩,?_⟩⟩
 .show -(2 ^ 62)<=draw (cell ns 0) 950706376 11;omega
 .show draw (cell ns 0) 950706376 11<2 ^ 62;omega
 have t6:=qa.new (c:=.lst []) XX;have g3:=@oW M5 r3 [];have no:o≠r3:=λz=>by have:=pS eo;rw[z,XX]at this;cases this
 have nn:n≠r3:=λz=>by have:=pS en5;rw[z,XX]at this;cases this
 have n1:r1≠r3:=λz=>by have:=pS e1;rw[z,XX]at this;cases this
 have n2:r2≠r3:=λz=>by have:=pS e2;rw[z,XX]at this;cases this
 have f1:=t6.lst e1;have f2:=t6.lst e2;have fo:=t6.lst eo;have fn:=t6.lst en5;have k6:qa M (oX M5 r3 (.lst [])):=s5.trans t6;have nr:M r3=none:=s5.none XX;generalize oX M5 r3 (.lst [])=M6 at f1 f2 fo fn k6 g3 ⊢;have wl:wc (cell ns 0)<=10:=by unfold wc;omega
 refine uM ((List.range (wc (cell ns 0))).map λi=>D.int (0+(i:Nat))) (λpre δ M'=>rD r3 M6 M'/\oy M' r3=some (((List.range pre.length).map (HB ns own nm)).map wz)/\∃x y,δ=[some (.rl (ns.map D.int)),some (.int m),some (.int (cell ns 0)),some (.ref r1),some (.ref o),some (.ref r2),some (.ref n),some (.ref r3),x,y]) (λp δ M' j=>trivial) _ [] _ _ rfl ⟨λ_ _ _ h=>h,g3,none,none,rfl⟩ ?_ ?_
 .rintro pre d post e δ M' ⟨kp,lr,x,y,rfl⟩ nx VY
  obtain⟨rfl,VX⟩:=BM e;generalize hi:pre.length=i at VX VY lr ⊢;have c31:Cp 31 (0+(i:Int)):=.inl ⟨by decide,by decide⟩;have cm:Cp (31*(0+(i:Int))) (0+(i:Int)):=.inr ⟨by omega,by omega⟩;refine⟨ns,_,rfl,c31,cm,?_⟩;refine⟨by show(oy M' r3).isSome=true;rw[lr];rfl,_,_,_,rfl,by decide,_,o,n,own,nm,rfl,kp.lst no fo,kp.lst nn fn,one,by omega,by omega,by omega,oK rfl,i' lr ⟨?_,?_⟩⟩
  .rw[cR,cR,eD];omega
  .refine VY _ _ ⟨kp.trans .put,?_,_,_,rfl⟩;rw[oW,cU,hi];show some (_++[wz (HB ns own nm i)])=_;rw[BW];rfl
 .rintro δ M' ⟨kp,lr,x,y,rfl⟩
  rw[cR,eD]at lr;exact⟨oK rfl,M',.refl,q r1 r2 r3 M' (λb c h=>kp b c (λz=>by rw[z,nr]at h;cases h) (k6 b c h)) (kp.lst n1 f1) (kp.lst n2 f2) lr⟩
theorem BY(x:Array Nat):∀(n:Nat) (acc:Array Nat),((List.replicate n x).foldl (·++·) acc).toList=acc.toList++(List.replicate n x.toList).flatten
 | 0,acc=>by simp
 | n+1,acc=>by rw[eF,fV,BY x n (acc++x),eF,fM,iT,fi]
theorem FK(c:Nat):∀n:Nat,(List.replicate n [c]).flatten=List.replicate n c
 | 0=>rfl
 | n+1=>by rw[eF,fM,FK c n,eF];rfl
def CM(i n:Int):(xY (tH i) n).cps.toList=List.replicate n.toNat (97+i.toNat):=by show((List.replicate n.toNat (tH i).cps).foldl (·++·) #[]:Array Nat).toList=_;rw[BY];show[]++(List.replicate n.toNat [97+i.toNat]).flatten=_;rw[dW,FK]
def xJ(s v:Int):(wK s v).cps.toList=List.replicate (ua s).toNat (97+(s / 36 % 26).toNat)++(97+((s / 936+v) % 26).toNat)::List.replicate (size s - 1 - ua s).toNat (97+(s / 36 % 26).toNat):=by show((xY (tH (s / 36 % 26)) (ua s)).cps++(tH ((s / 936+v) % 26)).cps++(xY (tH (s / 36 % 26)) (size s - 1 - ua s)).cps).toList=_;rw[iT,iT,CM,CM];show _++[97+((s / 936+v) % 26).toNat]++_=_;rw[fi];rfl
def BE(s v:Int):1<=(wK s v).length/\(wK s v).length<=6:=by
 have e:(wK s v).length=(wK s v).cps.toList.length:=by simp[Str.length]
 rw[e,xJ,cU,dY,iC,iC];have h1:=Fy s;have h2:=HA s;have h3:0<=ua s:=eR _ (by omega);have h4:ua s<size s:=eN _ h1;omega
def Lk{i:Int}(h0:0<=i)(h1:i<26):Co ⟨#[97+i.toNat]⟩ tX=true:=by
 obtain⟨n,rfl⟩:=d6 h0;have hn:n<26:=by omega
 have key:∀n:_root_.Fin 26,Co ⟨#[97+n.val]⟩ tX=true:=by decide+kernel
 exact key ⟨n,hn⟩
def De(s v:Int):tU (wK s v)=true:=by
 obtain⟨h1,h2⟩:=BE s v;unfold tU;rw[dQ (show(1:Int)<=(wK s v).length by omega),dQ (show((wK s v).length:Int)<=6 by omega),eJ,eJ,eX];intro c hc;rw[xJ]at hc;have k1:=Lk (eR (s / 36) (show(26:Int)≠0 by decide)) (eN (s / 36) (by decide));have k2:=Lk (eR (s / 936+v) (show(26:Int)≠0 by decide)) (eN (s / 936+v) (by decide));rcases dU.mp hc with z|z
 .rw[jE z];exact k1
 .rcases c9.mp z with z|z
  .rw[z];exact k2
  .rw[jE z];exact k1
def AN{s u v:Int}(hu:0<=u)(hu':u<26)(hv:0<=v)(hv':v<26)(e:wK s u=wK s v):u=v:=by
 have e':(wK s u).cps.toList=(wK s v).cps.toList:=by rw[e]
 rw[xJ,xJ]at e';have:=(List.append_cancel_left e');have:=(gS this).1;have a1:=eR (s / 936+u) (show(26:Int)≠0 by decide);have a2:=eR (s / 936+v) (show(26:Int)≠0 by decide);have h:(s / 936+u) % 26=(s / 936+v) % 26:=by omega
 omega
def EM{ss:List Str}{x:Str}(h:x∈ss):xk ss x:=gw.mpr ⟨x,h,by simp⟩
def AG{row:List Str}{i:Int}(h0:0<=i)(h1:i<row.length):Bw row i∈row:=by
 obtain⟨n,rfl⟩:=d6 h0;have hn:n<row.length:=by omega
 have:Bw row (n:Int)=row[n]:=by simp[Bw,hn]
 rw[this];exact gN hn
def Ht{row:List Str}{i j:Int}(nd:row.Nodup)(h0:0<=i)(h1:i<row.length)(g0:0<=j)(g1:j<row.length)(e:Bw row i=Bw row j):i=j:=by
 obtain⟨n,rfl⟩:=d6 h0;obtain⟨k,rfl⟩:=d6 g0;have hn:n<row.length:=by omega
 have hk:k<row.length:=by omega
 have e1:Bw row (n:Int)=row[n]:=by simp[Bw,hn]
 have e2:Bw row (k:Int)=row[k]:=by simp[Bw,hk]
 rw[e1,e2]at e;have pw:=jr.mp nd;rcases Nat.lt_trichotomy n k with z|z|z
 .exact absurd e (pw n k hn hk z)
 .rw[z]
 .exact absurd e.symm (pw k n hk hn z)
def zo{α:Type}(f:Nat->α)(n:Nat)(h:∀i j,i<n->j<n->f i=f j->i=j):((List.range n).map f).Nodup:=by refine jr.mpr λi j hi hj VX e=>?_;rw[cR,eD]at hi hj;rw[lO,lO,kS,kS]at e;have:=h i j hi hj e;omega
def BG{row:List Str}{c m:Int}(hr:row≠[])(hm:0<m):1<=wA row c m/\(wA row c m:Int)<=m/\wA row c m<=row.length:=by
 have hl:0<row.length:=fu.mpr hr;have d0:=qF (c:=c) (f:=40692) (m:=if (row.length:Int)<m then(row.length:Int)else m) (by split<;>omega);have d1:=qu (c:=c) (f:=40692) (m:=if (row.length:Int)<m then(row.length:Int)else m) (by split<;>omega);unfold wA;by_cases h:(row.length:Int)<m
 .rw[cY h]at d0 d1 ⊢;omega
 .rw[cW h]at d0 d1 ⊢;omega
def Bo{row:List Str}{c:Int}(hr:row≠[])(j:Nat):0<=(draw c 69621 row.length+(0+(j:Nat))) % (row.length:Int)/\(draw c 69621 row.length+(0+(j:Nat))) % (row.length:Int)<row.length:=by have hl:0<row.length:=fu.mpr hr;exact⟨eR _ (by omega),eN _ (by omega)⟩
def HQ{d n i j:Int}(hn:0<n)(hi:0<=i)(XO:i<n)(hj:0<=j)(hj':j<n)(e:(d+i) % n=(d+j) % n):i=j:=by
 have h1:=jZ (d+i) n;have h2:=jZ (d+j) n;generalize (d+i) / n=a at h1;generalize (d+j) / n=b at h2;have h3:i - j=n*(a - b):=by rw[Int.mul_sub];omega
 rcases Int.lt_trichotomy (a - b) 0 with z|z|z
 .have:n*(a - b)<=n*(-1):=iR (by omega) (by omega);omega
 .rw[z]at h3;omega
 .have:n*1<=n*(a - b):=iR (by omega) (by omega);omega
def He{row:List Str}{c m:Int}(nd:row.Nodup)(hr:row≠[])(hm:0<m):(vf row c m).Nodup:=by have hl:0<row.length:=fu.mpr hr;obtain⟨_,_,l3⟩:=BG (c:=c) hr hm;refine zo _ _ λi j hi hj e=>?_;obtain⟨a0,a1⟩:=Bo (c:=c) hr i;obtain⟨b0,b1⟩:=Bo (c:=c) hr j;have e':=Ht nd a0 a1 b0 b1 e;have:=HQ (d:=draw c 69621 row.length) (n:=row.length) (i:=0+(i:Nat)) (j:=0+(j:Nat)) (by omega) (by omega) (by omega) (by omega) (by omega) e';omega
def wY{row:List Str}{c m k:Int}(nd:row.Nodup)(hr:row≠[])(hm:0<m)(hk:m<=k):rS (vf row c m) row k=true:=by
 obtain⟨l1,l2,l3⟩:=BG (c:=c) hr hm;have el:(vf row c m).length=wA row c m:=by unfold vf;rw[cR,eD]
 unfold rS;rw[el,dQ (show(1:Int)<=wA row c m by omega),dQ (show(wA row c m:Int)<=k by omega),Dc (He nd hr hm),eJ,eJ,eJ,eX];intro x hx;unfold vf at hx;obtain⟨j,_,rfl⟩:=dz.mp hx;obtain⟨a0,a1⟩:=Bo (c:=c) hr j;exact EM (AG a0 a1)
def BU{row:List Str}{c m:Int}(hr:row≠[])(hm:0<m)(h:m<=100):(vf row c m).length<4000:=by
 obtain⟨l1,l2,l3⟩:=BG (c:=c) hr hm;have el:(vf row c m).length=wA row c m:=by unfold vf;rw[cR,eD]
 omega
def NV{c:Int}{own all:List Str}(no:own.Nodup)(na:all.Nodup)(ho:own≠[])(ha:2<=all.length):Ba own all (vH c own all):=by
 have hl:(0:Int)<own.length:=by have:=fu.mpr ho;omega
 have ha0:all≠[]:=λz=>by rw[z]at ha;simp at ha
 have hx:=EM (AG (qF (c:=c) (f:=16807) hl) (qu (c:=c) (f:=16807) hl));have p0:=qF (c:=c) (f:=39373) (m:=all.length) (by omega);have p1:=qu (c:=c) (f:=39373) (m:=all.length) (by omega);have e0:=qF (c:=c) (f:=742938285) (m:=(all.length:Int) - 1) (by omega);have e1:=qu (c:=c) (f:=742938285) (m:=(all.length:Int) - 1) (by omega);have z0:=eR (draw c 39373 all.length+1+draw c 742938285 ((all.length:Int) - 1)) (show(all.length:Int)≠0 by omega);have z1:=eN (draw c 39373 all.length+1+draw c 742938285 ((all.length:Int) - 1)) (show(0:Int)<all.length by omega);have hy:=EM (AG p0 p1);have hzz:=EM (AG z0 z1);have ne:Bw all (draw c 39373 all.length)≠Bw all ((draw c 39373 all.length+1+draw c 742938285 ((all.length:Int) - 1)) % all.length):=λz=>by
  have q:=Ht na p0 p1 z0 z1 z;have q2:(draw c 39373 all.length+0) % (all.length:Int)=(draw c 39373 all.length+(1+draw c 742938285 ((all.length:Int) - 1))) % (all.length:Int):=by rw[Int.add_zero,Int.emod_eq_of_lt p0 p1,<-Int.add_assoc];exact q
  have:=HQ (by omega) (by omega) (by omega) (by omega) (by omega) q2;omega
 have f0:=qF (c:=c) (f:=22695477) (m:=24) (by decide);have f1:=qu (c:=c) (f:=22695477) (m:=24) (by decide);have g0:=qF (c:=c) (f:=48271) (m:=23) (by decide);have g1:=qu (c:=c) (f:=48271) (m:=23) (by decide);have t0:=qF (c:=c) (f:=950706376) (m:=5) (by decide);have t1:=qu (c:=c) (f:=950706376) (m:=5) (by decide);unfold vH;simp only;split
 .exact⟨hx,BU ha0 (by decide) (by decide),wY na ha0 (by decide) (by decide)⟩
 .split
  .exact⟨hy,BU ho (by decide) (by decide),wY no ho (by decide) (by decide)⟩
  .split
   .exact⟨hy,hzz,ne⟩
   .split
    .refine⟨hy,hzz,ne,⟨f0,by omega⟩,⟨eR _ (by decide),?_⟩,?_⟩
     .have:=eN (draw c 22695477 24+1+draw c 48271 23) (show(0:Int)<24 by decide);omega
     .omega
    .split
     .exact⟨hy,hzz,ne⟩
     .split
      .refine⟨hy,hzz,ne,?_⟩;generalize draw c 950706376 5=d at t0 t1;have:d=0\/d=1\/d=2\/d=3\/d=4:=by omega
       rcases this with z|z|z|z|z<;>(subst z;decide)
      .split
       .exact hx
       .exact hx
def Lj(s:Int)(i:Nat):EO (vp s i):=by
 have t0:=qF (c:=s+17*(0+(i:Nat))*(0+(i:Nat))) (f:=16807) (m:=5) (by decide);have t1:=qu (c:=s+17*(0+(i:Nat))*(0+(i:Nat))) (f:=16807) (m:=5) (by decide);have u0:=qF (c:=s+17*(0+(i:Nat))*(0+(i:Nat))) (f:=39373) (m:=6) (by decide);have u1:=qu (c:=s+17*(0+(i:Nat))*(0+(i:Nat))) (f:=39373) (m:=6) (by decide);have a:1<=(vp s i).2.1/\(vp s i).2.1<=3:=by
  show 1<=Ff MY (draw (s+17*(0+(i:Nat))*(0+(i:Nat))) 16807 5)/\Ff MY (draw (s+17*(0+(i:Nat))*(0+(i:Nat))) 16807 5)<=3;generalize draw (s+17*(0+(i:Nat))*(0+(i:Nat))) 16807 5=d at t0 t1;have:d=0\/d=1\/d=2\/d=3\/d=4:=by omega
  rcases this with z|z|z|z|z<;>(subst z;decide)
 have b:0<=(vp s i).2.2/\(vp s i).2.2<=9:=by
  show 0<=Ff ON (draw (s+17*(0+(i:Nat))*(0+(i:Nat))) 39373 6)/\Ff ON (draw (s+17*(0+(i:Nat))*(0+(i:Nat))) 39373 6)<=9;generalize draw (s+17*(0+(i:Nat))*(0+(i:Nat))) 39373 6=d at u0 u1;have:d=0\/d=1\/d=2\/d=3\/d=4\/d=5:=by omega
  rcases this with z|z|z|z|z|z<;>(subst z;decide)
 exact⟨dX (BE s (0+(i:Nat))).2 (by decide),De _ _,a.1,a.2,b.1,b.2⟩
def KM{s:Int}{own:List Str}(nd:own.Nodup)(hr:own≠[])(i:Nat):DZ own (zH s own i):=by
 have t0:=qF (c:=s+5*(0+(i:Nat))) (f:=742938285) (m:=2) (by decide);have t1:=qu (c:=s+5*(0+(i:Nat))) (f:=742938285) (m:=2) (by decide);refine⟨dX (BE s (8+(0+(i:Nat)))).2 (by decide),De _ _,?_,BU hr (by decide) (by decide),wY nd hr (by decide) (by decide)⟩;show Bw Nx (draw (s+5*(0+(i:Nat))) 742938285 2)="all"\/Bw Nx (draw (s+5*(0+(i:Nat))) 742938285 2)="turns";generalize draw (s+5*(0+(i:Nat))) 742938285 2=d at t0 t1;have:d=0\/d=1:=by omega
 rcases this with z|z
 .subst z;exact .inl rfl
 .subst z;exact .inr rfl
def J3(s m:Int):(pY s m).map (·.1)=(List.range (rb s m)).map λi=>wK s (0+(i:Nat)):=by unfold pY;rw[dZ];rfl
def FL{s m:Int}(h2:2<=m)(h8:m<=8):((pY s m).map (·.1)).Nodup/\∀own,((pY s m).map (·.1)++(qE s own).map (·.1)).Nodup:=by
 have d1:=qu (c:=s) (f:=48271) (m:=m - 1) (by omega);have d0:=qF (c:=s) (f:=48271) (m:=m - 1) (by omega);have p8:rb s m<=8:=by unfold rb;omega
 have g3:=wu (s:=s);have a:((pY s m).map (·.1)).Nodup:=by rw[J3];refine zo _ _ λi j hi hj e=>?_;have:=AN (by omega) (by omega) (by omega) (by omega) e;omega
 refine⟨a,λown=>?_⟩;have ge:(qE s own).map (·.1)=(List.range (vh s)).map λi=>wK s (8+(0+(i:Nat))):=by unfold qE;rw[dZ];rfl
 rw[fN];refine⟨a,?_,λx hx y hy e=>?_⟩
 .rw[ge];refine zo _ _ λi j hi hj e=>?_;have:=AN (by omega) (by omega) (by omega) (by omega) e;omega
 .rw[J3]at hx;rw[ge]at hy;obtain⟨i,hi,rfl⟩:=dz.mp hx;obtain⟨j,hj,rfl⟩:=dz.mp hy;have hi:=gu.mp hi;have hj:=gu.mp hj;have:=AN (by omega) (by omega) (by omega) (by omega) e;omega
def Pj{ns:List Int}{m:Int}(h2:2<=m)(h8:m<=8):rg (uK ns m):=by
 obtain⟨n1,n2⟩:=FL (s:=cell ns 0) h2 h8;have pl:=vZ (s:=cell ns 0) h2 (by omega);have p8:rb (cell ns 0) m<=8:=by have d1:=qu (c:=cell ns 0) (f:=48271) (m:=m - 1) (by omega);unfold rb;omega
 have lp:(pY (cell ns 0) m).length=rb (cell ns 0) m:=by unfold pY;rw[cR,eD]
 have ol:((pY (cell ns 0) m).map (·.1)).length=rb (cell ns 0) m:=by rw[cR,lp]
 have one:(pY (cell ns 0) m).map (·.1)≠[]:=λz=>by rw[z]at ol;have:0=rb (cell ns 0) m:=ol;omega
 have gl:(qE (cell ns 0) ((pY (cell ns 0) m).map (·.1))).length=vh (cell ns 0):=by unfold qE;rw[cR,eD]
 refine⟨?_,?_,λp hp=>?_,?_,λg hg=>?_,n2 _,?_,λv hv=>?_⟩
 .show 1<=(pY (cell ns 0) m).length;omega
 .show(pY (cell ns 0) m).length<=8;omega
 .obtain⟨i,_,rfl⟩:=dz.mp hp;exact Lj _ i
 .show(qE (cell ns 0) ((pY (cell ns 0) m).map (·.1))).length<=3;rw[gl];exact wu
 .obtain⟨i,_,rfl⟩:=dz.mp hg;exact KM n1 one i
 .show((List.range (wc (cell ns 0))).map _).length<=16;rw[cR,eD];have d1:=qu (c:=cell ns 0) (f:=950706376) (m:=11) (by decide);unfold wc;omega
 .obtain⟨i,hi,rfl⟩:=dz.mp hv;refine NV n1 (n2 _) one ?_;show 2<=((pY (cell ns 0) m).map (·.1)++_).length;rw[cU,ol];omega
structure oS where
 st:Str
 cr:Str
 way:List Str
 at_:List Str
 ms:List Str
 hd:Option Str
 si:Int
 wd:Option Str
structure rC where
 i:Nat
 f:Str
 g:Str
 y:Str
inductive Ev
 | new (n:Nat) (x:Str)
 | leg (v:rC)
 | asks (i:Nat) (z:Str) (ns:List Nat)
 | next (z:Str) (n:Int)
 | merge (i j:Nat) (ms:List Str)
 | turn
 | sw (b:Bool) (i:Nat)
 | rings (i:Nat) (ps:List Str)
 | quiet (i:Nat)
 | waits (i:Nat) (x:Str)
 | talks (i:Nat) (ms:List Str)
 | held (i:Nat) (x:Str)
 | leaves (i:Nat) (x:Str)
 | over (i:Nat) (w:Str)
structure qe where
 p:Addr
 h:Int
 t:Int
 calls:List oS
 mJ:List rC
 ps:List (Str×Int)
 on:List Bool
 log:List Ev
 fo:List Addr
noncomputable def xA(ns:List Nat):D:=.tup (ns.map λn=>D.int (n:Nat))
noncomputable def rC.d(v:rC):D:=.tup [.int (v.i:Nat),.str v.f,.str v.g,.str v.y]
noncomputable def Sa(b:Bool):Str:=if b=true then "on" else "off"
noncomputable def Ev.d:Ev->D
 | .new n x=>.tup [.str "new",.int (n:Nat),.str x]
 | .leg v=>.tup [.str "leg",.int (v.i:Nat),.str v.f,.str v.g,.str v.y]
 | .asks i z ns=>.tup [.str "asks",.int (i:Nat),.str z,xA ns]
 | .next z n=>.tup [.str "next",.str z,.int n]
 | .merge i j ms=>.tup [.str "merge",.int (i:Nat),.int (j:Nat),names ms]
 | .turn=>.tup [.str "turn"]
 | .sw b i=>.tup [.str (Sa b),.int (i:Nat)]
 | .rings i ps=>.tup [.str "rings",.int (i:Nat),names ps]
 | .quiet i=>.tup [.str "quiet",.int (i:Nat)]
 | .waits i x=>.tup [.str "waits",.int (i:Nat),.str x]
 | .talks i ms=>.tup [.str "talks",.int (i:Nat),names ms]
 | .held i x=>.tup [.str "held",.int (i:Nat),.str x]
 | .leaves i x=>.tup [.str "leaves",.int (i:Nat),.str x]
 | .over i w=>.tup [.str "over",.int (i:Nat),.str w]
noncomputable def hasS(ss:List Str)(x:Str):Bool:=ss.any (·==x)
noncomputable def qX(ss:List Str)(x:Str):List Str:=ss.filter λy=>!(y==x)
noncomputable def yE(x:Str):oS:=⟨"rings",x,[],[],[],none,0,none⟩
noncomputable def oS.over(c:oS)(w:Str):oS:={c with st:="over",wd:=some w,at_:=[],ms:=[],hd:=none}
noncomputable def oS.drop(c:oS)(x:Str):oS:={c with at_:=qX c.at_ x,ms:=qX c.ms x}
noncomputable def oS.ring(c:oS)(ps:List Str):oS:={c with st:="rings",at_:=ps,si:=0}
noncomputable def oS.nk(c:oS)(ms:List Str):oS:={c with st:="talks",ms:=ms,at_:=[],hd:=none}
noncomputable def oS.wait(c:oS)(x:Str):oS:={c with st:="waits",at_:=[x]}
noncomputable def oS.hold(c:oS)(x:Str):oS:={c with st:="held",hd:=some x}
noncomputable def oS.nv(c:oS):oS:={c with at_:=[]}
noncomputable def oS.mem(c:oS)(ms:List Str):oS:={c with ms:=ms}
noncomputable def oS.go(c:oS)(g:Str):oS:={c with way:=c.way++[g]}
noncomputable def oS.tick(c:oS):oS:=if (c.st=="rings")=true then{c with si:=c.si+1}else c
noncomputable def rC.to(m k:Nat)(v:rC):rC:=if v.i=m then{v with i:=k}else v
noncomputable def AM(ps:List (Str×Int))(z:Str)(n:Int):List (Str×Int):=if ps.any (λp=>decide (p.1=z))=true then ps.map (λp=>if p.1=z then(p.1,n)else p)else ps++[(z,n)]
noncomputable def wN(V:qe)(i:Nat)(f:oS->oS):qe:={V with calls:=V.calls.modify i f}
noncomputable def qw(V:qe)(e:Ev):qe:={V with log:=V.log++[e]}
noncomputable def So(V:qe):Ev->qe
 | .new _ x=>{V with calls:=V.calls++[yE x]}
 | .leg v=>{V with mJ:=V.mJ++[v],calls:=V.calls.modify v.i (·.go v.g)}
 | .asks _ _ _=>V
 | .next z n=>{V with ps:=AM V.ps z n}
 | .merge i j ms=>{V with calls:=(V.calls.modify i (·.over "merged")).modify j (·.mem ms),mJ:=V.mJ.map (rC.to i j)}
 | .turn=>{V with t:=V.t+1,calls:=V.calls.map oS.tick}
 | .sw b i=>{V with on:=V.on.set i b}
 | .rings i ps=>wN V i (·.ring ps)
 | .quiet i=>wN V i oS.nv
 | .waits i x=>wN V i (·.wait x)
 | .talks i ms=>wN V i (·.nk ms)
 | .held i x=>wN V i (·.hold x)
 | .leaves i x=>wN V i (·.drop x)
 | .over i w=>wN V i (·.over w)
noncomputable def pO(V:qe)(e:Ev):qe:=So (qw V e) e
noncomputable def qr(V:qe)(es:List Ev):qe:=es.foldl pO V
def Ev.ok(V:qe):Ev->Prop
 | .new _ _=>True
 | .leg v=>v.i<V.calls.length
 | .asks _ _ _=>True
 | .next _ _=>True
 | .merge i j ms=>i<V.calls.length/\j<V.calls.length/\i≠j/\ms.length<=100
 | .turn=>True
 | .sw _ i=>i<V.on.length
 | .rings i ps=>i<V.calls.length/\ps.length<=100
 | .quiet i=>i<V.calls.length
 | .waits i _=>i<V.calls.length
 | .talks i ms=>i<V.calls.length/\ms.length<=100
 | .held i _=>i<V.calls.length
 | .leaves i _=>i<V.calls.length
 | .over i _=>i<V.calls.length
def rc(V:qe)(es fs:List Ev):qr V (es++fs)=qr (qr V es) fs:=k9 ..
theorem Ik:∀(es:List Ev) (V:qe),(qr V es).log=V.log++es
 | [],V=>(eM _).symm
 | e::r,V=>by
  show(qr (pO V e) r).log=_;rw[Ik r];have:(pO V e).log=V.log++[e]:=by cases e<;>rfl
  rw[this,fi];rfl
noncomputable def oS.mH(c:oS)(x:Str):Bool:=(c.st=="talks")&&hasS c.ms x
noncomputable def oS.hasB(c:oS)(x:Str):Bool:=if (c.st=="rings")=true then(x==c.cr)||hasS c.at_ x else if (c.st=="waits")=true then x==c.cr else(c.st=="talks"||c.st=="held")&&hasS c.ms x
noncomputable def oS.mS(c:oS)(x:Str):Bool:=if (c.st=="held")=true then hasS c.ms x&&!((c.hd==some x))else c.mH x
noncomputable def oS.mI(c:oS)(x:Str):Bool:=(c.st=="rings"||c.st=="waits")&&(x==c.cr)
noncomputable def oS.mD(c:oS)(x:Str):Bool:=(c.st=="waits")&&hasS c.at_ x
noncomputable def oS.ni(c:oS)(x:Str):Bool:=c.mI x||(hasS c.at_ x||hasS c.ms x)
noncomputable def oS.mK(c:oS)(x:Str):Bool:=c.mH x&&(c.ms.length==2)
noncomputable def tY(V:qe)(x:Str):Nat:=(V.calls.filter (·.hasB x)).length
noncomputable def vN(l:oY)(x:Str):Int:=(l.mO x).elim 0 λv=>v.2.1
noncomputable def ve(l:oY)(x:Str):Int:=(l.mO x).elim 0 λv=>v.2.2
noncomputable def qU(l:oY)(V:qe)(x:Str):Bool:=decide ((tY V x:Int)<vN l x)
noncomputable def tL(l:oY)(V:qe)(c z:Str):List Str:=(l.mv z).filter λx=>!(x==c)&&qU l V x
noncomputable def xi(l:oY)(V:qe)(c z:Str):Bool:=(tL l V c z).isEmpty
noncomputable def vi(V:qe)(x:Str):Option Nat:=V.calls.findIdx? (·.mH x)
noncomputable def Dw(V:qe)(x:Str):Option Nat:=V.calls.findIdx? (·.mS x)
noncomputable def Hw(V:qe)(x:Str):Option Nat:=V.calls.findIdx? (·.mI x)
noncomputable def zM(V:qe)(x:Str):Bool:=V.calls.any (·.mD x)
noncomputable def OO:Option Nat->D
 | none=>.mC
 | some j=>.int (j:Nat)
noncomputable def EA(f l h:Int):Bool:=if f<l then decide (f<=h)&&decide (h<l)else decide (h>=f)||decide (h<l)
noncomputable def G8(l:oY)(x:Str)(ms:List Str):Bool:=ms.all λm=>decide (ve l m<ve l x)
noncomputable def Gj(l:oY)(V:qe)(x c z:Str):Bool:=if (!(c==x)||(z==x))=true then false else if (!(hasS l.pn z)||!(xi l V c z))=true then false else((vi V z).bind (V.calls[·]?)).elim false λk=>(k.ms.length==2)&&G8 l x k.ms
noncomputable def As(l:oY)(V:qe)(c z:Str):Wi->Bool
 | .bar x ns=>(c==x)&&hasS ns z
 | .shut x ns=>(z==x)&&hasS ns c
 | .always x _=>z==x
 | .night x _ f m=>(z==x)&&EA f m ((V.h+V.t) % 24)
 | .busy x _=>(z==x)&&xi l V c z
 | .silent _ _ _=>false
 | .wait x=>if (!(z==x)||(c==x))=true then false else xi l V c z&&!(zM V z)
 | .breaks x=>Gj l V x c z
noncomputable def FX(c:oS):Wi->Bool
 | .silent x _ n=>(c.way.getLast?==some x)&&decide (n<=c.si)
 | _=>false
noncomputable def Hc(l:oY)(V:qe)(f:Wi->Bool):List Nat:=(List.range V.on.length).filter λi=>V.on.getD i false&&(l.my[i]?).elim false λw=>f w.2
noncomputable def Di(l:oY)(V:qe)(c z:Str):List Nat:=Hc l V (As l V c z)
noncomputable def uB(ms:List Str)(n:Nat):List Str:=ms.drop n++ms.take n
noncomputable def yL(V:qe)(z:Str):Nat:=((V.ps.find? λp=>decide (p.1=z)).elim 0 λp=>p.2).toNat
noncomputable def wO(l:oY)(V:qe)(c z:Str):List Str:=if (l.mF z=="turns")=true then((uB (l.mv z) (yL V z)).filter λx=>hasS (tL l V c z) x).take 1 else tL l V c z
inductive vv
 | engaged (z:Str)
 | rings (z:Str) (ps:List Str)
 | waits (z:Str)
 | breaks (z:Str)
 | barred
 | ring (ns:List Str)
noncomputable def vv.d:vv->D
 | .engaged z=>.tup [.str "engaged",.str z]
 | .rings z ps=>.tup [.str "rings",.str z,names ps]
 | .waits z=>.tup [.str "waits",.str z]
 | .breaks z=>.tup [.str "breaks",.str z]
 | .barred=>.tup [.str "barred"]
 | .ring ns=>.tup [.str "ring",names ns]
noncomputable def GI(l:oY)(V:qe)(c z:Str):vv:=match wO l V c z with
 | []=>.engaged z
 | x::r=>.rings z (x::r)
noncomputable def Il(z:Str):Wi->Sum vv Str
 | .bar _ _=>.inl .barred
 | .shut _ _=>.inl .barred
 | .always _ y=>.inr y
 | .night _ y _ _=>.inr y
 | .busy _ y=>.inr y
 | .silent _ y _=>.inr y
 | .wait _=>.inl (.waits z)
 | .breaks _=>.inl (.breaks z)
abbrev sG:=List (Str×List Nat)
noncomputable def ww(l:oY)(V:qe)(c:Str):Nat->Str->List Str->sG->vv×sG
 | 0,_,_,st=>(.barred,st)
 | n+1,z,way,st=>if hasS way z=true then(.ring (way.drop (way.findIdx (·==z))),st)else
  match Di l V c z with
  | []=>(GI l V c z,st++[(z,[])])
  | i::r=>(l.my[i]?).elim (.barred,st) λw=>match Il z w.2 with
   | .inl e=>(e,st++[(z,i::r)])
   | .inr y=>ww l V c n y (way++[z]) (st++[(z,i::r)])
noncomputable def uA(l:oY)(V:qe)(c z:Str)(way:List Str):vv×sG:=ww l V c (l.nm.length+1) z way []
noncomputable def rf(i:Nat):Option Str->sG->List Ev
 | _,[]=>[]
 | none,(z,fs)::r=>.asks i z fs::rf i (some z) r
 | some y,(z,fs)::r=>.leg ⟨i,y,z,y⟩::.asks i z fs::rf i (some z) r
noncomputable def Pp(ms:List Str)(x:Str):Int:=((ms.findIdx (·==x):Nat)+1) % (ms.length:Int)
noncomputable def sC(l:oY)(V:qe)(i:Nat):vv->List Ev
 | .rings z ps=>(if (l.mF z=="turns")=true then[.next z (Pp (l.mv z) (ps.headD Str.empty))]else[])++[.rings i ps]
 | .waits z=>[.waits i z]
 | .breaks z=>match vi V z,V.calls[i]? with
  | some j,some c=>[.merge i j ((V.calls[j]?).elim [] (·.ms)++[c.cr])]
  | _,_=>[]
 | .engaged _=>[.over i "engaged"]
 | .barred=>[.over i "barred"]
 | .ring _=>[.over i "ring"]
noncomputable def tE(i:Nat)(st:sG):vv->List Ev
 | .ring ns=>(st.getLast?).elim [] λs=>[.leg ⟨i,s.1,ns.headD Str.empty,s.1⟩]
 | _=>[]
noncomputable def wB(l:oY)(V:qe)(i:Nat):List Ev:=(V.calls[i]?).elim [] λc=>
 let r:=uA l V c.cr (c.way.getLastD Str.empty) c.way.dropLast
 rf i none r.2++(tE i r.2 r.1++sC l V i r.1)
noncomputable def D5(l:oY)(V:qe)(y z:Str):List Ev:=
 let es:=[Ev.new V.calls.length y,.leg ⟨V.calls.length,y,z,y⟩]
 es++wB l (qr V es) V.calls.length
noncomputable def we(V:qe)(x:Str)(i:Nat):List Ev:=(V.calls[i]?).elim [] λc=>if c.mI x=true then[.over i "left"]else if hasS c.at_ x=true then .leaves i x::(if qX c.at_ x=[]then[.over i "refused"]else[])else if 2<c.ms.length then[.leaves i x]else[.over i "done"]
noncomputable def tF(l:oY)(V:qe)(i:Nat)(fs:List Nat):List Ev:=match fs.head?.bind (l.my[·]?)with
 | some (_,.silent x y _)=>
  let es:=[Ev.asks i x fs,.quiet i,.leg ⟨i,x,y,x⟩]
  es++wB l (qr V es) i
 | _=>[]
noncomputable def y0(l:oY)(V:qe)(i:Nat):List Nat:=(V.calls[i]?).elim [] λc=>if (c.st=="rings")=true then Hc l V (FX c)else[]
noncomputable def rk(l:oY):List Nat->qe->List Ev
 | [],_=>[]
 | i::r,V=>tF l V i (y0 l V i)++rk l r (qr V (tF l V i (y0 l V i)))
noncomputable def DU(l:oY)(V:qe):List Ev:=.turn::rk l (List.range V.calls.length) (pO V .turn)
inductive tN
 | call (y z:Str)
 | num (w x:Str) (ns:List Int)
 | turn
 | sw (b:Bool) (i:Int)
noncomputable def tN.d:tN->D
 | .call y z=>.tup [.str "call",.str y,.str z]
 | .num w x ns=>.tup (.str w::.str x::ns.map D.int)
 | .turn=>.tup [.str "turn"]
 | .sw b i=>.tup [.str (Sa b),.int i]
def tN.m8:tN->Prop
 | .num w _ ns=>((w="answer"\/w="hang"\/w="hold"\/w="back")/\ns.length=1)\/((w="hand"\/w="join")/\ns.length=2)
 | _=>True
noncomputable def ud(V:qe)(x:Str):Option Str:=if (Dw V x).isSome=true then some "bound" else if (Hw V x).isSome=true then some "calls" else none
noncomputable def yB(n:Nat)(i:Int):Bool:=decide (0<=i)&&decide (i<(n:Int))
noncomputable def Ii(w x:Str):List oS->Bool
 | []=>false
 | c::r=>if (w=="answer")=true then hasS c.at_ x else if (w=="hang")=true then c.ni x else if (w=="hold")=true then c.mK x else if (w=="back")=true then c.hd==some x else(c.hd==some x)&&(r.head?.elim false λd=>d.mK x)
noncomputable def sO(V:qe)(ns:List Int):List oS:=ns.filterMap λi=>V.calls[i.toNat]?
noncomputable def FH(l:oY)(V:qe)(y z:Str):Option Str:=if hasS l.nm z=false then some "name" else if ((ud V y).isNone&&!(qU l V y))=true then some "full" else ud V y
noncomputable def LB(l:oY)(V:qe)(w x:Str)(ns:List Int):Option Str:=if ns.all (yB V.calls.length)=false then some "call" else if Ii w x (sO V ns)=false then some "call" else if (w=="answer"||w=="back")=false then none else
 if ((ud V x).isNone&&((sO V ns).head?.elim false (λc=>c.mD x)&&!(qU l V x)))=true then some "full" else ud V x
noncomputable def MX(V:qe)(b:Bool)(i:Int):Option Str:=if yB V.on.length i=false then some "wish" else if (V.on.getD i.toNat false==b)=true then some "wish" else none
noncomputable def wG(l:oY)(V:qe):tN->Option Str
 | .turn=>none
 | .sw b i=>MX V b i
 | .call y z=>if hasS l.pn y=false then some "name" else FH l V y z
 | .num w x ns=>if hasS l.pn x=false then some "name" else LB l V w x ns
noncomputable def qd(c:oS)(x:Str):Str:=(qX c.ms x).headD Str.empty
noncomputable def DY(V:qe)(w x:Str)(i:Nat):Ev:=(V.calls[i]?).elim .turn λc=>if (w=="answer")=true then .talks i [c.cr,x]else if (w=="hold")=true then .held i x else .talks i c.ms
noncomputable def FU(V:qe)(w x:Str)(i j:Nat):Ev:=(V.calls[i]?).elim .turn λc=>(V.calls[j]?).elim .turn λd=>.merge i j (if (w=="hand")=true then[qd c x,qd d x]else[x,qd c x,qd d x])
noncomputable def xp(l:oY)(V:qe):tN->List Ev
 | .call y z=>D5 l V y z
 | .num w x [i]=>if (w=="hang")=true then we V x i.toNat else[DY V w x i.toNat]
 | .num w x [i,j]=>[FU V w x i.toNat j.toNat]
 | .num _ _ _=>[]
 | .turn=>DU l V
 | .sw b i=>[.sw b i.toNat]
structure qS where
 p:Addr
 wy:Addr
structure sX where
 b:Addr
 ca:Addr
 le:Addr
 nx:Addr
 on:Addr
 lo:Addr
 cs:List qS
noncomputable def FC:Option Str->D
 | none=>.mC
 | some x=>.str x
noncomputable def qO(c:oS)(wy ad md:Addr):List (Str×D):=[("state",.str c.st),("caller",.str c.cr),("way",.ref wy),("at",.ref ad),("members",.ref md),("holder",FC c.hd),("since",.int c.si),("word",FC c.wd)]
noncomputable def sU(p:D)(h t:Int)(ca le nx on lo:Addr):List (Str×D):=[("plan",p),("hour",.int h),("turn",.int t),("calls",.ref ca),("legs",.ref le),("nexts",.ref nx),("on",.ref on),("log",.ref lo)]
noncomputable def sI(ps:List (Str×Int)):List (qK×D):=ps.map λp=>((Sum.inr p.1:qK),D.int p.2)
noncomputable def sX.lists(A:sX):List Addr:=A.ca::A.le::A.on::A.lo::A.cs.map (·.wy)
noncomputable def sX.foot(A:sX):List Addr:=A.b::A.nx::(A.lists++A.cs.map (·.p))
def rq(a:Ad)(M:Mp)(L:List Addr)(k:qS)(c:oS):Prop:=Bj λad md=>M k.p=some (.ins a.e (qO c k.wy ad md))/\oy M k.wy=some (c.way.map D.str)/\oy M ad=some (c.at_.map D.str)/\oy M md=some (c.ms.map D.str)/\ad∉L/\md∉L
structure pk(a:Ad)(M:Mp)(A:sX)(V:qe):Prop where
 at_:M A.b=some (.ins a.c (sU (.ref V.p) V.h V.t A.ca A.le A.nx A.on A.lo))
 ca:oy M A.ca=some (A.cs.map λk=>D.ref k.p)
 le:oy M A.le=some (V.mJ.map rC.d)
 nx:zd M A.nx=some (sI V.ps)
 on:oy M A.on=some (V.on.map D.bl)
 lo:oy M A.lo=some (V.log.map Ev.d)
 len:A.cs.length=V.calls.length
 cs:∀(i:Nat) k c,A.cs[i]?=some k->V.calls[i]?=some c->rq a M (A.lists++V.fo) k c
 nl:A.lists.Nodup
 np:(A.b::A.cs.map (·.p)).Nodup
 fo:∀x∈V.fo,∃c,M x=some c
def wk{F:List Addr}{M:Mp}{p:Addr}{c:uo}(h:∀x∈F,∃c,M x=some c):∀x∈F,∃d,oX M p c x=some d:=λx hx=>by
 by_cases z:x=p
 .exact⟨c,by rw[z];exact pC⟩
 .obtain⟨d,e⟩:=h x hx;exact⟨d,rD.put x d z e⟩
def rq.sub{a:Ad}{M M':Mp}{L:List Addr}{k:qS}{c:oS}(h:rq a M L k c)(s:qa M M'):rq a M' L k c:=by obtain⟨ad,md,h1,h2,h3,h4,h5⟩:=h;exact⟨ad,md,s _ _ h1,s.lst h2,s.lst h3,s.lst h4,h5⟩
def pk.sub{a:Ad}{M M':Mp}{A:sX}{V:qe}(h:pk a M A V)(s:qa M M'):pk a M' A V:=⟨s _ _ h.at_,s.lst h.ca,s.lst h.le,s.dk h.nx,s.lst h.on,s.lst h.lo,h.len,λi k c e1 e2=>(h.cs i k c e1 e2).sub s,h.nl,h.np,λx hx=>(h.fo x hx).imp λc e=>s x c e⟩
def rq.nI{a:Ad}{M M':Mp}{L:List Addr}{k:qS}{c:oS}{x:Addr}{ds:List D}(h:rq a M L k c)(kp:rD x M M')(hl:oy M x=some ds)(hx:x∈L)(hn:k.wy≠x):rq a M' L k c:=by obtain⟨ad,md,h1,h2,h3,h4,h5,h6⟩:=h;exact⟨ad,md,kp _ _ (λz=>by rw[z,pS hl]at h1;cases h1) h1,kp.lst hn h2,kp.lst (λz=>h5 (z ▸ hx)) h3,kp.lst (λz=>h6 (z ▸ hx)) h4,h5,h6⟩
def rq.nO{a:Ad}{M M':Mp}{L:List Addr}{k:qS}{c:oS}{x C:Addr}{fs:List (Str×D)}(h:rq a M L k c)(kp:rD x M M')(hi:M x=some (.ins C fs))(hn:k.p≠x):rq a M' L k c:=by obtain⟨ad,md,h1,h2,h3,h4,h5⟩:=h;exact⟨ad,md,kp _ _ hn h1,kp.lst (pE h2 hi) h2,kp.lst (pE h3 hi) h3,kp.lst (pE h4 hi) h4,h5⟩
def ux{M:Mp}{a p:Addr}{ds:List (qK×D)}{es:List D}(h:zd M a=some ds)(hp:oy M p=some es):a≠p:=λz=>by subst z;unfold zd at h;rw[pS hp]at h;cases h
def rq.oF{a:Ad}{M M':Mp}{L:List Addr}{k:qS}{c:oS}{x:Addr}{ds:List (qK×D)}(h:rq a M L k c)(kp:rD x M M')(hd:zd M x=some ds):rq a M' L k c:=by obtain⟨ad,md,h1,h2,h3,h4,h5⟩:=h;exact⟨ad,md,kp _ _ (λz=>by rw[z,yG hd]at h1;cases h1) h1,kp.lst (dM (ux hd h2)) h2,kp.lst (dM (ux hd h3)) h3,kp.lst (dM (ux hd h4)) h4,h5⟩
def qB{α:Type}{l:List α}{i:Nat}{x:α}(h:l[i]?=some x):x∈l:=fQ h
def pk.ne{a:Ad}{M:Mp}{A:sX}{V:qe}(h:pk a M A V):A.ca≠A.le/\A.ca≠A.on/\A.ca≠A.lo/\A.le≠A.on/\A.le≠A.lo/\A.on≠A.lo/\∀k∈A.cs,k.wy≠A.ca/\k.wy≠A.le/\k.wy≠A.on/\k.wy≠A.lo:=by
 have n:=h.nl;unfold sX.lists at n;obtain⟨n1,n⟩:=dP.mp n;obtain⟨n2,n⟩:=dP.mp n;obtain⟨n3,n⟩:=dP.mp n;obtain⟨n4,n⟩:=dP.mp n;have w:∀k∈A.cs,k.wy∈A.cs.map (·.wy):=λk hk=>dz.mpr ⟨k,hk,rfl⟩;refine⟨λz=>n1 (z ▸ by simp),λz=>n1 (z ▸ by simp),λz=>n1 (z ▸ by simp),λz=>n2 (z ▸ by simp),λz=>n2 (z ▸ by simp),λz=>n3 (z ▸ by simp),λk hk=>⟨λz=>n1 ?_,λz=>n2 ?_,λz=>n3 ?_,λz=>n4 ?_⟩⟩
 .rw[<-z];exact dC _ (dC _ (dC _ (w k hk)))
 .rw[<-z];exact dC _ (dC _ (w k hk))
 .rw[<-z];exact dC _ (w k hk)
 .rw[<-z];exact w k hk
def pk.og{a:Ad}{M:Mp}{A:sX}{V:qe}(_:pk a M A V):A.ca∈A.lists/\A.le∈A.lists/\A.lo∈A.lists/\(∀k∈A.cs,k.wy∈A.lists)/\A.on∈A.lists:=by unfold sX.lists;refine⟨by simp,by simp,by simp,?_,by simp⟩;exact λk hk=>by simp;exact .inr (.inr (.inr (.inr ⟨k,hk,rfl⟩)))
def pk.oo{a:Ad}{M:Mp}{A:sX}{V:qe}(h:pk a M A V):A.ca∈A.lists++V.fo/\A.le∈A.lists++V.fo/\A.lo∈A.lists++V.fo/\(∀k∈A.cs,k.wy∈A.lists++V.fo)/\A.on∈A.lists++V.fo:=by obtain⟨h1,h2,h3,h4,h5⟩:=h.og;exact⟨fj _ h1,fj _ h2,fj _ h3,λk hk=>fj _ (h4 k hk),fj _ h5⟩
def qD(A:sX)(M:Mp)(A':sX)(M':Mp):Prop:=(∀x c,x∉A.foot->M x=some c->M' x=some c)/\(∀x∈A'.foot,x∈A.foot\/M x=none)/\(∀(i:Nat) k,A.cs[i]?=some k->A'.cs[i]?=some k)/\∀x c,M x=some c->∃d,M' x=some d
def DW{M:Mp}{p y:Addr}{c d:uo}(h:M y=some d):∃e,oX M p c y=some e:=by
 by_cases z:y=p
 .exact⟨c,by rw[z];exact pC⟩
 .exact⟨d,rD.put y d z h⟩
def qD.refl{A:sX}{M:Mp}:qD A M A M:=⟨λ_ _ _ h=>h,λ_ h=>.inl h,λ_ _ h=>h,λ_ c h=>⟨c,h⟩⟩
def qD.trans{A A1 A2:sX}{M M1 M2:Mp}(s:qD A M A1 M1)(u:qD A1 M1 A2 M2):qD A M A2 M2:=by
 refine⟨λx c n h=>u.1 x c (λz=>?_) (s.1 x c n h),λx hx=>?_,λi k h=>u.2.2.1 i k (s.2.2.1 i k h),λx c h=>(s.2.2.2 x c h).elim λd e=>u.2.2.2 x d e⟩
 .rcases s.2.1 x z with y|y
  .exact n y
  .rw[y]at h;cases h
 .rcases u.2.1 x hx with z|z
  .exact s.2.1 x z
  .by_cases y:x∈A.foot
   .exact .inl y
   .refine .inr ?_;cases e:M x with
    | none=>rfl
    | some c=>rw[s.1 x c y e]at z;cases z
def qD.keep{A:sX}{M:Mp}{x:Addr}{c:uo}(h:x∈A.foot)(k:rD x M (oX M x c)):qD A M A (oX M x c):=⟨λy c n e=>k y c (λz=>n (z ▸ h)) e,λ_ h=>.inl h,λ_ _ h=>h,λ_ _ h=>DW h⟩
def qD.sub{A:sX}{M M':Mp}(s:qa M M'):qD A M A M':=⟨λy c _ e=>s y c e,λ_ h=>.inl h,λ_ _ h=>h,λx c h=>⟨c,s x c h⟩⟩
def sX.mL(A:sX):A.b∈A.foot/\A.nx∈A.foot/\A.ca∈A.foot/\A.le∈A.foot/\A.lo∈A.foot/\(∀k∈A.cs,k.p∈A.foot)/\∀k∈A.cs,k.wy∈A.foot:=by unfold sX.foot sX.lists;exact⟨by simp,by simp,by simp,by simp,by simp,λk hk=>by simp;exact .inr (.inr (.inr (.inr (.inr (.inr (.inr ⟨k,hk,rfl⟩)))))),λk hk=>by simp;exact .inr (.inr (.inr (.inr (.inr (.inr (.inl ⟨k,hk,rfl⟩))))))⟩
def sX.nG(A:sX){x:Addr}(h:x∈A.lists):x∈A.foot:=by unfold sX.foot;exact dC _ (dC _ (dU.mpr (.inl h)))
variable {M M1:Mp}{A:sX}{V:qe}
def DD{α:Type}{l:List α}{i j:Nat}{x y:α}(h:(l.set i x)[j]?=some y):(j=i/\y=x/\i<l.length)\/(j≠i/\l[j]?=some y):=by
 by_cases z:j=i
 .subst z;by_cases hl:j<l.length
  .rw[eK hl]at h;exact .inl ⟨rfl,(df h).symm,hl⟩
  .rw[gC (by rw[ii];omega)]at h;cases h
 .rw[eP (dM z)]at h;exact .inr ⟨z,h⟩
def Ek{α β:Type}{f:α->β}{l:List α}{i j:Nat}{x y:α}(nd:(l.map f).Nodup)(h1:l[i]?=some x)(h2:l[j]?=some y)(e:f x=f y):i=j:=by
 have e1:(l.map f)[i]?=some (f x):=by rw[dA,h1];rfl
 have e2:(l.map f)[j]?=some (f y):=by rw[dA,h2];rfl
 obtain⟨l1,q1⟩:=cV.mp e1;obtain⟨l2,q2⟩:=cV.mp e2;exact(lA nd).mp (q1.trans (e.trans q2.symm))
def pk.nw(h:pk a M A V):(A.cs.map (·.wy)).Nodup:=(dP.mp (dP.mp (dP.mp (dP.mp h.nl).2).2).2).2
def pk.oE(h:pk a M A V):(A.cs.map (·.p)).Nodup/\∀k∈A.cs,k.p≠A.b:=⟨(dP.mp h.np).2,λk hk z=>(dP.mp h.np).1 (z ▸ dz.mpr ⟨k,hk,rfl⟩)⟩
def pk.oa(h:pk a M A V){es:List Ev}:pk a (oX M A.lo (.lst (es.map Ev.d))) A {V with log:=es}/\qD A M A (oX M A.lo (.lst (es.map Ev.d))):=by have kp:rD A.lo M (oX M A.lo (.lst (es.map Ev.d))):=.put;obtain⟨n1,n2,n3,n4,n5,n6,nw⟩:=h.ne;exact⟨⟨kp _ _ (dM (pE h.lo h.at_)) h.at_,kp.lst n3 h.ca,kp.lst n5 h.le,kp.dk (ux h.nx h.lo) h.nx,kp.lst n6 h.on,oW,h.len,λi k c e1 e2=>(h.cs i k c e1 e2).nI kp h.lo h.oo.2.2.1 (nw k (qB e1)).2.2.2,h.nl,h.np,wk h.fo⟩,.keep A.mL.2.2.2.2.1 kp⟩
def pk.oi(h:pk a M A V){es:List rC}:pk a (oX M A.le (.lst (es.map rC.d))) A {V with mJ:=es}/\qD A M A (oX M A.le (.lst (es.map rC.d))):=by have kp:rD A.le M (oX M A.le (.lst (es.map rC.d))):=.put;obtain⟨n1,n2,n3,n4,n5,n6,nw⟩:=h.ne;exact⟨⟨kp _ _ (dM (pE h.le h.at_)) h.at_,kp.lst n1 h.ca,oW,kp.dk (ux h.nx h.le) h.nx,kp.lst (dM n4) h.on,kp.lst (dM n5) h.lo,h.len,λi k c e1 e2=>(h.cs i k c e1 e2).nI kp h.le h.oo.2.1 (nw k (qB e1)).2.1,h.nl,h.np,wk h.fo⟩,.keep A.mL.2.2.2.1 kp⟩
def pk.oz(h:pk a M A V){bs:List Bool}:pk a (oX M A.on (.lst (bs.map D.bl))) A {V with on:=bs}/\qD A M A (oX M A.on (.lst (bs.map D.bl))):=by have kp:rD A.on M (oX M A.on (.lst (bs.map D.bl))):=.put;obtain⟨n1,n2,n3,n4,n5,n6,nw⟩:=h.ne;exact⟨⟨kp _ _ (dM (pE h.on h.at_)) h.at_,kp.lst n2 h.ca,kp.lst n4 h.le,kp.dk (ux h.nx h.on) h.nx,oW,kp.lst (dM n6) h.lo,h.len,λi k c e1 e2=>(h.cs i k c e1 e2).nI kp h.on h.oo.2.2.2.2 (nw k (qB e1)).2.2.1,h.nl,h.np,wk h.fo⟩,.keep (A.nG h.og.2.2.2.2) kp⟩
def pk.ou(h:pk a M A V){ps:List (Str×Int)}:pk a (oX M A.nx (.dk (sI ps))) A {V with ps:=ps}/\qD A M A (oX M A.nx (.dk (sI ps))):=by have kp:rD A.nx M (oX M A.nx (.dk (sI ps))):=.put;exact⟨⟨kp _ _ (dM (Bk h.nx h.at_)) h.at_,kp.lst (dM (ux h.nx h.ca)) h.ca,kp.lst (dM (ux h.nx h.le)) h.le,CO pC,kp.lst (dM (ux h.nx h.on)) h.on,kp.lst (dM (ux h.nx h.lo)) h.lo,h.len,λi k c e1 e2=>(h.cs i k c e1 e2).oF kp h.nx,h.nl,h.np,wk h.fo⟩,.keep A.mL.2.1 kp⟩
def pk.putT(h:pk a M A V){t:Int}:pk a (oX M A.b (.ins a.c (sU (.ref V.p) V.h t A.ca A.le A.nx A.on A.lo))) A {V with t:=t}/\qD A M A (oX M A.b (.ins a.c (sU (.ref V.p) V.h t A.ca A.le A.nx A.on A.lo))):=by have kp:rD A.b M (oX M A.b (.ins a.c (sU (.ref V.p) V.h t A.ca A.le A.nx A.on A.lo))):=.put;exact⟨⟨pC,kp.lst (pE h.ca h.at_) h.ca,kp.lst (pE h.le h.at_) h.le,kp.dk (Bk h.nx h.at_) h.nx,kp.lst (pE h.on h.at_) h.on,kp.lst (pE h.lo h.at_) h.lo,h.len,λi k c e1 e2=>(h.cs i k c e1 e2).nO kp h.at_ (h.oE.2 k (qB e1)),h.nl,h.np,wk h.fo⟩,.keep A.mL.1 kp⟩
def pk.nQ(h:pk a M A V){i:Nat}{k:qS}{c c':oS}{ad md:Addr}(e1:A.cs[i]?=some k)(e2:V.calls[i]?=some c)(ew:c'.way=c.way)(la:oy M ad=some (c'.at_.map D.str))(lm:oy M md=some (c'.ms.map D.str))(na:ad∉A.lists++V.fo)(nm:md∉A.lists++V.fo):
  pk a (oX M k.p (.ins a.e (qO c' k.wy ad md))) A {V with calls:=V.calls.set i c'}/\qD A M A (oX M k.p (.ins a.e (qO c' k.wy ad md))):=by
 have kp:rD k.p M (oX M k.p (.ins a.e (qO c' k.wy ad md))):=.put;obtain⟨_,_,h1,h2,_⟩:=h.cs i k c e1 e2;refine⟨⟨kp _ _ (dM (h.oE.2 k (qB e1))) h.at_,kp.lst (pE h.ca h1) h.ca,kp.lst (pE h.le h1) h.le,kp.dk (Bk h.nx h1) h.nx,kp.lst (pE h.on h1) h.on,kp.lst (pE h.lo h1) h.lo,by rw[h.len,ii],λj k' d f1 f2=>?_,h.nl,h.np,wk h.fo⟩,.keep (A.mL.2.2.2.2.2.1 k (qB e1)) kp⟩;rcases DD f2 with⟨rfl,rfl,_⟩|⟨hj,f2⟩
 .rw[e1]at f1;cases f1;exact⟨ad,md,pC,by rw[ew];exact kp.lst (pE h2 h1) h2,kp.lst (pE la h1) la,kp.lst (pE lm h1) lm,na,nm⟩
 .exact(h.cs j k' d f1 f2).nO kp h1 λz=>hj (Ek h.oE.1 f1 e1 z)
def pk.nW(h:pk a M A V){i:Nat}{k:qS}{c:oS}{ws:List Str}(e1:A.cs[i]?=some k)(e2:V.calls[i]?=some c):
  pk a (oX M k.wy (.lst (ws.map D.str))) A {V with calls:=V.calls.set i {c with way:=ws}}/\qD A M A (oX M k.wy (.lst (ws.map D.str))):=by
 have kp:rD k.wy M (oX M k.wy (.lst (ws.map D.str))):=.put;obtain⟨ad,md,h1,h2,h3,h4,h5,h6⟩:=h.cs i k c e1 e2;obtain⟨n1,n2,n3,n4,n5,n6,nw⟩:=h.ne;obtain⟨w1,w2,w3,w4⟩:=nw k (qB e1);have kL:=h.oo.2.2.2.1 k (qB e1);refine⟨⟨kp _ _ (dM (pE h2 h.at_)) h.at_,kp.lst (dM w1) h.ca,kp.lst (dM w2) h.le,kp.dk (ux h.nx h2) h.nx,kp.lst (dM w3) h.on,kp.lst (dM w4) h.lo,by rw[h.len,ii],λj k' d f1 f2=>?_,h.nl,h.np,wk h.fo⟩,.keep (A.mL.2.2.2.2.2.2 k (qB e1)) kp⟩;rcases DD f2 with⟨rfl,rfl,_⟩|⟨hj,f2⟩
 .rw[e1]at f1;cases f1;exact⟨ad,md,kp _ _ (dM (pE h2 h1)) h1,oW,kp.lst (λz=>h5 (z ▸ kL)) h3,kp.lst (λz=>h6 (z ▸ kL)) h4,h5,h6⟩
 .exact(h.cs j k' d f1 f2).nI kp h2 kL λz=>hj (Ek h.nw f1 e1 z)
noncomputable def sX.add(A:sX)(k:qS):sX:={A with cs:=A.cs++[k]}
def zC(A:sX)(k:qS):(A.add k).lists=A.lists++[k.wy]:=by unfold sX.add sX.lists;rw[dJ];rfl
def pk.dom(h:pk a M A V):(∀x∈A.lists,∃ds,oy M x=some ds)/\∀x∈A.foot,∃c,M x=some c:=by
 have hc:∀k∈A.cs,(∃ds,oy M k.wy=some ds)/\∃c,M k.p=some c:=λk hk=>by
  obtain⟨i,hi,e⟩:=fE hk;have e1:A.cs[i]?=some k:=by rw[cT hi,e]
  have WZ:i<V.calls.length:=by rw[<-h.len];exact hi
  have e2:V.calls[i]?=some V.calls[i]:=cT WZ;obtain⟨ad,md,h1,h2,_⟩:=h.cs i k _ e1 e2;exact⟨⟨_,h2⟩,_,h1⟩
 have hl:∀x∈A.lists,∃ds,oy M x=some ds:=λx hx=>by
  unfold sX.lists at hx;simp only[c9,dz]at hx;rcases hx with rfl|rfl|rfl|rfl|⟨k,hk,rfl⟩
  .exact⟨_,h.ca⟩
  .exact⟨_,h.le⟩
  .exact⟨_,h.on⟩
  .exact⟨_,h.lo⟩
  .exact(hc k hk).1
 refine⟨hl,λx hx=>?_⟩;unfold sX.foot at hx;simp only[c9,dU,dz]at hx;rcases hx with rfl|rfl|hx|⟨k,hk,rfl⟩
 .exact⟨_,h.at_⟩
 .exact⟨_,yG h.nx⟩
 .obtain⟨ds,e⟩:=hl x hx;exact⟨_,pS e⟩
 .exact(hc k hk).2
def pk.nM(h:pk a M A V){x:Addr}(hx:M x=none):x∉A.lists:=λz=>by obtain⟨ds,e⟩:=h.dom.1 x z;have:=pS e;rw[hx]at this;cases this
def pk.mY(h:pk a M A V){x:Addr}(hx:M x=none):x∉A.lists++V.fo:=λz=>by
 rcases dU.mp z with z|z
 .exact h.nM hx z
 .obtain⟨c,e⟩:=h.fo x z;rw[hx]at e;cases e
def pk.nB(h:pk a M A V){x:Addr}(hx:M x=none):x∉A.foot:=λz=>by obtain⟨ds,e⟩:=h.dom.2 x z;rw[hx]at e;cases e
def pk.nR(h:pk a M A V)(s:qa M M1){p wy ad md:Addr}{c:oS}(hp:M p=none)(hw:M wy=none)(ha:M ad=none)(hm:M md=none)(h1:M1 p=some (.ins a.e (qO c wy ad md)))(h2:oy M1 wy=some (c.way.map D.str))(h3:oy M1 ad=some (c.at_.map D.str))(h4:oy M1 md=some (c.ms.map D.str))(n1:ad≠wy)(n2:md≠wy):
  pk a (oX M1 A.ca (.lst ((A.cs.map λk=>D.ref k.p)++[.ref p]))) (A.add ⟨p,wy⟩) {V with calls:=V.calls++[c]}/\qD A M (A.add ⟨p,wy⟩) (oX M1 A.ca (.lst ((A.cs.map λk=>D.ref k.p)++[.ref p]))):=by
 have h':=h.sub s;have kp:rD A.ca M1 (oX M1 A.ca (.lst ((A.cs.map λk=>D.ref k.p)++[.ref p]))):=.put;obtain⟨m1,m2,m3,m4,m5,m6,nw⟩:=h.ne;have wL:wy∉A.lists:=h.nM hw;have cL:=h.oo.1;have nl':∀x,x∉A.lists++V.fo->x≠wy->x∉(A.add ⟨p,wy⟩).lists++V.fo:=λx h1 h2=>by
  rw[zC,dU,dU,dg]
  rintro ((z|z)|z)
  .exact h1 (fj _ z)
  .exact h2 z
  .exact h1 (eA _ z)
 have Wx:∀x c,M x=some c->x≠wy:=λx c e z=>by rw[z,hw]at e;cases e
 refine⟨⟨kp _ _ (dM (pE h'.ca h'.at_)) h'.at_,?_,kp.lst (dM m1) h'.le,kp.dk (ux h'.nx h'.ca) h'.nx,kp.lst (dM m2) h'.on,kp.lst (dM m3) h'.lo,?_,λi k d e1 e2=>?_,?_,?_,wk h'.fo⟩,λx d n e=>kp x d (λz=>n (z ▸ A.mL.2.2.1)) (s x d e),λx hx=>?_,λi k e=>by show(A.cs++[(⟨p,wy⟩:qS)])[i]?=some k;rw[eI (cV.mp e).1];exact e,λx d e=>DW (s x d e)⟩
 .show oy _ A.ca=some ((A.cs++[(⟨p,wy⟩:qS)]).map λk=>D.ref k.p);rw[dJ];exact oW
 .show(A.cs++[(⟨p,wy⟩:qS)]).length=(V.calls++[c]).length;rw[cU,cU,h.len];rfl
 .have e1:(A.cs++[(⟨p,wy⟩:qS)])[i]?=some k:=e1;have e2:(V.calls++[c])[i]?=some d:=e2;by_cases hi:i<A.cs.length
  .rw[eI hi]at e1;rw[eI (by rw[<-h.len];exact hi)]at e2;obtain⟨ad',md',g1,g2,g3,g4,g5,g6⟩:=(h.cs i k d e1 e2);refine⟨ad',md',kp _ _ (λz=>by have:=s _ _ g1;rw[z,pS h'.ca]at this;cases this) (s _ _ g1),kp.lst (nw k (qB e1)).1 (s.lst g2),kp.lst (λz=>g5 (z ▸ cL)) (s.lst g3),kp.lst (λz=>g6 (z ▸ cL)) (s.lst g4),nl' _ g5 (Wx _ _ (pS g3)),nl' _ g6 (Wx _ _ (pS g4))⟩
  .have XO:i=A.cs.length:=by have:=(cV.mp e1).1;rw[cU,dH]at this;omega
   subst XO;rw[eE (de _)]at e1;rw[h.len,eE (de _)]at e2;simp only[h9,iw,jl]at e1 e2;subst e1 e2;have q1:p≠A.ca:=λz=>by rw[z,pS h'.ca]at h1;cases h1
   have q2:wy≠A.ca:=λz=>wL (z ▸ h.og.1);exact⟨ad,md,kp p _ q1 h1,kp.lst (a:=wy) q2 h2,kp.lst (λz=>h.mY ha (z ▸ cL)) h3,kp.lst (λz=>h.mY hm (z ▸ cL)) h4,nl' _ (h.mY ha) n1,nl' _ (h.mY hm) n2⟩
 .rw[zC];refine fN.mpr ⟨h.nl,dP.mpr ⟨dB,eG⟩,λx hx y hy=>?_⟩;rw[dg]at hy;subst hy;exact λz=>wL (z ▸ hx)
 .show(A.b::(A.cs++[(⟨p,wy⟩:qS)]).map (·.p)).Nodup;rw[dJ,<-List.cons_append];refine fN.mpr ⟨h.np,dP.mpr ⟨dB,eG⟩,λx hx y hy=>?_⟩;rw[dR,hU,dg]at hy;subst hy;refine λz=>h.nB hp (z ▸ ?_);rcases c9.mp hx with y|y
  .rw[y];exact A.mL.1
  .obtain⟨k,hk,rfl⟩:=dz.mp y;exact A.mL.2.2.2.2.2.1 k hk
 .unfold sX.foot at hx;rw[zC]at hx;have hx:x∈A.b::A.nx::(A.lists++[wy]++(A.cs++[(⟨p,wy⟩:qS)]).map (·.p)):=hx;simp only[c9,dU,dJ,dR,hU,dB,eU]at hx;unfold sX.foot;simp only[c9,dU];rcases hx with z|z|(z|z)|(z|z)
  .exact .inl (.inl z)
  .exact .inl (.inr (.inl z))
  .exact .inl (.inr (.inr (.inl z)))
  .exact .inr (by rw[z];exact hw)
  .exact .inl (.inr (.inr (.inr z)))
  .exact .inr (by rw[z];exact hp)
def pk.nU{a:Ad}{M:Mp}{A:sX}{V:qe}{p:Addr}{es:List rC}(h:pk a M A V)(hp:M p=none):
  pk a (oX (oX M p (.lst (es.map rC.d))) A.b (.ins a.c (sU (.ref V.p) V.h V.t A.ca p A.nx A.on A.lo))) {A with le:=p} {V with mJ:=es}/\qD A M {A with le:=p} (oX (oX M p (.lst (es.map rC.d))) A.b (.ins a.c (sU (.ref V.p) V.h V.t A.ca p A.nx A.on A.lo))):=by
 have t:=qa.new (c:=.lst (es.map rC.d)) hp;have lp:=@oW M p (es.map rC.d);have h1:=h.sub t;have np:p∉A.lists:=h.nM hp;have nf:p∉A.foot:=h.nB hp;have Wx:∀x c,M x=some c->x≠p:=λx c e z=>by rw[z,hp]at e;cases e
 generalize oX M p (.lst (es.map rC.d))=M1 at t lp h1 ⊢;have kp:rD A.b M1 (oX M1 A.b (.ins a.c (sU (.ref V.p) V.h V.t A.ca p A.nx A.on A.lo))):=.put;have sub:∀x,x∉A.lists++V.fo->x≠p->x∉({A with le:=p}:sX).lists++V.fo:=λx h1 h2 z=>by
  rcases dU.mp z with z|z
  rotate_left
  .exact h1 (eA _ z)
  have h1:x∉A.lists:=λy=>h1 (fj _ y);unfold sX.lists at h1 z;simp only[c9,fJ]at h1 z;rcases z with z|z|z|z|z
  .exact h1.1 z
  .exact h2 z
  .exact h1.2.2.1 z
  .exact h1.2.2.2.1 z
  .exact h1.2.2.2.2 z
 refine⟨⟨pC,kp.lst (pE h1.ca h1.at_) h1.ca,kp.lst (pE lp h1.at_) lp,kp.dk (Bk h1.nx h1.at_) h1.nx,kp.lst (pE h1.on h1.at_) h1.on,kp.lst (pE h1.lo h1.at_) h1.lo,h.len,λi k c e1 e2=>?_,?_,h.np,wk h1.fo⟩,λx c n e=>kp x c (λz=>n (z ▸ A.mL.1)) (t x c e),λx hx=>?_,λi k e=>e,λx d e=>DW (t x d e)⟩
 .obtain⟨ad,md,g1,g2,g3,g4,g5,g6⟩:=(h.cs i k c e1 e2);obtain⟨ad',md',f1,f2,f3,f4,f5⟩:=((h.cs i k c e1 e2).sub t).nO kp h1.at_ (h.oE.2 k (qB e1));have q1:=kp _ _ (λz=>h.oE.2 k (qB e1) z) (t _ _ g1);exact⟨ad,md,q1,f2,kp.lst (pE (t.lst g3) h1.at_) (t.lst g3),kp.lst (pE (t.lst g4) h1.at_) (t.lst g4),sub _ g5 (Wx _ _ (pS g3)),sub _ g6 (Wx _ _ (pS g4))⟩
 .have n:=h.nl;unfold sX.lists at n np ⊢;simp only[c9,fJ]at np;simp only[dP,c9,fJ]at n ⊢;exact⟨⟨λz=>np.1 z.symm,n.1.2⟩,⟨np.2.2.1,np.2.2.2.1,np.2.2.2.2⟩,n.2.2⟩
 .by_cases z:x=p
  .exact .inr (z ▸ hp)
  .refine .inl ?_;unfold sX.foot sX.lists at hx ⊢;simp only[c9,dU]at hx ⊢;rcases hx with y|y|(y|y|y|y|y)|y
   .exact .inl y
   .exact .inr (.inl y)
   .exact .inr (.inr (.inl (.inl y)))
   .exact absurd y z
   .exact .inr (.inr (.inl (.inr (.inr (.inl y)))))
   .exact .inr (.inr (.inl (.inr (.inr (.inr (.inl y))))))
   .exact .inr (.inr (.inl (.inr (.inr (.inr (.inr y))))))
   .exact .inr (.inr (.inr y))
def xS(x:D)(l:List D):vM (x::l) 0=some x:=by
 unfold vM;have:Fj (x::l).length 0=some 0:=by unfold Fj;rw[dY];simp
 rw[this];rfl
def xf(f:oS->Str->Bool)(a:Ad):qN:=λds M Q=>zZ λL k c x=>ds=[.ref k.p,.str x]/\rq a M L k c/\Q (.bl (f c x)) M
abbrev GF:=xf oS.hasB
abbrev yS:=xf oS.mH
abbrev Do:=xf oS.mS
abbrev yq:=xf oS.mI
abbrev vd:=xf oS.mD
abbrev Dx:=xf oS.mK
abbrev wF:=xf oS.ni
noncomputable def ND(x:Str):D->Bool
 | .str y=>!(y==x)
 | _=>false
def yV(a:Ad):qN:=λds M Q=>HL λL k c x y r=>ds=[.ref k.p,.str x]/\rq a M L k c/\c.ms.length<=100/\qX c.ms x=y::r/\Q (.str y) M
def AU(ss:List Str)(x:Str):[]++(List.filter (ND x) (ss.map D.str)).map id=(qX ss x).map D.str:=by rw[dW,iZ,gX];rfl
def zO{M:Mp}{k:Addr}{ks:List Str}{c:Str}{K:DK}(hk:oy M k=some (ks.map D.str))(h:K (.bl (hasS ks c)) M):QH false (.str c) (.ref k) M K:=by refine i' hk ⟨rfl,pW ks,?_⟩;show K (.bl (inD (.str c) (ks.map D.str))) M;rw[rM];exact h
def Vo(w x y:Str):inD (.str w) [.str x,.str y]=(w==x||w==y):=by rw[show[D.str x,D.str y]=[x,y].map D.str from rfl,rM,fW];simp only[gc,List.any_nil,kg,gW,fk];exact⟨λh=>h.imp lW lW,λh=>h.imp lW lW⟩
def Qd(G:Gl K mg a):Fq P w K mg base 1 a.bD (GF a):=by
 refine fq G.bD.toDG F5 (λr u=>⟨_,(oN (pA (oZ u (oU v0) oR)
 (oO (oV (FZ (pN u U1 (oU v0)) (rY (pN u U1 (oU v0))))))
 pb)
 (oN (pA (oZ u (oU v0) oR)
 (oO (oV (pN u U1 (oU v0))))
 pb)
 (oO (oV (sD (pN u (oU v0) (pz (rA oR oR))) (rY (pN u U1 (oU v0)))))))),?_⟩)
 rintro ds M Q ⟨L,k,c,x,rfl,⟨ad,md,h1,h2,h3,h4,_⟩,q⟩
 unfold oS.hasB at q;refine oP h1 (i' rfl ?_);refine qm (c:=c.st=="rings") (λg=>?_) (λg=>?_)
 .rw[cY g]at q;refine oP h1 (i' rfl (qm (c:=x==c.cr) (λg2=>?_) (λg2=>?_)))
  .rw[g2]at q;exact⟨M,.refl,q⟩
  .rw[show(x==c.cr)=false from dE.mpr g2,fF]at q;exact oP h1 (i' rfl (zO h3 ⟨M,.refl,q⟩))
 .rw[cW g]at q;refine oP h1 (i' rfl ?_);refine qm (c:=c.st=="waits") (λg2=>?_) (λg2=>?_)
  .rw[cY g2]at q;exact oP h1 (i' rfl ⟨M,.refl,q⟩)
  .rw[cW g2]at q;refine oP h1 (i' rfl ⟨oK rfl,rfl,rfl,?_⟩);show if inD (.str c.st) [.str "talks",.str "held"]=true then _ else _
   rw[Vo];refine qm (λg3=>?_) (λg3=>?_)
   .rw[g3,eJ]at q;exact oP h1 (i' rfl (zO h4 ⟨M,.refl,q⟩))
   .rw[show(c.st=="talks"||c.st=="held")=false from dE.mpr g3,eS]at q;exact⟨M,.refl,q⟩
def vB(G:Gl K mg a):Fq P w K mg base 1 a.V (yS a):=by
 refine fq G.V.toDG ye (λr u=>⟨_,(oO (oV (sD (pN u (oU v0) oR) (rY (pN u U1 (oU v0)))))),?_⟩)
 rintro ds M Q ⟨L,k,c,x,rfl,⟨ad,md,h1,h2,h3,h4,_⟩,q⟩
 unfold oS.mH at q;refine oP h1 (i' rfl (qm (c:=c.st=="talks") (λg=>?_) (λg=>?_)))
 .rw[g,eJ]at q;exact oP h1 (i' rfl (zO h4 ⟨M,.refl,q⟩))
 .rw[show(c.st=="talks")=false from dE.mpr g,eS]at q;exact⟨M,.refl,q⟩
def Kp(G:Gl K mg a):Fq P w K mg base 2 a.bH (Do a):=by
 refine fq G.bH.toDG Ce (λr u=>⟨_,(oN (pA (oZ u (oU v0) oR)
 (oO (oV (sD (pN u U1 (oU v0)) (rY (pN u U1 (oU v0))))))
 pb)
 (oO (oV (pG v0 G.e.toCls G.V (vB G) r (pR U1))))),?_⟩)
 rintro ds M Q ⟨L,k,c,x,rfl,hc,q⟩
 obtain⟨ad,md,h1,h2,h3,h4,_⟩:=id hc;unfold oS.mS at q;refine oP h1 (i' rfl ?_);refine qm (c:=c.st=="held") (λg=>?_) (λg=>?_)
 .rw[cY g]at q;refine oP h1 (i' rfl (i' h4 ⟨rfl,pW c.ms,?_⟩));show if inD (.str x) (c.ms.map D.str)=true then _ else _
  rw[rM];refine qm (c:=hasS c.ms x) (λg2=>?_) (λg2=>?_)
  .rw[g2,eJ]at q;refine oP h1 (i' rfl ?_);cases e:c.hd with
   | none=>rw[e]at q;exact⟨M,.refl,q⟩
   | some y=>
    rw[e]at q;refine⟨M,.refl,?_⟩;rw[show(!(some y==some x))=!(x==y)from by
     show(!(y==x))=_;rw[km]]at q
    exact q
  .rw[show hasS c.ms x=false from dE.mpr g2,eS]at q;exact⟨M,.refl,q⟩
 .rw[cW g]at q;exact oP h1 ⟨rfl,_,⟨rfl,rfl⟩,L,k,c,x,rfl,hc,M,.refl,q⟩
def Bm(G:Gl K mg a):Fq P w K mg base 1 a.X (yq a):=by
 refine fq G.X.toDG xP (λr u=>⟨_,(oO (oV (sD (pN u (oU v0) (pz (rA oR oR))) (rY (pN u U1 (oU v0)))))),?_⟩)
 rintro ds M Q ⟨L,k,c,x,rfl,⟨ad,md,h1,h2,h3,h4,_⟩,q⟩
 unfold oS.mI at q;refine oP h1 (i' rfl ⟨oK rfl,rfl,rfl,?_⟩);show if inD (.str c.st) [.str "rings",.str "waits"]=true then _ else _
 rw[Vo];refine qm (λg3=>?_) (λg3=>?_)
 .rw[g3,eJ]at q;exact oP h1 (i' rfl ⟨M,.refl,q⟩)
 .rw[show(c.st=="rings"||c.st=="waits")=false from dE.mpr g3,eS]at q;exact⟨M,.refl,q⟩
def Fw(G:Gl K mg a):Fq P w K mg base 1 a.au (vd a):=by
 refine fq G.au.toDG xZ (λr u=>⟨_,(oO (oV (sD (pN u (oU v0) oR) (rY (pN u U1 (oU v0)))))),?_⟩)
 rintro ds M Q ⟨L,k,c,x,rfl,⟨ad,md,h1,h2,h3,h4,_⟩,q⟩
 unfold oS.mD at q;refine oP h1 (i' rfl (qm (c:=c.st=="waits") (λg=>?_) (λg=>?_)))
 .rw[g,eJ]at q;exact oP h1 (i' rfl (zO h3 ⟨M,.refl,q⟩))
 .rw[show(c.st=="waits")=false from dE.mpr g,eS]at q;exact⟨M,.refl,q⟩
def Ld(G:Gl K mg a):Fq P w K mg base 2 a.bG (wF a):=by
 refine fq G.bG.toDG wn (λr u=>⟨_,(oO (oV (FZ (pG v0 G.e.toCls G.X (Bm G) r (pR U1)) (FZ (pN u U1 (oU v0)) (rY (pN u U1 (oU v0))))))),?_⟩)
 rintro ds M Q ⟨L,k,c,x,rfl,hc,q⟩
 obtain⟨ad,md,h1,h2,h3,h4,_⟩:=id hc;unfold oS.ni at q;refine oP h1 ⟨rfl,_,⟨rfl,rfl⟩,L,k,c,x,rfl,hc,qm (c:=c.mI x) (λg=>?_) (λg=>?_)⟩
 .rw[g]at q;exact⟨M,.refl,q⟩
 .rw[show c.mI x=false from dE.mpr g,fF]at q;refine oP h1 (i' rfl (i' h3 ⟨rfl,pW c.at_,?_⟩));show if inD (.str x) (c.at_.map D.str)=true then _ else _
  rw[rM];refine qm (c:=hasS c.at_ x) (λg2=>?_) (λg2=>?_)
  .rw[g2]at q;exact⟨M,.refl,q⟩
  .rw[show hasS c.at_ x=false from dE.mpr g2,fF]at q;exact oP h1 (i' rfl (zO h4 ⟨M,.refl,q⟩))
def Fu(G:Gl K mg a):Fq P w K mg base 2 a.aw (Dx a):=by
 refine fq G.aw.toDG CC (λr u=>⟨_,(oO (oV (sD (pG v0 G.e.toCls G.V (vB G) r (pR U1)) (rY (pN u (pD qc rfl G.g pX (pR (oU v0))) oQ))))),?_⟩)
 rintro ds M Q ⟨L,k,c,x,rfl,hc,q⟩
 obtain⟨ad,md,h1,h2,h3,h4,_⟩:=id hc;unfold oS.mK at q;refine oP h1 ⟨rfl,_,⟨rfl,rfl⟩,L,k,c,x,rfl,hc,qm (c:=c.mH x) (λg=>?_) (λg=>?_)⟩
 .rw[g,eJ]at q;refine oP h1 (i' rfl (i' h4 ⟨M,.refl,?_⟩));rw[cR];have:(((c.ms.length:Nat):Int)==2)=(c.ms.length==2):=by rw[fW,fk,fk];omega
  show Q (.bl (((c.ms.length:Nat):Int)==2)) M;rw[this];exact q
 .rw[show c.mH x=false from dE.mpr g,eS]at q;exact⟨M,.refl,q⟩
def FW(G:Gl K mg a):Fq P w K mg base 1 a.av (yV a):=by
 refine fq G.av.toDG yi (λr u=>⟨_,(oO (oV (pf (ql rfl (wC (ix:=[none,some 1]) (N':=["member","phone"])) (qk (oU v0)) (qg 0) (uz (oZ u v0 U1)) v0) oQ))),?_⟩)
 rintro ds M Q ⟨L,k,c,x,y,r,rfl,hc,hl,e,q⟩
 have hz:=dN;obtain⟨ad,md,h1,h2,h3,h4,_⟩:=id hc;refine oP h1 (i' rfl (i' h4 (sR (f:=id) (t:=ND x) h4 _ [] _ (by rw[cR];simp only[dD];omega) (λd hd k0 hk=>?_) (λd hd _ k0 hk=>?_) λp hp=>?_)))
 .obtain⟨y,hy,rfl⟩:=dz.mp hd;exact hk
 .obtain⟨y,hy,rfl⟩:=dz.mp hd;exact hk
 rw[AU,e];exact i' oW (i' (xS _ _) ⟨M,.new hp,q⟩)
theorem BD:∀bs:List Bool,Ah (.bl true) (bs.map D.bl)=bs.findIdx? id
 | []=>rfl
 | b::r=>by rw[dR,List.findIdx?_cons];unfold Ah;rw[BD r];cases b<;>rfl
theorem Mt(x:D):∀ds:List D,(Ah x ds).isSome=ds.any λd=>OA d x
 | []=>rfl
 | d::r=>by
  unfold Ah;rw[gc];by_cases h:OA d x=true
  .rw[cY h,h];rfl
  .rw[cW h,jk,Mt x r,show OA d x=false from dE.mpr h,fF]
theorem A6:∀bs:List Bool,(bs.map D.bl).all uE=true
 | []=>rfl
 | _::r=>by rw[dR,gp,A6 r];rfl
structure Rd(a:Ad)(M:Mp)(A:sX)(V:qe)(l:oY):Prop where
 bd:pk a M A V
 k:V.calls.length<=1000000
 pl:sE a M V.p l
 ok:rg l
 on:V.on.length=l.my.length
 ms:∀c∈V.calls,(∀x∈c.ms,x∈l.pn)/\c.ms.length<=100
def Rd.sub{a:Ad}{M M':Mp}{A:sX}{V:qe}{l:oY}(h:Rd a M A V l)(s:qa M M'):Rd a M' A V l:=⟨h.bd.sub s,h.k,h.pl.sub s,h.ok,h.on,h.ms⟩
def Lu:qN:=λds M Q=>Bj λr bs=>ds=[.ref r]/\oy M r=some (List.map D.bl bs)/\Q (OO (bs.findIdx? id)) M
def JH(f:qe->Str->D)(a:Ad):qN:=λds M Q=>Cv λA V x=>ds=[.ref A.b,.str x]/\pk a M A V/\V.calls.length<=1000000/\Q (f V x) M
noncomputable def Ss(V:qe)(x:Str):D:=.int (tY V x:Nat)
noncomputable def L9(V:qe)(x:Str):D:=OO (Dw V x)
noncomputable def zR(V:qe)(x:Str):D:=OO (vi V x)
noncomputable def Sh(V:qe)(x:Str):D:=OO (Hw V x)
noncomputable def SZ(V:qe)(x:Str):D:=.bl (zM V x)
abbrev Ds:=JH Ss
abbrev Cg:=JH L9
abbrev Aj:=JH zR
abbrev Am:=JH Sh
abbrev zD:=JH SZ
def wx(a:Ad):qN:=λds M Q=>zZ λA V l x=>ds=[.ref A.b,.str x]/\Rd a M A V l/\x∈l.pn/\Q (.bl (qU l V x)) M
def zp(a:Ad):qN:=λds M Q=>Gh λA V l c z=>ds=[.ref A.b,.str c,.str z]/\Rd a M A V l/\z∈l.nm/\∀q M',qa M M'->M q=none->oy M' q=some ((tL l V c z).map D.str)->Q (.ref q) M'
def zy(a:Ad):qN:=λds M Q=>Bj λA V=>ds=[.ref A.b]/\pk a M A V/\Q (.int ((V.h+V.t) % 24)) M
def Nw(a:Ad):qN:=λds M Q=>Gh λA V l c z=>ds=[.ref A.b,.str c,.str z]/\Rd a M A V l/\z∈l.nm/\Q (.bl (xi l V c z)) M
def ED{a:Ad}{M:Mp}{A:sX}{V:qe}(h:pk a M A V){pre post:List D}{d:D}(e:pre++d::post=A.cs.map λk=>D.ref k.p):∃k c,A.cs[pre.length]?=some k/\V.calls[pre.length]?=some c/\d=.ref k.p/\rq a M (A.lists++V.fo) k c/\V.calls.take (pre.length+1)=V.calls.take pre.length++[c]:=by
 have h1:(A.cs.map λk=>D.ref k.p)[pre.length]?=some d:=by rw[<-e];simp
 rw[dA]at h1;cases z:A.cs[pre.length]? with
 | none=>rw[z]at h1;cases h1
 | some k=>
  rw[z]at h1;have hi:pre.length<V.calls.length:=by rw[<-h.len];exact(cV.mp z).1
  have e2:V.calls[pre.length]?=some V.calls[pre.length]:=cT hi;refine⟨k,_,rfl,e2,(df h1).symm,h.cs _ _ _ z e2,?_⟩;rw[gH,e2];rfl
def wj{l:oY}{x:Str}(h:x∈l.pn):∃v,l.mO x=some v:=by
 obtain⟨p,hp,rfl⟩:=dz.mp h;unfold oY.mO;cases e:l.mw.find? λq=>decide (q.1=p.1)with
 | some v=>exact⟨v,rfl⟩
 | none=>exact absurd (gz.mp e p hp) (by simp)
def qv{ss:List Str}{x:Str}:hasS ss x=true↔x∈ss:=by unfold hasS;rw[gw];exact⟨λ⟨y,hy,e⟩=>eq_of_beq e ▸ hy,λh=>⟨x,h,fg _⟩⟩
def Jb{ss:List Str}(h:vV ss=true):ss.Nodup:=by
 have h:(sj ss).length=ss.length:=by unfold vV at h;have:=fk.mp h;omega
 suffices key:∀r:List Str,(sj r.reverse).length=r.reverse.length->r.reverse.Nodup by have:=key ss.reverse;rw[List.reverse_reverse]at this;exact this h
 intro r;induction r with
 | nil=>intro _;exact eG
 | cons k r ih=>
  intro h;rw[List.reverse_cons]at h ⊢;generalize r.reverse=l at ih h ⊢;rw[xD]at h;split at h
  .have:=HW l;rw[cU,dH]at h;omega
  .rename_i hk;rw[cU,cU,dH]at h;have h1:=ih (by omega);rw[LK]at hk;refine fN.mpr ⟨h1,by simp,λx hx y hy=>?_⟩;rw[dg.mp hy];exact λz=>hk (z ▸ hx)
def Ha{cs ks:List Str}{m:Int}(h:rS cs ks m=true):cs≠[]/\(cs.length:Int)<=m/\cs.Nodup/\∀x∈cs,x∈ks:=by unfold rS at h;simp only[dS,eB,eX]at h;obtain⟨h1,h2,h3,h4⟩:=h;refine⟨λz=>by rw[z]at h1;exact absurd h1 (by decide),h2,Jb h3,λx hx=>qv.mp (h4 x hx)⟩
def rg.of{l:oY}(ok:rg l){z:Str}(hz:z∈l.nm):(l.mv z≠[]/\(l.mv z).length<=4/\(l.mv z).Nodup/\∀x∈l.mv z,x∈l.pn)/\(z∈l.pn->l.mv z=[z]/\l.mF z="one"):=by
 have hd:=fN.mp ok.nd;have h1:z∈l.pn->l.group z=none:=λh=>gz.mpr λg hg e=>hd.2.2 z h g.1 (dz.mpr ⟨g,hg,rfl⟩) (by simpa using e:g.1=z).symm;refine⟨?_,λh=>by unfold oY.mv oY.mF;rw[h1 h];exact⟨rfl,rfl⟩⟩;unfold oY.mv;cases e:l.group z with
 | none=>
  have hp:z∈l.pn:=by
   rcases dU.mp hz with h|h
   .exact h
   .obtain⟨g,hg,rfl⟩:=dz.mp h;exact absurd (gz.mp e g hg) (by simp)
  exact⟨fC _ _,by show 1<=4;decide,dP.mpr ⟨dB,eG⟩,λx hx=>by rw[dg.mp hx];exact hp⟩
 | some g=>obtain⟨c1,c2,c3,c4⟩:=Ha (ok.go g (fD e)).mem;exact⟨c1,by show g.2.2.length<=4;omega,c3,c4⟩
def xE{a:Ad}{M:Mp}{A:sX}{V:qe}{f:oS->Str->Bool}{m x:Str}{Q:DK}{ok:Mp->Prop}(bd:pk a M A V)(hk:V.calls.length<=1000000)(mG:ok M)(hm:∀c wy ad md,(qO c wy ad md).lookup m=none)(q:∀p,M p=none->Q (.ref p) (oX M p (.lst ((V.calls.map λc=>f c x).map D.bl)))):
  uC (sW 0) AS (zU m (λC s=>C=a.e/\s=xf f a) (v3 0) (uL (v3 1) xm)) ok Q (A.cs.map λk=>D.ref k.p) [] [none,some (.str x)] M:=by
 have hz:=dN;refine EJ (A.cs.map λk=>D.ref k.p) (λpre acc δ M'=>M=M'/\acc=((V.calls.take pre.length).map λc=>f c x).map D.bl/\∃y,δ=[y,some (.str x)]) (λ_ _ _ M' j=>by rw[<-j.1];exact mG) _ [] [] _ _ rfl ?_ ⟨rfl,rfl,none,rfl⟩ ?_ ?_
 .rw[cR,bd.len];simp only[dD];omega
 .rintro pre d post e acc δ M' ⟨rfl,rfl,y,rfl⟩ k hk
  obtain⟨ka,c,e1,e2,rfl,hc,et⟩:=ED bd e;obtain⟨_,_,g1,_⟩:=id hc;refine oP g1 ⟨hm _ _ _ _,_,⟨rfl,rfl⟩,_,ka,c,x,rfl,hc,hk _ _ _ ⟨rfl,?_,_,rfl⟩⟩;rw[cU,dH,et,dJ,dJ];rfl
 .rintro acc δ M' ⟨rfl,rfl,y,rfl⟩ p hp
  rw[cR,bd.len,eW];exact q p hp
def Bf(G:Gl K mg a):Fq P w K mg base 1 a.J Lu:=by
 refine fq G.J.toDG zh (λr u=>⟨_,(oN (pA (oZ u wX v0)
 (oO (oV (wR v0 (pR wX))))
 pb)
 (oO (oV rE))),?_⟩)
 rintro ds M Q ⟨r,bs,rfl,hr,q⟩
 have ei:inD (.bl true) (bs.map D.bl)=(bs.findIdx? id).isSome:=by rw[<-BD];exact(Mt _ _).symm
 refine i' hr ⟨rfl,A6 bs,?_⟩;show if inD (.bl true) (bs.map D.bl)=true then _ else _
 rw[ei];cases e:bs.findIdx? id with
 | none=>rw[e]at q;exact⟨M,.refl,q⟩
 | some j=>rw[e]at q;exact Pm ⟨by show(oy M r).isSome=true;rw[hr];rfl,i' hr ⟨rfl,A6 bs,i' ((BD bs).trans e) ⟨M,.refl,q⟩⟩⟩
def Oz(G:Gl K mg a):Fq P w K mg base 2 a.bw (Ds a):=by
 refine fq G.bw.toDG CB (λr u=>⟨_,(oO (oV (pD qc rfl G.g pX (pR (ql rfl (wC (ix:=[none,some 1]) (N':=["call","phone"])) (qk (oU v0)) (qg 0) (uz (uu (pG v0 G.e.toCls G.bD (Qd G) r (pR U1)))) v0))))),?_⟩)
 rintro ds M Q ⟨A,V,x,rfl,bd,Wj,q⟩
 have hz:=dN;refine oP bd.at_ (i' rfl (i' bd.ca ?_));refine tK (A.cs.map λk=>D.ref k.p) (λpre acc δ M'=>M=M'/\acc.length=((V.calls.take pre.length).filter (·.hasB x)).length/\∃y,δ=[y,some (.str x)]) (λ_ _ _ M' j=>by rw[<-j.1];exact bd.ca) _ [] [] _ _ rfl ?_ ⟨rfl,rfl,none,rfl⟩ ?_ ?_
 .rw[cR,bd.len];simp only[dD];omega
 .rintro pre d post e acc δ M' ⟨rfl,ha,y,rfl⟩ k k2 hk WK
  obtain⟨ka,c,e1,e2,rfl,hc,et⟩:=ED bd e;rw[cU,dH,et,gA]at hk WK;obtain⟨_,_,g1,_⟩:=id hc;refine oP g1 ⟨rfl,_,⟨rfl,rfl⟩,_,ka,c,x,rfl,hc,?_⟩;refine qm (c:=c.hasB x) (λg=>?_) (λg=>?_)
  .refine hk _ _ _ ⟨rfl,?_,_,rfl⟩;rw[cU,cU,ha,fR (by exact g)];rfl
  .refine WK _ _ ⟨rfl,?_,_,rfl⟩;rw[cU,ha,fS (by exact g)];rfl
 .rintro acc δ M' ⟨rfl,ha,y,rfl⟩ p hp
  refine i' oW ⟨M,.new hp,?_⟩;rw[cR,bd.len,eW]at ha;rw[ha];exact q
def KH(G:Gl K mg a):Fq P w K mg base 3 a.bE (Cg a):=by
 refine fq G.bE.toDG Bt (λr u=>⟨_,(oO (oV (o9 (Bf G) r G.J (pR (ql rfl (wC (ix:=[none,some 1]) (N':=["call","phone"])) (qk (oU v0)) (qg 0) rh (pG v0 G.e.toCls G.bH (Kp G) r (pR U1))))))),?_⟩)
 rintro ds M Q ⟨A,V,x,rfl,bd,Wj,q⟩
 refine oP bd.at_ (i' rfl (i' bd.ca (xE bd Wj bd.ca (λ_ _ _ _=>rfl) λp hp=>⟨p,_,rfl,oW,M,.new hp,?_⟩)));rw[hJ];exact q
def Hj(G:Gl K mg a):Fq P w K mg base 3 a.bF (Am a):=by
 refine fq G.bF.toDG zE (λr u=>⟨_,(oO (oV (o9 (Bf G) r G.J (pR (ql rfl (wC (ix:=[none,some 1]) (N':=["call","phone"])) (qk (oU v0)) (qg 0) rh (pG v0 G.e.toCls G.X (Bm G) r (pR U1))))))),?_⟩)
 rintro ds M Q ⟨A,V,x,rfl,bd,Wj,q⟩
 refine oP bd.at_ (i' rfl (i' bd.ca (xE bd Wj bd.ca (λ_ _ _ _=>rfl) λp hp=>⟨p,_,rfl,oW,M,.new hp,?_⟩)));rw[hJ];exact q
def yc(G:Gl K mg a):Fq P w K mg base 3 a.R (Aj a):=by
 refine fq G.R.toDG zI (λr u=>⟨_,(oO (oV (o9 (Bf G) r G.J (pR (ql rfl (wC (ix:=[none,some 1]) (N':=["call","phone"])) (qk (oU v0)) (qg 0) rh (pG v0 G.e.toCls G.V (vB G) r (pR U1))))))),?_⟩)
 rintro ds M Q ⟨A,V,x,rfl,bd,Wj,q⟩
 refine oP bd.at_ (i' rfl (i' bd.ca (xE bd Wj bd.ca (λ_ _ _ _=>rfl) λp hp=>⟨p,_,rfl,oW,M,.new hp,?_⟩)));rw[hJ];exact q
def F9(G:Gl K mg a):Fq P w K mg base 3 a.bK (zD a):=by
 refine fq G.bK.toDG za (λr u=>⟨_,(oO (oV (pD (Q2 rfl) rfl G.cE RB (pR (ql rfl (wC (ix:=[none,some 1]) (N':=["call","phone"])) (qk (oU v0)) (qg 0) rh (pG v0 G.e.toCls G.au (Fw G) r (pR U1))))))),?_⟩)
 rintro ds M Q ⟨A,V,x,rfl,bd,Wj,q⟩
 refine oP bd.at_ (i' rfl (i' bd.ca (xE bd Wj bd.ca (λ_ _ _ _=>rfl) λp hp=>i' oW ?_)));rw[dZ];refine i' (xM _ _) ⟨M,.new hp,?_⟩;rw[jD];exact q
def E6(G:Gl K mg a):Fq P w K mg base 1 a.bJ (zy a):=by
 refine fq G.bJ.toDG yA (λr u=>⟨_,(oO (oV (pH (pH (oU v0) (oU v0)) oQ))),?_⟩)
 rintro ds M Q ⟨A,V,rfl,bd,q⟩
 exact oP bd.at_ (i' rfl (oP bd.at_ (i' rfl ⟨by decide,M,.refl,q⟩)))
def Fp{l:oY}{x:Str}{v:tI}(h:l.mO x=some v):vN l x=v.2.1:=by unfold vN;rw[h];rfl
def yj(G:Gl K mg a):Fq P w K mg base 3 a.T (wx a):=by
 refine fq G.T.toDG zk (λr u=>⟨_,(oO (oV (pN u (pG v0 G.c.toCls G.bw (Oz G) r (pR U1)) (pG (oU v0) G.h.toCls G.bx (B1 G) r (pR U1))))),?_⟩)
 rintro ds M Q ⟨A,V,l,x,rfl,rd,hx,q⟩
 obtain⟨ph,gr,ws,W7,pr,gd,rs,i1,_⟩:=rd.pl;obtain⟨v,hv⟩:=wj hx;refine oP rd.bd.at_ ⟨rfl,_,⟨rfl,rfl⟩,A,V,x,rfl,rd.bd,rd.k,?_⟩;refine oP rd.bd.at_ (i' rfl (oP i1 ⟨rfl,_,⟨rfl,rfl⟩,V.p,x,v,l,rfl,rd.pl,hv,?_⟩));unfold qU at q;rw[Fp hv]at q;exact⟨M,.refl,q⟩
def wZ(G:Gl K mg a):Fq P w K mg base 4 a.Q (zp a):=by
 refine fq G.Q.toDG yX (λr u=>⟨_,(oO (oV (ql rfl (wC (ix:=[none,some 1,some 0]) (N':=["phone","caller","self"])) (qk (pG (oU v0) G.h.toCls G.S (tS G) r (pR U2))) (qg 0) (uz (W3.b3 (xl (oZ u v0 U1) (wm (uu (pG U2 G.c.toCls G.T (yj G) r (pR v0))))))) v0))),?_⟩)
 rintro ds M Q ⟨A,V,l,c,z,rfl,rd,WR,q⟩
 obtain⟨ph,gr,ws,W7,pr,gd,rs,i1,_⟩:=rd.pl;obtain⟨⟨_,p4,_,pin⟩,_⟩:=rd.ok.of WR;refine oP rd.bd.at_ (i' rfl (oP i1 ⟨rfl,_,⟨rfl,rfl⟩,V.p,z,l,rfl,rd.pl,λq1 WQ=>i' oW ?_⟩));have s1:=qa.new (c:=.lst (List.map D.str (l.mv z))) WQ;have c1:=@oW M q1 (List.map D.str (l.mv z));generalize oX M q1 (.lst (List.map D.str (l.mv z)))=M1 at s1 c1 ⊢;have hz:=dN;have XH:=rd.sub s1;refine sR (f:=id) (t:=λd=>match d with|.str x=>!(x==c)&&qU l V x|_=>false) c1 _ [] _ (by rw[cR];simp only[dD];omega) (λd hd k hk=>?_) (λd hd _ k hk=>?_) λq2 Ye=>?_
 .obtain⟨x,hx,rfl⟩:=dz.mp hd;have hk:k (!(x==c)&&qU l V x) M1:=hk;cases e:x==c with
  | true=>rw[e]at hk;refine Mz (c:=!(x==c)) (by rw[e];rfl) hk
  | false=>rw[e]at hk;refine Aa (c:=!(x==c)) (by rw[e];rfl) (oP XH.bd.at_ ⟨rfl,_,⟨rfl,rfl⟩,A,V,l,x,rfl,XH,pin x hx,hk⟩)
 .obtain⟨x,hx,rfl⟩:=dz.mp hd;exact hk
 .have ef:[]++(List.filter (λd=>match d with|.str x=>!(x==c)&&qU l V x|_=>false) ((l.mv z).map D.str)).map id=(tL l V c z).map D.str:=by rw[dW,iZ,gX];rfl
  rw[ef];have t2:=qa.new (c:=.lst ((tL l V c z).map D.str)) Ye;exact⟨_,.refl,q q2 _ (s1.trans t2) (s1.none Ye) oW⟩
def D3(G:Gl K mg a):Fq P w K mg base 5 a.M (Nw a):=by
 refine fq G.M.toDG GC (λr u=>⟨_,(oO (oV (pN u (pD qc rfl G.g pX (pR (pG v0 G.c.toCls G.Q (wZ G) r (rA U1 U2)))) oQ))),?_⟩)
 rintro ds M Q ⟨A,V,l,c,z,rfl,rd,tg,q⟩
 refine oP rd.bd.at_ ⟨rfl,_,⟨rfl,rfl⟩,A,V,l,c,z,rfl,rd,tg,λq1 M1 s1 WQ e1=>i' e1 ⟨M,s1,?_⟩⟩;have e:((((tL l V c z).map D.str).length:Int)==0)=xi l V c z:=by unfold xi;rw[cR,fW,fk,List.isEmpty_iff,<-gq];omega
 show Q (.bl ((((tL l V c z).map D.str).length:Int)==0)) M;rw[e];exact q
def vU(a:Ad)(v:Wi):qN:=λds M Q=>HL λp A V l c z=>ds=[.ref p,.ref A.b,.str c,.str z]/\M p=some (.ins (v.cls a) v.nu)/\Rd a M A V l/\z∈l.nm/\Ba l.pn l.nm v/\Q (.bl (As l V c z v)) M
def PJ(a:Ad)(v:Wi):qN:=λds M Q=>zZ λp L k c=>ds=[.ref p,.ref (qS.p k)]/\M p=some (.ins (v.cls a) v.nu)/\rq a M L k c/\Q (.bl (FX c v)) M
def Fb:qN:=λds M Q=>Bj λx y=>ds=[x,y]/\Q (.bl false) M
def Mh(a:Ad):Addr->qN->Prop:=λC sp=>∃v:Wi,C=v.cls a/\sp=vU a v
noncomputable def J0(a:Ad):Wi->qN
 | .silent x y n=>PJ a (.silent x y n)
 | _=>Fb
def F7(a:Ad):Addr->qN->Prop:=λC sp=>∃v:Wi,C=v.cls a/\sp=J0 a v
def zx(a:Ad):qN:=λds M Q=>HL λp x y f l h=>ds=[.ref p,.int h]/\M p=some (.ins a.n (Wi.night x y f l).nu)/\Q (.bl (EA f l h)) M
def zb(a:Ad):qN:=λds M Q=>HL λp x q l r ms=>ds=[.ref p,.ref q,.ref r]/\M p=some (.ins a.o (Wi.breaks x).nu)/\sE a M q l/\oy M r=some (List.map D.str ms)/\ms.length<=100/\x∈l.pn/\(∀m∈ms,m∈l.pn)/\Q (.bl (G8 l x ms)) M
def HV{l:oY}{x:Str}{v:tI}(h:l.mO x=some v):ve l x=v.2.2:=by unfold ve;rw[h];rfl
def qP{ks:List qS}{i:Nat}{k:qS}(h:ks[i]?=some k):vM (ks.map λk=>D.ref k.p) (i:Nat)=some (.ref k.p):=uF (by rw[dA,h];rfl)
def Ly(ds:List D):L3.sZ ds (some (-1:Int)) none=ds.drop (ds.length - 1):=by
 unfold L3.sZ;have e:HT.sy ds.length 0 (some (-1:Int))=ds.length - 1:=by show(if (-1:Int)<0 then((-1:Int)+(ds.length:Int)).toNat else min (-1:Int).toNat ds.length)=ds.length - 1;rw[cY (by decide)];omega
 rw[e];show(ds.drop (ds.length - 1)).take (ds.length - (ds.length - 1))=_;exact gZ (by rw[gf];exact de _)
theorem CL{α:Type}:∀w:List α,w.drop (w.length - 1)=w.getLast?.toList
 | []=>rfl
 | [_]=>rfl
 | _::z::r=>by rw[List.getLast?_cons_cons,<-CL (z::r)];rfl
def MW{M:Mp}{p q:Addr}{w:List Str}{x:Str}(h1:oy M p=some ((w.map D.str).drop ((w.map D.str).length - 1)))(h2:oy M q=some [D.str x]):yw M 9 (.ref p) (.ref q)=some (w.getLast?==some x):=by
 have e:(w.map D.str).drop ((w.map D.str).length - 1)=(w.getLast?.toList).map D.str:=by rw[cR,<-ko];rw[CL]
 rw[e]at h1;show(oy M p).bind (λi=>(oy M q).bind λj=>if i.length=j.length then rX (yw M 8) i j else some false)=_;rw[h1,h2];cases w.getLast? with
 | none=>rfl
 | some y=>show((some (y==x)).bind λp=>(some true).map λq=>p&&q)=some (some y==some x);show some ((y==x)&&true)=_;rw[Bool.and_true];rfl
def Kf(G:Gl K mg a)(x:Str)(ns:List Str):Fq P w K mg base 6 a.aC (vU a (.bar x ns)):=by
 refine fq G.aC.toDG Fz (λr u=>⟨_,(oO (oV (sD (pN u U2 (oU v0)) (rY (pN u U3 (oU v0)))))),?_⟩)
 rintro ds M Q ⟨p,A,V,l,c,z,rfl,hp,_,_,_,q⟩
 refine oP hp ?_;refine qm (c:=c==x) (λg=>oP hp ⟨rfl,pW ns,M,.refl,?_⟩) (λg=>⟨M,.refl,?_⟩)
 .show Q (.bl (inD (.str z) (ns.map D.str))) M;rw[rM];dsimp only[As]at q;rw[g,eJ]at q;exact q
 .dsimp only[As]at q;rw[show(c==x)=false from dE.mpr g,eS]at q;exact q
def MD(G:Gl K mg a)(x:Str)(ns:List Str):Fq P w K mg base 6 a.aD (vU a (.shut x ns)):=by
 refine fq G.aD.toDG ER (λr u=>⟨_,(oO (oV (sD (pN u U3 (oU v0)) (rY (pN u U2 (oU v0)))))),?_⟩)
 rintro ds M Q ⟨p,A,V,l,c,z,rfl,hp,_,_,_,q⟩
 refine oP hp ?_;refine qm (c:=z==x) (λg=>oP hp ⟨rfl,pW ns,M,.refl,?_⟩) (λg=>⟨M,.refl,?_⟩)
 .show Q (.bl (inD (.str c) (ns.map D.str))) M;rw[rM];dsimp only[As]at q;rw[g,eJ]at q;exact q
 .dsimp only[As]at q;rw[show(z==x)=false from dE.mpr g,eS]at q;exact q
def LU(G:Gl K mg a)(x y:Str):Fq P w K mg base 6 a.aE (vU a (.always x y)):=by
 refine fq G.aE.toDG BK (λr u=>⟨_,(oO (oV (pN u U3 (oU v0)))),?_⟩)
 rintro ds M Q ⟨p,A,V,l,c,z,rfl,hp,_,_,_,q⟩
 exact oP hp ⟨M,.refl,q⟩
def Fx(G:Gl K mg a):Fq P w K mg base 1 a.bI (zx a):=by
 refine fq G.bI.toDG yF (λr u=>⟨_,(oN (pA (oZ u (oU v0) (oU v0))
 (oO (oV (tW u (oU v0) U1 (oU v0))))
 pb)
 (oO (oV (FZ (pN u U1 (oU v0)) (rY (pN u U1 (oU v0))))))),?_⟩)
 rintro ds M Q ⟨p,x,y,f,l,h,rfl,hp,q⟩
 refine oP hp (oP hp ?_);show if (decide (f<l))=true then _ else _
 unfold EA at q;by_cases z:f<l
 .rw[cY z]at q;refine Aa (dQ z) (oP hp ?_);refine qm (c:=decide (f<=h)) (λg=>?_) (λg=>?_)
  .rw[g,eJ]at q;exact oP hp ⟨M,.refl,q⟩
  .rw[show decide (f<=h)=false from dE.mpr g,eS]at q;exact⟨M,.refl,q⟩
 .rw[cW z]at q;refine Mz (eO z) (oP hp ?_);refine qm (c:=decide (h>=f)) (λg=>?_) (λg=>?_)
  .rw[g,hW]at q;exact⟨M,.refl,q⟩
  .rw[show decide (h>=f)=false from dE.mpr g,fF]at q;exact oP hp ⟨M,.refl,q⟩
def Mn(G:Gl K mg a)(x y:Str)(f m:Int):Fq P w K mg base 6 a.aF (vU a (.night x y f m)):=by
 refine fq G.aF.toDG Cn (λr u=>⟨_,(oO (oV (sD (pN u U3 (oU v0)) (rY (pG v0 G.n.toCls G.bI (Fx G) r (pR (xH U1 G.c.toCls G.bJ (E6 G) r))))))),?_⟩)
 rintro ds M Q ⟨p,A,V,l,c,z,rfl,hp,rd,_,_,q⟩
 dsimp only[As]at q;refine oP hp ?_;refine qm (c:=z==x) (λg=>?_) (λg=>?_)
 .rw[g,eJ]at q;exact oP hp ⟨rfl,_,⟨rfl,rfl⟩,oP rd.bd.at_ ⟨rfl,_,⟨rfl,rfl⟩,A,V,rfl,rd.bd,p,x,y,f,m,_,rfl,hp,M,.refl,q⟩⟩
 .rw[show(z==x)=false from dE.mpr g,eS]at q;exact⟨M,.refl,q⟩
def KW(G:Gl K mg a)(x y:Str):Fq P w K mg base 6 a.aG (vU a (.busy x y)):=by
 refine fq G.aG.toDG Dm (λr u=>⟨_,(oO (oV (sD (pN u U3 (oU v0)) (rY (o9 (D3 G) r G.M (qR U1 U2 U3)))))),?_⟩)
 rintro ds M Q ⟨p,A,V,l,c,z,rfl,hp,rd,hz,_,q⟩
 dsimp only[As]at q;refine oP hp ?_;refine qm (c:=z==x) (λg=>?_) (λg=>?_)
 .rw[g,eJ]at q;exact⟨A,V,l,c,z,rfl,rd,hz,M,.refl,q⟩
 .rw[show(z==x)=false from dE.mpr g,eS]at q;exact⟨M,.refl,q⟩
def Li(G:Gl K mg a)(x y:Str)(n:Int):Fq P w K mg base 6 a.aH (vU a (.silent x y n)):=by
 refine fq G.aH.toDG Bp (λr u=>⟨_,(oO (oV wX)),?_⟩)
 rintro ds M Q ⟨p,A,V,l,c,z,rfl,hp,rd,hz,_,q⟩
 exact⟨M,.refl,q⟩
def LN(G:Gl K mg a)(x:Str):Fq P w K mg base 6 a.aI (vU a (.wait x)):=by
 refine fq G.aI.toDG EV (λr u=>⟨_,(oN (pA (W3.b3 (xT (oZ u U3 (oU v0)) (xt (oZ u U2 (oU v0)))))
 (oO (oV wX))
 pb)
 (oO (oV (sD (o9 (D3 G) r G.M (qR U1 U2 U3)) (rY (Qq (pG U1 G.c.toCls G.bK (F9 G) r (pR U3)))))))),?_⟩)
 rintro ds M Q ⟨p,A,V,l,c,z,rfl,hp,rd,hz,_,q⟩
 dsimp only[As]at q;refine oP hp ?_;refine qm (c:=!(z==x)) (λg=>?_) (λg=>?_)
 .rw[g,hW]at q;exact⟨M,.refl,q⟩
 rw[show(!(z==x))=false from dE.mpr g,fF]at q;refine oP hp ?_;refine qm (c:=c==x) (λg=>?_) (λg=>?_)
 .rw[g]at q;exact⟨M,.refl,q⟩
 rw[cW g]at q;refine⟨A,V,l,c,z,rfl,rd,hz,?_⟩;refine qm (c:=xi l V c z) (λg=>?_) (λg=>?_)
 .rw[g,eJ]at q;exact oP rd.bd.at_ ⟨rfl,_,⟨rfl,rfl⟩,A,V,z,rfl,rd.bd,rd.k,M,.refl,q⟩
 .rw[show xi l V c z=false from dE.mpr g,eS]at q;exact⟨M,.refl,q⟩
def Fo(G:Gl K mg a):Fq P w K mg base 2 a.bL (zb a):=by
 refine fq G.bL.toDG uO (λr u=>⟨_,(oN (pj 3 uO (pG U1 G.h.toCls G.aL (yO G) r (pR (oU v0))))
 (oO (oV (pD (EG rfl) rfl G.bN Du (pR (ql rfl (wC (ix:=[none,some 1,some 3]) (N':=["member","plan","rank"])) (qk U2) (qg 0) rh (pN u (pG U1 G.h.toCls G.aL (yO G) r (pR v0)) U2))))))),?_⟩)
 rintro ds M Q ⟨p,x,q,l,r,ms,rfl,hp,pl,lr,h100,hx,hm,k⟩
 have hz:=dN;obtain⟨v,hv⟩:=wj hx;obtain⟨ph,gr,ws,W7,pr,gd,rs,i1,_⟩:=id pl;refine oP i1 ⟨rfl,_,⟨rfl,rfl⟩,oP hp (i' rfl ⟨q,x,v,l,rfl,pl,hv,?_⟩)⟩;refine i' lr (qH (f:=λd=>match d with|.str m=>.bl (decide (ve l m<ve l x))|_=>.mC) lr _ [] _ (by rw[cR];show 0+ms.length<=sizeLine;omega) (λd hd k0 hk=>?_) λp1 Xm=>?_)
 .obtain⟨m,hmm,rfl⟩:=dz.mp hd;obtain⟨u,hu⟩:=wj (hm m hmm);have hk:k0 (.bl (decide (ve l m<ve l x))) M:=hk;rw[HV hu,HV hv]at hk;exact oP i1 ⟨rfl,_,⟨rfl,rfl⟩,q,m,u,l,rfl,pl,hu,hk⟩
 .have em:[]++(ms.map D.str).map (λd=>match d with|.str m=>.bl (decide (ve l m<ve l x))|_=>.mC)=ms.map λm=>D.bl (decide (ve l m<ve l x)):=by rw[dW,dZ];rfl
  rw[em];refine i' oW (i' (xM (λm=>decide (ve l m<ve l x)) ms) ⟨M,.new Xm,?_⟩);unfold G8 at k;rw[yT];exact k
def Kx(G:Gl K mg a)(x:Str):Fq P w K mg base 6 a.aJ (vU a (.breaks x)):=by
 refine fq G.aJ.toDG uX (λr u=>⟨_,(oN (pA (W3.b3 (xT (oZ u U2 (oU v0)) (xt (oZ u U3 (oU v0)))))
 (oO (oV wX))
 pb)
 (oN (pA (W3.b3 (xT (oZ u U3 (xH (oU U1) G.h.toCls G.U (sV G) r)) (xt (vT (uu (o9 (D3 G) r G.M (qR U1 U2 U3)))))))
 (oO (oV wX))
 pb)
 (oN (pj 4 uX (pG U1 G.c.toCls G.R (yc G) r (pR U3)))
 (oN (pA (oZ u v4 rE)
 (oO (oV wX))
 pb)
 (oN (pj 5 uX (oU (pf (oU U1) v4)))
 (oO (oV (sD (pN u (pD qc rfl G.g pX (pR v5)) oQ) (rY (pG v0 G.o.toCls G.bL (Fo G) r (rA (oU U1) v5))))))))))),?_⟩)
 rintro ds M Q ⟨p,A,V,l,c,z,rfl,hp,rd,WR,hx,q⟩
 have hx:x∈l.pn:=qv.mp hx;obtain⟨ph,gr,ws,W7,pr,gd,rs,i1,_⟩:=rd.pl;have p8:=rd.ok.p8;dsimp only[As,Gj]at q;refine oP hp ?_;refine qm (c:=!(c==x)) (λh1=>?_) (λh1=>?_)
 .rw[h1,hW]at q;exact⟨M,.refl,q⟩
 rw[show(!(c==x))=false from dE.mpr h1,fF]at q;refine oP hp ?_;refine qm (c:=z==x) (λh2=>?_) (λh2=>?_)
 .rw[h2]at q;exact⟨M,.refl,q⟩
 rw[cW h2]at q;refine oP rd.bd.at_ (i' rfl (oP i1 ⟨rfl,_,⟨rfl,rfl⟩,V.p,l,rfl,rd.pl,by omega,λq1 WQ=>i' oW ⟨rfl,pW _,?_⟩⟩));have t:=qa.new (c:=.lst (l.pn.map D.str)) WQ;have Wf:=rd.sub t;generalize oX M q1 (.lst (l.pn.map D.str))=M1 at t Wf ⊢;show if (!(inD (.str z) (l.pn.map D.str)))=true then _ else _
 rw[rM];refine qm (c:=!(hasS l.pn z)) (λh3=>?_) (λh3=>?_)
 .rw[h3,hW]at q;exact⟨M,t,q⟩
 rw[show(!(hasS l.pn z))=false from dE.mpr h3,fF]at q;refine⟨A,V,l,c,z,rfl,Wf,WR,?_⟩;refine qm (c:=!(xi l V c z)) (λh4=>?_) (λh4=>?_)
 .rw[h4]at q;exact⟨M,t,q⟩
 rw[cW h4]at q;refine oP Wf.bd.at_ ⟨rfl,_,⟨rfl,rfl⟩,A,V,z,rfl,Wf.bd,Wf.k,?_⟩;cases e:vi V z with
 | none=>rw[e]at q;rw[show zR V z=.mC from by unfold zR;rw[e];rfl];exact⟨M,t,q⟩
 | some j=>
  rw[show zR V z=.int (j:Nat)from by unfold zR;rw[e];rfl];have hj:j<V.calls.length:=(iz.mp e).1;have e2:V.calls[j]?=some V.calls[j]:=cT hj;rw[e]at q;generalize V.calls[j]=k at e2;have q:Q (.bl (((V.calls[j]?).elim false λk=>(k.ms.length==2)&&G8 l x k.ms))) M:=q;rw[e2]at q;have hj:j<A.cs.length:=by rw[rd.bd.len];exact hj
  have ek:A.cs[j]?=some A.cs[j]:=cT hj;obtain⟨ad,md,f1,f2,f3,f4,_⟩:=Wf.bd.cs j _ k ek e2;refine oP Wf.bd.at_ (i' rfl (i' rfl (i' Wf.bd.ca (i' (qP ek) (oP f1 (i' rfl ?_))))));refine i' f4 ?_;have el:((((k.ms.map D.str).length:Nat):Int)==2)=(k.ms.length==2):=by rw[cR,fW,fk,fk];omega
  show if ((((k.ms.map D.str).length:Nat):Int)==2)=true then _ else _
  rw[el];have q:Q (.bl ((k.ms.length==2)&&G8 l x k.ms)) M:=q;refine qm (c:=k.ms.length==2) (λh5=>?_) (λh5=>?_)
  .rw[h5,eJ]at q;have hm:=rd.ms k (qB e2);refine oP (t _ _ hp) ⟨rfl,_,⟨rfl,rfl⟩,oP Wf.bd.at_ (i' rfl ⟨p,x,V.p,l,md,k.ms,rfl,t _ _ hp,Wf.pl,f4,hm.2,hx,hm.1,M,t,q⟩)⟩
  .rw[show(k.ms.length==2)=false from dE.mpr h5,eS]at q;exact⟨M,t,q⟩
def Mi(G:Gl K mg a):Fq P w K mg base 1 a.q Fb:=by
 refine fq G.q.toDG AY (λr u=>⟨_,(oO (oV wX)),?_⟩)
 rintro ds M Q ⟨x,y,rfl,q⟩
 exact⟨M,.refl,q⟩
def Rl(G:Gl K mg a)(x y:Str)(n:Int):Fq P w K mg base 1 a.ax (PJ a (.silent x y n)):=by
 refine fq G.ax.toDG zg (λr u=>⟨_,(oO (oV (sD (pN u (rO (oU U1) (r6 (Ee oQ)) sS) (qA (pR (oU v0)))) (rY (pN u (oU v0) (oU U1)))))),?_⟩)
 rintro ds M Q ⟨p,L,k,c,rfl,hp,⟨ad,md,h1,h2,h3,h4,_⟩,q⟩
 refine oP h1 (i' rfl (i' h2 λp1 Xm=>?_));have t1:=qa.new (c:=.lst (L3.sZ (c.way.map D.str) (some (-1:Int)) none)) Xm;have l1:oy (oX M p1 (.lst (L3.sZ (c.way.map D.str) (some (-1:Int)) none))) p1=some ((c.way.map D.str).drop ((c.way.map D.str).length - 1)):=by rw[oW,Ly]
 show zm (oX M p1 (.lst (L3.sZ (c.way.map D.str) (some (-1:Int)) none)) p) _;generalize oX M p1 (.lst (L3.sZ (c.way.map D.str) (some (-1:Int)) none))=M1 at t1 l1 ⊢;refine oP (t1 _ _ hp) ⟨oK rfl,λp2 VT=>?_⟩;have t2:=qa.new (c:=.lst [D.str x]) VT;have l2:=@oW M1 p2 [D.str x];show Option.elim (yw (oX M1 p2 (.lst [D.str x])) 9 (.ref p1) (.ref p2)) False _;generalize oX M1 p2 (.lst [D.str x])=M2 at t2 l2 ⊢;have s2:=t1.trans t2;refine i' (MW (t2.lst l1) l2) ?_;dsimp only[FX]at q;refine qm (c:=c.way.getLast?==some x) (λg=>?_) (λg=>?_)
 .rw[g,eJ]at q;exact oP (s2 _ _ hp) (oP (s2 _ _ h1) ⟨M,s2,q⟩)
 .rw[show(c.way.getLast?==some x)=false from dE.mpr g,eS]at q;exact⟨M,s2,q⟩
def RU(G:Gl K mg a):∀C sp,Mh a C sp->xo P w K mg base 6 "fits" C (MH K sp):=by
 rintro C sp ⟨v,rfl,rfl⟩
 cases v with
 | bar x ns=>exact⟨G.r.toCls,_,_,_,G.aC.mW,Kf G x ns,G.aC.b⟩
 | shut x ns=>exact⟨G.t.toCls,_,_,_,G.aD.mW,MD G x ns,G.aD.b⟩
 | always x y=>exact⟨G.w.toCls,_,_,_,G.aE.mW,LU G x y,G.aE.b⟩
 | night x y f m=>exact⟨G.n.toCls,_,_,_,G.aF.mW,Mn G x y f m,G.aF.b⟩
 | busy x y=>exact⟨G.x.toCls,_,_,_,G.aG.mW,KW G x y,G.aG.b⟩
 | silent x y n=>exact⟨G.u.toCls,_,_,_,G.aH.mW,Li G x y n,G.aH.b⟩
 | wait x=>exact⟨G.v.toCls,_,_,_,G.aI.mW,LN G x,G.aI.b⟩
 | breaks x=>exact⟨G.o.toCls,_,_,_,G.aJ.mW,Kx G x,G.aJ.b⟩
def Ts(G:Gl K mg a):∀C sp,F7 a C sp->xo P w K mg base 1 "is_due" C (MH K sp):=by
 rintro C sp ⟨v,rfl,rfl⟩
 have F:=Mi (P:=P) (w:=w) (base:=base) G;cases v with
 | silent x y n=>exact⟨G.u.toCls,_,_,_,G.ax.mW,Rl G x y n,G.ax.b⟩
 | bar _ _=>exact⟨G.r.toCls,_,_,_,G.cg,F,G.q.b⟩
 | shut _ _=>exact⟨G.t.toCls,_,_,_,G.ch,F,G.q.b⟩
 | always _ _=>exact⟨G.w.toCls,_,_,_,G.ci,F,G.q.b⟩
 | night _ _ _ _=>exact⟨G.n.toCls,_,_,_,G.cj,F,G.q.b⟩
 | busy _ _=>exact⟨G.x.toCls,_,_,_,G.ck,F,G.q.b⟩
 | wait _=>exact⟨G.v.toCls,_,_,_,G.cl,F,G.q.b⟩
 | breaks _=>exact⟨G.o.toCls,_,_,_,G.cm,F,G.q.b⟩
def HX{es pre post:List D}{d:D}(e:pre++d::post=ue 0 es):∃x,es[pre.length]?=some x/\d=.tup [.int (pre.length:Nat),x]:=by
 have h:(ue 0 es)[pre.length]?=some d:=by rw[<-e];simp
 rw[yJ]at h;cases q:es[pre.length]? with
 | none=>rw[q]at h;cases h
 | some x=>rw[q]at h;refine⟨x,rfl,?_⟩;have:=(df h).symm;rw[ma]at this;exact this
def uQ(n:Nat):∀es:List D,(ue n es).length=es.length:=λes=>by
 have h:∀i:Nat,(ue n es)[i]?=none↔es[i]?=none:=λi=>by rw[yJ];cases es[i]?<;>simp
 have a:=(h es.length).mpr (gC (de _));have b:=(h (ue n es).length).mp (gC (de _));rw[List.getElem?_eq_none_iff]at a b;omega
def HJ{l:oY}{V:qe}{f:Wi->Bool}{tt:zK}{ok:Mp->Prop}{Q:DK}{M:Mp}{rest:List (Option D)}(hl:V.on.length=l.my.length)(h16:l.my.length<=16)(mG:ok M) (ht:∀(i:Nat) (w:uT),l.my[i]?=some w->∀(y:Option D) (k:Bool->Mp->Prop),k (f w.2) M->tt (some (.int (i:Nat))::y::rest) M k) (q:∀p,M p=none->Q (.ref p) (oX M p (.lst ((Hc l V f).map λn=>D.int (n:Nat))))):
  uC (Po 2 (yt (sW 0) (yt (sW 1) CS))) (MU (b3 (v3 1)) tt) (v3 0) ok Q (ue 0 (V.on.map D.bl)) [] (none::none::rest) M:=by
 have hz:=dN;refine tK (ue 0 (V.on.map D.bl)) (λpre acc δ M'=>M=M'/\acc=((List.range pre.length).filter λi=>V.on.getD i false&&(l.my[i]?).elim false λw=>f w.2).map (λn=>D.int (n:Nat))/\∃y1 y2,δ=y1::y2::rest) (λ_ _ _ M' j=>by rw[<-j.1];exact mG) _ [] [] _ _ rfl ?_ ⟨rfl,rfl,none,none,rfl⟩ ?_ ?_
 .rw[uQ,cR,hl];simp only[dD];omega
 .rintro pre d post e acc δ M' ⟨rfl,rfl,y1,y2,rfl⟩ k k2 hk WK
  obtain⟨x,hx,rfl⟩:=HX e;rw[cU,dH,jN,gA]at hk WK;rw[dA]at hx;cases eo:V.on[pre.length]? with
  | none=>rw[eo]at hx;cases hx
  | some b=>
   rw[eo]at hx;have hx:D.bl b=x:=df hx;subst hx;have hi:pre.length<l.my.length:=by rw[<-hl];exact(cV.mp eo).1
   have ew:l.my[pre.length]?=some l.my[pre.length]:=cT hi;generalize l.my[pre.length]=w0 at ew;have eg:V.on.getD pre.length false=b:=by rw[gD,eo];rfl
   have no:(b&&f w0.2)=false->k2 (some (.int (pre.length:Nat))::some (.bl b)::rest) M:=λg=>by refine WK _ _ ⟨rfl,?_,_,_,rfl⟩;rw[fS (by rw[eg,ew];show ¬(b&&f w0.2)=true;rw[g];exact dw),gk,eM]
   refine⟨rfl,?_⟩;show if b=true then _ else _
   cases b with
   | false=>exact JU (no rfl)
   | true=>
    refine Pm (ht _ _ ew _ _ ?_);cases g:f w0.2 with
    | false=>exact JU (no (by rw[g];rfl))
    | true=>refine Pm (hk _ _ _ ⟨rfl,?_,_,_,rfl⟩);rw[fR (by rw[eg,ew];show(true&&f w0.2)=true;rw[g];rfl),gk,dJ];rfl
 .rintro acc δ M' ⟨rfl,rfl,y1,y2,rfl⟩ p hp
  rw[uQ,cR];exact q p hp
def AA{a:Ad}{M:Mp}{rs:List Addr}{ws:List uT}(h:rT a M rs ws){i:Nat}{w:uT}(e:ws[i]?=some w):∃r,vM (rs.map D.ref) (i:Nat)=some (.ref r)/\M r=some (.ins (w.2.cls a) w.2.nu):=by
 have hi:i<rs.length:=by rw[h.1];exact(cV.mp e).1
 exact⟨rs[i],uF (by rw[dA,cT hi];rfl),h.2 i _ w (cT hi) e⟩
def Kg(ds:List D)(m:Nat):L3.sZ ds none (some (m:Int))=ds.take m:=by
 unfold L3.sZ;rw[HT.BX,HT.Iu,iX,kN];by_cases h:m<=ds.length
 .rw[lV h]
 .rw[Nat.min_eq_right (by omega),eW,gZ (by omega)]
def Gv(ds:List D)(m:Nat)(h:m<=ds.length):L3.sZ ds (some (m:Int)) none=ds.drop m:=by unfold L3.sZ;rw[HT.BX,HT.Iu,lV h];exact gZ (by rw[gf];exact de _)
def tT(l:oY)(V:qe):Prop:=∀z∈l.nm,(l.mF z=="turns")=true->∃v,V.ps.find? (λp=>decide (p.1=z))=some v/\0<=v.2/\v.2<=((l.mv z).length:Int)
def Lh{l:oY}{V:qe}(h:tT l V){z:Str}(hz:z∈l.nm)(e:(l.mF z=="turns")=true):va (sI V.ps) (.inr z)=some (.int (yL V z:Nat))/\yL V z<=(l.mv z).length:=by
 obtain⟨v,e1,e2,e3⟩:=h z hz e;have h1:yL V z=v.2.toNat:=by unfold yL;rw[e1];rfl
 have h2:va (sI V.ps) (.inr z)=(V.ps.find? λp=>decide (p.1=z)).map λp=>D.int p.2:=xF (λp:Str×Int=>p.1) (λp=>D.int p.2) z V.ps;rw[h2,e1,h1];exact⟨by show some (D.int v.2)=some (.int (v.2.toNat:Nat));rw[Int.toNat_of_nonneg e2],by omega⟩
def GQ(a:Ad):qN:=λds M Q=>Gh λA V l c z=>ds=[.ref A.b,.str c,.str z]/\Rd a M A V l/\z∈l.nm/\Q (xA (Di l V c z)) M
def OK(a:Ad):qN:=λds M Q=>Gh λA V l c z=>ds=[.ref A.b,.str c,.str z]/\Rd a M A V l/\z∈l.nm/\tT l V/\Q (names (wO l V c z)) M
def Ks(a:Ad):qN:=λds M Q=>Gh λA V l c z=>ds=[.ref A.b,.str c,.str z]/\Rd a M A V l/\z∈l.nm/\tT l V/\Q (GI l V c z).d M
def JL:qN:=λds M Q=>Cv λx r z=>ds=[.tup (.str x::r),.str z]/\Q (if (x=="wait")=true then(vv.waits z).d else if (x=="break")=true then(vv.breaks z).d else vv.barred.d) M
noncomputable def qQ(st:sG):List D:=st.map λs=>.tup [.str s.1,xA s.2]
def Md(a:Ad):qN:=λds M Q=>RW λA V l c z r way=>ds=[.ref A.b,.str c,.str z,.ref r]/\Rd a M A V l/\z∈l.nm/\tT l V/\oy M r=some (List.map D.str way)/\way.length<=8000000/\∀q M',qa M M'->M q=none->oy M' q=some (qQ (uA l V c z way).2)->Q (.tup [(uA l V c z way).1.d,.ref q]) M'
def Eg{l:oY}{V:qe}{f:Wi->Bool}{i:Nat}(h:i∈Hc l V f):∃w,l.my[i]?=some w/\f w.2=true:=by
 have h:=(fz.mp h).2;rw[dS]at h;cases e:l.my[i]? with
 | none=>rw[e]at h;cases h.2
 | some w=>rw[e]at h;exact⟨w,rfl,h.2⟩
noncomputable def Ib(l:oY)(way:List Str):Nat:=(l.nm.filter λx=>!(hasS way x)).length
def AJ{l:oY}{way:List Str}{z:Str}(hz:z∈l.nm)(h:hasS way z=false):Ib l (way++[z])<Ib l way:=by
 unfold Ib;have e:(l.nm.filter λx=>!(hasS (way++[z]) x))=(l.nm.filter λx=>!(hasS way x)).filter λx=>!(x==z):=by rw[List.filter_filter];refine List.filter_congr λx _=>?_;unfold hasS;rw[lU];show(!(way.any (·==x)||((z==x)||false)))=_;rw[kg,Bool.not_or,Bool.and_comm,km]
 rw[e];refine Nat.lt_of_le_of_ne (fP _ _) λg=>?_;have:=kz.mp (List.Sublist.eq_of_length fZ g) z (fz.mpr ⟨hz,by rw[h];rfl⟩);simp at this
def BL{l:oY}(ok:rg l){w:uT}(hw:w∈l.my){z y:Str}(h:Il z w.2=.inr y):y∈l.nm:=by
 have o:=ok.wo w hw;cases e:w.2 with
 | bar _ _=>rw[e]at h;cases h
 | shut _ _=>rw[e]at h;cases h
 | always x u=>rw[e]at h o;cases h;exact qv.mp o.2.1
 | night x u f m=>rw[e]at h o;cases h;exact qv.mp o.2.1
 | busy x u=>rw[e]at h o;cases h;exact qv.mp o.2.1
 | silent x u n=>rw[e]at h o;cases h;exact qv.mp o.2.1
 | wait _=>rw[e]at h;cases h
 | breaks _=>rw[e]at h;cases h
theorem Ef(x:Str):∀ss:List Str,x∈ss->Ah (.str x) (ss.map D.str)=some (ss.findIdx (·==x))
 | [],h=>by cases h
 | y::r,h=>by
  rw[dR,List.findIdx_cons];unfold Ah;show(if (y==x)=true then some 0 else(Ah (.str x) (r.map D.str)).map (·+1))=_;cases e:y==x with
  | true=>rfl
  | false=>
   rw[cW dw];have hr:x∈r:=by
    rcases c9.mp h with g|g
    .rw[g,fg]at e;cases e
    .exact g
   rw[Ef x r hr];rfl
def GP(G:Gl K mg a):Fq P w K mg base 7 a.aQ (GQ a):=by
 refine fq G.aQ.toDG AV (λr u=>⟨_,(oN (pj 3 AV (oU (oU v0)))
 (oO (oV (pZ ur rfl G.I uq (pR (ql rfl (wC (ix:=[none,none,some 3,some 0,some 1,some 2]) (N':=["i","on","wishes","board","caller","target"])) (vO rfl G.bT (pR (oU v0))) (uj (n:=2) rfl (pQ (qg 0) (pQ (qg 1) sr))) (uz (W3.b3 (xl (uu U1) (wm (uu (Dn (R:=Mh a) (pf U2 v0) (RU G) (r.mono (by first|decide|omega)) (qR U3 v4 v5))))))) v0)))))),?_⟩)
 rintro ds M Q ⟨A,V,l,c,z,rfl,rd,hz,q⟩
 obtain⟨ph,gr,ws,W7,pr,gd,rs,i1,i2,i3,i4,i5,i6,i7,i8⟩:=rd.pl;refine oP rd.bd.at_ (i' rfl (oP i1 (i' rfl ?_)));refine oP rd.bd.at_ (i' rfl (i' rd.bd.on ?_));refine HJ (rest:=[some (.ref ws),some (.ref A.b),some (.str c),some (.str z)]) rd.on rd.ok.w16 rd.bd.on (λi w0 ew y k hk=>?_) λp hp=>i' oW ⟨M,.new hp,q⟩;obtain⟨r,e1,e2⟩:=AA i8 ew;refine i' i4 (i' e1 (oP e2 ⟨by cases w0.2<;>rfl,_,⟨w0.2,rfl,rfl⟩,r,A,V,l,c,z,rfl,e2,rd,hz,rd.ok.wo w0 (qB ew),hk⟩))
def NS(G:Gl K mg a):Fq P w K mg base 5 a.aR (OK a):=by
 refine fq G.aR.toDG sF (λr u=>⟨_,(oN (pj 3 sF (pG v0 G.c.toCls G.Q (wZ G) r (rA U1 U2)))
 (oN (pA (oZ u (pG (oU v0) G.h.toCls G.aK (wM G) r (pR U2)) oR)
 (oO (oV (pZ ur rfl G.I uq (pR U3))))
 pb)
 (oN (pj 4 sF (pG (oU v0) G.h.toCls G.S (tS G) r (pR U2)))
 (oN (pj 5 sF (zc u (oU v0) U2))
 (oN (uf (i:=6) sF.nd rfl (Or.inl rfl) rfl (wC (ix:=[none,some 3]) (N':=["phone","free"])) (qk (pH (rO v4 (r6 v5) sS) (rO v4 sS (r6 v5)))) (qg 0) (uz (oZ u v0 U1)) v0)
 (oO (oV (pZ ur rfl G.I uq (pR (rO v6 sS (r6 oQ))))))))))),?_⟩)
 rintro ds M Q ⟨A,V,l,c,z,rfl,rd,WR,nx,q⟩
 have hz:=dN;have bd:=rd.bd;have pl:=rd.pl;obtain⟨ph,gr,ws,W7,pr,gd,rs,i1,_⟩:=rd.pl;obtain⟨⟨_,tf,_⟩,_⟩:=rd.ok.of WR;refine oP bd.at_ ⟨rfl,_,⟨rfl,rfl⟩,A,V,l,c,z,rfl,rd,WR,λq1 M1 s1 WQ e1=>?_⟩;refine oP (s1 _ _ bd.at_) (i' rfl (oP (s1 _ _ i1) ⟨rfl,_,⟨rfl,rfl⟩,V.p,z,l,rfl,pl.sub s1,?_⟩));unfold wO at q;cases e:l.mF z=="turns" with
 | false=>rw[e]at q;exact Aa (c:=!(l.mF z=="turns")) (by rw[e];rfl) (i' e1 ⟨M,s1,q⟩)
 | true=>
  obtain⟨hn,nl⟩:=Lh nx WR e;generalize yL V z=n at hn nl q;rw[e,cY rfl]at q;refine Mz (c:=!(l.mF z=="turns")) (by rw[e];rfl) ?_;refine oP (s1 _ _ bd.at_) (i' rfl (oP (s1 _ _ i1) ⟨rfl,_,⟨rfl,rfl⟩,V.p,z,l,rfl,pl.sub s1,λq2 Ye=>?_⟩));have s2:=s1.trans (qa.new (c:=.lst ((l.mv z).map D.str)) Ye);have c2:=@oW M1 q2 ((l.mv z).map D.str);have e2:=(qa.new (c:=.lst ((l.mv z).map D.str)) Ye).lst e1;generalize oX M1 q2 (.lst ((l.mv z).map D.str))=M2 at s2 c2 e2 ⊢;refine oP (s2 _ _ bd.at_) (i' rfl (i' rfl (i' (s2.dk bd.nx) (i' hn ?_))));refine i' c2 λq3 hq3=>?_;rw[Gv _ n (by rw[cR];exact nl),<-ko];have t3:=qa.new (c:=.lst (((l.mv z).drop n).map D.str)) hq3;have c3':=@oW M2 q3 (((l.mv z).drop n).map D.str);generalize oX M2 q3 (.lst (((l.mv z).drop n).map D.str))=M3 at t3 c3' ⊢;refine i' (t3.lst c2) λq4 hq4=>?_;rw[Kg,<-lX];have t4:=qa.new (c:=.lst (((l.mv z).take n).map D.str)) hq4;have c4:=@oW M3 q4 (((l.mv z).take n).map D.str);generalize oX M3 q4 (.lst (((l.mv z).take n).map D.str))=M4 at t4 c4 ⊢;refine i' (t4.lst c3') (i' c4 ?_);refine⟨by rw[cR,cR,gf,fB];omega,λq5 hq5=>i' oW ?_⟩;rw[<-dJ];have t5:=qa.new (c:=.lst ((uB (l.mv z) n).map D.str)) hq5;have c5:=@oW M4 q5 ((uB (l.mv z) n).map D.str);show uC _ _ _ _ _ ((uB (l.mv z) n).map D.str) _ _ (oX M4 q5 (.lst ((uB (l.mv z) n).map D.str)));generalize oX M4 q5 (.lst ((uB (l.mv z) n).map D.str))=M5 at t5 c5 ⊢;have s5:=t3.trans (t4.trans t5);have e5:=s5.lst e2;have tl:(uB (l.mv z) n).length<=200:=by unfold uB;rw[cU,gf,fB];omega
  refine sR (f:=id) (t:=λd=>inD d ((tL l V c z).map D.str)) c5 _ [] _ (by rw[cR];simp only[dD];omega) (λd hd k hk=>?_) (λd hd _ k hk=>?_) λq6 hq6=>?_
  .obtain⟨x,hx,rfl⟩:=dz.mp hd;exact i' e5 ⟨rfl,pW _,hk⟩
  .obtain⟨x,hx,rfl⟩:=dz.mp hd;exact hk
  .have ef:[]++(List.filter (λd=>inD d ((tL l V c z).map D.str)) ((uB (l.mv z) n).map D.str)).map id=((uB (l.mv z) n).filter λx=>hasS (tL l V c z) x).map D.str:=by
    rw[dW,iZ,gX];have:((λd=>inD d ((tL l V c z).map D.str))∘D.str)=λx=>hasS (tL l V c z) x:=by funext x;exact rM _ _
    rw[this]
   rw[ef];refine i' oW λq7 hq7=>i' oW ?_;rw[show L3.sZ (((uB (l.mv z) n).filter λx=>hasS (tL l V c z) x).map D.str) none (some (1:Int))=(((uB (l.mv z) n).filter λx=>hasS (tL l V c z) x).take 1).map D.str from(Kg _ 1).trans (lX).symm];exact⟨M,s2.trans (s5.trans ((qa.new hq6).trans (.new hq7))),q⟩
def Ki(G:Gl K mg a):Fq P w K mg base 6 a.aS (Ks a):=by
 refine fq G.aS.toDG uD (λr u=>⟨_,(oN (pj 3 uD (o9 (NS G) r G.aR (qR v0 U1 U2)))
 (oN (pA (oZ u (pD qc rfl G.g pX (pR U3)) oQ)
 (oO (oV (pz (rA oR U2))))
 pb)
 (oO (oV (pz (qR oR U2 U3)))))),?_⟩)
 rintro ds M Q ⟨A,V,l,c,z,rfl,rd,hz,nx,q⟩
 refine⟨A,V,l,c,z,rfl,rd,hz,nx,?_⟩;unfold GI at q;cases e:wO l V c z with
 | nil=>rw[e]at q;exact⟨oK rfl,M,.refl,q⟩
 | cons x r=>rw[e]at q;exact⟨oK rfl,M,.refl,q⟩
def Je(G:Gl K mg a):Fq P w K mg base 1 a.aT JL:=by
 refine fq G.aT.toDG zj (λr u=>⟨_,(oN (pA (oZ u (pf v0 oQ) oR)
 (oO (oV (pz (rA oR U1))))
 pb)
 (oN (pA (oZ u (pf v0 oQ) oR)
 (oO (oV (pz (rA oR U1))))
 pb)
 (oO (oV (pz (pR oR)))))),?_⟩)
 rintro ds M Q ⟨x,r,z,rfl,q⟩
 refine i' (xS _ _) (qm (c:=x=="wait") (λg=>?_) (λg=>?_))
 .rw[cY g]at q;exact⟨oK rfl,M,.refl,q⟩
 rw[cW g]at q;refine i' (xS _ _) (qm (c:=x=="break") (λg=>?_) (λg=>?_))
 .rw[cY g]at q;exact⟨oK rfl,M,.refl,q⟩
 rw[cW g]at q;exact⟨oK rfl,M,.refl,q⟩
def Ko(G:Gl K mg a):Fq P w K mg base 8 a.aU (Md a):=by
 refine fq G.aU.toDG vK (λr u=>⟨_,(oN (pj 4 vK (pZ sL rfl G.y su (pR U3)))
 (oN (pj 5 vK (qA sd))
 (oN (Kb eV (oZ u U2 v4)
 (oN (pq (qM v4 (pR U2)))
 (oN (pj 6 vK (o9 (GP G) r G.aQ (qR v0 U1 U2)))
 (oN (pq (qM v5 (pR (pz (rA U2 v6)))))
 (oN (pA (oZ u (pD qc rfl G.g pX (pR v6)) oQ)
 (oO (oV (pz (rA (o9 (Ki G) r G.aS (qR v0 U1 U2)) v5))))
 pb)
 (oN (pj 7 vK (AR (R:=HF a) (pf (oU (oU v0)) (pf v6 oQ)) (Nu G) (r.mono (by first|decide|omega))))
 (oN (pA (oZ u (pf v7 oQ) oR)
 (oO (oV (pz (rA (o9 (Je G) r G.aT (rA v7 U2)) v5))))
 pb)
 (oO (pj 2 vK (pf v7 oQ))))))))))
 (oO (oV (pz (rA (pz (rA oR (pZ ur rfl G.I uq (pR (rO v4 (r6 (wR v4 (pR U2))) sS))))) v5))))))),?_⟩)
 rintro ds M Q ⟨A,V,l,c,z0,r,W8,rfl,rd,hz0,nx,Y3,hw0,q⟩
 have hz:=dN;have p8:=rd.ok.p8;have g3:=rd.ok.g3;have nl:l.nm.length<=11:=by unfold oY.nm oY.pn oY.gn;rw[cU,cR,cR];omega
 refine i' Y3 λp1 Xm=>⟨oK rfl,λp2 VT=>?_⟩;have t1:=qa.new (c:=.lst (W8.map D.str)) Xm;have t2:=qa.new (c:=.lst []) VT;have c1:oy (oX (oX M p1 (.lst (W8.map D.str))) p2 (.lst [])) p1=some (W8.map D.str):=t2.lst oW;have c2:=@oW (oX M p1 (.lst (W8.map D.str))) p2 [];have n12:p2≠p1:=λy=>by rw[y,pC]at VT;cases VT
 have m2:M p2=none:=t1.none VT;have s2:=t1.trans t2;generalize oX (oX M p1 (.lst (W8.map D.str))) p2 (.lst [])=M2 at c1 c2 s2 ⊢;refine⟨λm δ M'=>∃z way st,qa M M'/\oy M' p1=some (List.map D.str way)/\oy M' p2=some (qQ st)/\z∈l.nm/\Ib l way<m/\way.length+m<=8000012/\st.length+m<=100/\ww l V c m z way st=uA l V c z0 W8/\∃y6 y7,δ=[some (.ref A.b),some (.str c),some (.str z),some (.ref r),some (.ref p1),some (.ref p2),y6,y7],⟨l.nm.length+1,z0,W8,[],s2,c1,c2,hz0,Nat.lt_succ_of_le (fP _ _),by omega,by show 0+(l.nm.length+1)<=100;omega,rfl,none,none,rfl⟩,?_⟩
 rintro m δ M' ⟨z,way,st,sM,l1,l2,WR,VX,hwl,X9,er,y6,y7,rfl⟩
 obtain⟨m,rfl⟩:∃k,m=k+1:=⟨m - 1,by omega⟩;have q2:∀VQ,qa M VQ->oy VQ p2=some (qQ (ww l V c (m+1) z way st).2)->Q (.tup [(ww l V c (m+1) z way st).1.d,.ref p2]) VQ:=λVQ s ll=>by rw[er]at ll ⊢;exact q p2 VQ s m2 ll
 clear q;unfold ww at er q2;refine i' l1 ⟨rfl,pW way,?_⟩;show if (!(inD (.str z) (way.map D.str)))=true then _ else _
 rw[rM];refine qm (c:=!(hasS way z)) (λh1=>?_) (λh1=>?_)
 rotate_left
 .
  have h1:hasS way z=true:=by simpa using h1
  rw[cY h1]at q2;refine⟨by show(oy M' p1).isSome=true;rw[l1];rfl,i' l1 ⟨rfl,pW _,i' (Ef z way (qv.mp h1)) (i' l1 λp3 hp3=>?_)⟩⟩;have YZ:way.findIdx (·==z)<=(way.map D.str).length:=by rw[cR];exact List.findIdx_le_length
  rw[Gv _ _ YZ,<-ko];refine i' oW ⟨oK rfl,oK rfl,_,.refl,q2 _ (sM.trans (.new hp3)) ((qa.new hp3).lst l2)⟩
 have h1:hasS way z=false:=by simpa using h1
 rw[h1,cW dw]at er q2;refine⟨by show(oy M' p1).isSome=true;rw[l1];rfl,i' l1 ⟨by rw[cR];omega,?_⟩⟩;have k3:rD p1 M' (oX M' p1 (.lst (way.map D.str++[D.str z]))):=.put;have s3:qa M (oX M' p1 (.lst (way.map D.str++[D.str z]))):=λx d hx=>by rw[tV (Pb hx Xm)];exact sM x d hx
 have c3:=k3.lst n12 l2;have l3:oy (oX M' p1 (.lst (way.map D.str++[D.str z]))) p1=some ((way++[z]).map D.str):=by rw[oW,dJ];rfl
 generalize oX M' p1 (.lst (way.map D.str++[D.str z]))=M3 at s3 c3 l3 ⊢;refine⟨A,V,l,c,z,rfl,rd.sub s3,WR,?_⟩;generalize hf:Di l V c z=fs at er q2 ⊢;refine⟨by show(oy M3 p2).isSome=true;rw[c3];rfl,oK rfl,i' c3 ⟨by unfold qQ;rw[cR];omega,?_⟩⟩;have es:qQ st++[.tup [.str z,xA fs]]=qQ (st++[(z,fs)]):=by unfold qQ;rw[dJ];rfl
 rw[es];have s4:qa M (oX M3 p2 (.lst (qQ (st++[(z,fs)])))):=λx d hx=>by rw[tV (Pb hx m2)];exact s3 x d hx
 have c4:=@oW M3 p2 (qQ (st++[(z,fs)]));have l4:oy (oX M3 p2 (.lst (qQ (st++[(z,fs)])))) p1=some ((way++[z]).map D.str):=rD.lst .put (dM n12) l3;generalize oX M3 p2 (.lst (qQ (st++[(z,fs)])))=M4 at s4 c4 l4 ⊢;cases fs with
 | nil=>exact⟨A,V,l,c,z,rfl,rd.sub s4,WR,nx,oK rfl,M4,.refl,q2 M4 s4 c4⟩
 | cons i fr=>
  obtain⟨w0,ew,_⟩:=Eg (l:=l) (V:=V) (f:=As l V c z) (i:=i) (by show i∈Di l V c z;rw[hf];exact dO);dsimp only at er q2;rw[ew]at er q2;dsimp only[Option.elim]at er q2;obtain⟨ph,gr,ws,W7,pr,gd,rs,i1,i2,i3,i4,i5,i6,i7,i8⟩:=(rd.sub s4).pl;obtain⟨Yw,e1,e2⟩:=AA i8 ew;have hwo:=rd.ok.wo w0 (qB ew);have Yx:∀y,Il z w0.2=.inr y->y∈l.nm:=λy h=>BL rd.ok (qB ew) h;refine oP (s4 _ _ rd.bd.at_) (i' rfl (oP i1 (i' rfl (i' (xS _ _) (i' i4 (i' e1 ?_))))));cases hv:w0.2 with
  | bar x ns=>rw[hv]at q2 e2;exact oP e2 ⟨rfl,_,.inl ⟨.inl rfl,rfl⟩,Yw,rfl,⟨"end",[],z,rfl,oK rfl,M4,.refl,q2 M4 s4 c4⟩⟩
  | shut x ns=>rw[hv]at q2 e2;exact oP e2 ⟨rfl,_,.inl ⟨.inr rfl,rfl⟩,Yw,rfl,⟨"end",[],z,rfl,oK rfl,M4,.refl,q2 M4 s4 c4⟩⟩
  | wait x=>rw[hv]at q2 e2;exact oP e2 ⟨rfl,_,.inr (.inr (.inl ⟨rfl,rfl⟩)),Yw,_,_,_,rfl,e2,rfl,⟨"wait",_,z,rfl,oK rfl,M4,.refl,q2 M4 s4 c4⟩⟩
  | breaks x=>rw[hv]at q2 e2;exact oP e2 ⟨rfl,_,.inr (.inr (.inr ⟨rfl,rfl⟩)),Yw,rfl,⟨"break",_,z,rfl,oK rfl,M4,.refl,q2 M4 s4 c4⟩⟩
  | always x y=>rw[hv]at er e2 Yx;exact oP e2 ⟨rfl,_,.inr (.inl ⟨.inl rfl,rfl⟩),Yw,_,_,_,rfl,e2,rfl,⟨m,fA _,y,way++[z],st++[(z,i::fr)],s4,l4,c4,Yx y rfl,by have:=AJ WR h1;omega,by rw[cU];show way.length+1+m<=_;omega,by rw[cU];show st.length+1+m<=_;omega,er,_,_,rfl⟩⟩
  | night x y f mm=>rw[hv]at er e2 Yx;exact oP e2 ⟨rfl,_,.inr (.inl ⟨.inr (.inl rfl),rfl⟩),Yw,_,_,_,rfl,e2,rfl,⟨m,fA _,y,way++[z],st++[(z,i::fr)],s4,l4,c4,Yx y rfl,by have:=AJ WR h1;omega,by rw[cU];show way.length+1+m<=_;omega,by rw[cU];show st.length+1+m<=_;omega,er,_,_,rfl⟩⟩
  | busy x y=>rw[hv]at er e2 Yx;exact oP e2 ⟨rfl,_,.inr (.inl ⟨.inr (.inr (.inl rfl)),rfl⟩),Yw,_,_,_,rfl,e2,rfl,⟨m,fA _,y,way++[z],st++[(z,i::fr)],s4,l4,c4,Yx y rfl,by have:=AJ WR h1;omega,by rw[cU];show way.length+1+m<=_;omega,by rw[cU];show st.length+1+m<=_;omega,er,_,_,rfl⟩⟩
  | silent x y n=>rw[hv]at er e2 Yx;exact oP e2 ⟨rfl,_,.inr (.inl ⟨.inr (.inr (.inr rfl)),rfl⟩),Yw,_,_,_,rfl,e2,rfl,⟨m,fA _,y,way++[z],st++[(z,i::fr)],s4,l4,c4,Yx y rfl,by have:=AJ WR h1;omega,by rw[cU];show way.length+1+m<=_;omega,by rw[cU];show st.length+1+m<=_;omega,er,_,_,rfl⟩⟩
noncomputable def xX(V:qe)(i:Nat)(c:oS):qe:={V with calls:=V.calls.set i c}
def rJ(V:qe)(i:Nat)(c d:oS):xX (xX V i c) i d=xX V i d:=by unfold xX;rw[iK]
structure CI(a:Ad)(M:Mp)(A:sX)(V:qe)(i:Nat)(k:qS)(c:oS):Prop where
 bd:pk a M A V
 e1:A.cs[i]?=some k
 e2:V.calls[i]?=some c
noncomputable def cF(x:Str)(wy ad md:Addr)(k:Nat):List (Str×D):=List.take (α:=Str×D) k [("state",.str "rings"),("caller",.str x),("way",.ref wy),("at",.ref ad),("members",.ref md),("holder",.mC),("since",.int 0)]
variable {M':Mp}{i:Nat}{k:qS}
section
variable {c:oS}
def CI.cell(h:CI a M A V i k c):rq a M (A.lists++V.fo) k c:=h.bd.cs i k c h.e1 h.e2
def CI.sub(h:CI a M A V i k c)(s:qa M M'):CI a M' A V i k c:=⟨h.bd.sub s,h.e1,h.e2⟩
def CI.put(h:CI a M A V i k c)(c':oS){ad md:Addr}(ew:c'.way=c.way)(la:oy M ad=some (c'.at_.map D.str))(lm:oy M md=some (c'.ms.map D.str))(na:ad∉A.lists++V.fo)(nm:md∉A.lists++V.fo):
  CI a (oX M k.p (.ins a.e (qO c' k.wy ad md))) A (xX V i c') i k c'/\qD A M A (oX M k.p (.ins a.e (qO c' k.wy ad md))):=by
 obtain⟨b,s⟩:=h.bd.nQ h.e1 h.e2 ew la lm na nm;refine⟨⟨b,h.e1,?_⟩,s⟩;show(V.calls.set i c')[i]?=some c';rw[eK (cV.mp h.e2).1]
end
inductive PN(i:Nat)(c:oS):Ev->oS->Prop
 | rings (ps:List Str):PN i c (.rings i ps) (c.ring ps)
 | quiet:PN i c (.quiet i) c.nv
 | waits (x:Str):PN i c (.waits i x) (c.wait x)
 | talks (ms:List Str):PN i c (.talks i ms) (c.nk ms)
 | held (x:Str):PN i c (.held i x) (c.hold x)
 | leaves (x:Str):PN i c (.leaves i x) (c.drop x)
 | over (w:Str):PN i c (.over i w) (c.over w)
def FQ(a:Ad):qN:=λds M Q=>Bj λp x=>ds=[.ref p,.str x]/\M p=some (.ins a.e [])/\∀M' wy ad md,rD p M M'->M wy=none->M ad=none->M md=none->ad≠wy->md≠wy->M' p=some (.ins a.e (qO (yE x) wy ad md))->oy M' wy=some []->oy M' ad=some []->oy M' md=some []->Q .mC M'
def Nt(a:Ad):qN:=λds M Q=>HL λA V i k c w=>ds=[.ref k.p,.str w]/\CI a M A V i k c/\∀M',qD A M A M'->pk a M' A (xX V i (c.over w))->Q .mC M'
def Ln(a:Ad):qN:=λds M Q=>HL λA V i k c x=>ds=[.ref k.p,.str x]/\CI a M A V i k c/\c.at_.length<=100/\c.ms.length<=100/\∀M',qD A M A M'->pk a M' A (xX V i (c.drop x))->Q .mC M'
def Jj(a:Ad):qN:=λds M Q=>RW λA V i k c e c'=>ds=[.ref k.p,Ev.d e]/\CI a M A V i k c/\c.at_.length<=100/\c.ms.length<=100/\PN i c e c'/\∀M',qD A M A M'->pk a M' A (xX V i c')->Q .mC M'
def NX(G:Gl K mg a):Fq P w K mg base 1 a.ar (FQ a):=by
 refine fq G.ar.toDG EZ (λr u=>⟨_,(oN (pK v0 oR)
 (oN (pK v0 U1)
 (oN (pK v0 (qA sd))
 (oN (pK v0 (qA sd))
 (oN (pK v0 (qA sd))
 (oN (pK v0 rE)
 (oN (pK v0 oQ)
 (oO (pK v0 rE))))))))),?_⟩)
 rintro ds M Q ⟨p,x,rfl,hb,q⟩
 refine oP hb ⟨(G.j "state" rfl),by show 0<1000;decide,?_⟩;have k1:rD p M (oX M p (.ins a.e [("state",.str "rings")])):=.put;have b1:oX M p (.ins a.e [("state",.str "rings")]) p=some (.ins a.e [("state",.str "rings")]):=pC;show uc _ _ _ _ (oX M p (.ins a.e [("state",.str "rings")]));generalize oX M p (.ins a.e [("state",.str "rings")])=N1 at k1 b1 ⊢;refine oP b1 ⟨(G.j "caller" rfl),by show 1<1000;decide,?_⟩;have k2:=k1.trans (rD.put (p:=p) (c:=.ins a.e [("state",.str "rings"),("caller",.str x)]));have b2:oX N1 p (.ins a.e [("state",.str "rings"),("caller",.str x)]) p=some (.ins a.e [("state",.str "rings"),("caller",.str x)]):=pC;show uc _ _ _ _ (oX N1 p (.ins a.e [("state",.str "rings"),("caller",.str x)]));generalize oX N1 p (.ins a.e [("state",.str "rings"),("caller",.str x)])=N2 at k2 b2 ⊢;refine⟨oK rfl,λwy hwy=>?_⟩;obtain⟨n3,e3,k3,c3,b3⟩:=sv (fs':=(cF x wy 0 0 3)) (c:=.lst []) b2 hwy;refine oP e3 ⟨(G.j "way" rfl),by show 2<1000;decide,?_⟩;show uc _ _ _ _ (oX (oX N2 wy (.lst [])) p (.ins a.e (cF x wy 0 0 3)));generalize oX (oX N2 wy (.lst [])) p (.ins a.e (cF x wy 0 0 3))=N3 at k3 c3 b3 ⊢;have z1:M wy=none:=qY k2 b2 hwy;have kk3:=k2.trans k3;have l3:oy N3 wy=some []:=se c3;refine⟨oK rfl,λad Yd=>?_⟩;obtain⟨n4,e4,k4,c4,b4⟩:=sv (fs':=(cF x wy ad 0 4)) (c:=.lst []) b3 Yd;refine oP e4 ⟨(G.j "at" rfl),by show 3<1000;decide,?_⟩;show uc _ _ _ _ (oX (oX N3 ad (.lst [])) p (.ins a.e (cF x wy ad 0 4)));generalize oX (oX N3 ad (.lst [])) p (.ins a.e (cF x wy ad 0 4))=N4 at k4 c4 b4 ⊢;have z2:M ad=none:=qY kk3 b3 Yd;have XU:=kk3.trans k4;have naw:ad≠wy:=λz=>by rw[z,c3]at Yd;cases Yd
 have l4:=k4.lst (pE l3 b3) l3;have m4:oy N4 ad=some []:=se c4;refine⟨oK rfl,λmd hmd=>?_⟩;obtain⟨n5,e5,k5,c5,b5⟩:=sv (fs':=(cF x wy ad md 5)) (c:=.lst []) b4 hmd;refine oP e5 ⟨(G.j "members" rfl),by show 4<1000;decide,?_⟩;show uc _ _ _ _ (oX (oX N4 md (.lst [])) p (.ins a.e (cF x wy ad md 5)));generalize oX (oX N4 md (.lst [])) p (.ins a.e (cF x wy ad md 5))=N5 at k5 c5 b5 ⊢;have z3:M md=none:=qY XU b4 hmd;have XW:=XU.trans k5;have nmw:md≠wy:=λz=>by rw[z,pS l4]at hmd;cases hmd
 have l5:=k5.lst (pE l4 b4) l4;have m5:=k5.lst (pE m4 b4) m4;have o5:oy N5 md=some []:=se c5;refine oP b5 ⟨(G.j "holder" rfl),by show 5<1000;decide,?_⟩;have k6:rD p N5 (oX N5 p (.ins a.e (cF x wy ad md 6))):=.put;have b6:oX N5 p (.ins a.e (cF x wy ad md 6)) p=some (.ins a.e (cF x wy ad md 6)):=pC;show uc _ _ _ _ (oX N5 p (.ins a.e (cF x wy ad md 6)));generalize oX N5 p (.ins a.e (cF x wy ad md 6))=N6 at k6 b6 ⊢;refine oP b6 ⟨(G.j "since" rfl),by show 6<1000;decide,?_⟩;have k7:=k6.trans (rD.put (p:=p) (c:=.ins a.e (cF x wy ad md 7)));have b7:oX N6 p (.ins a.e (cF x wy ad md 7)) p=some (.ins a.e (cF x wy ad md 7)):=pC;rw[show vt "since" (.int 0) (cF x wy ad md 6)=(cF x wy ad md 7)from rfl];generalize oX N6 p (.ins a.e (cF x wy ad md 7))=N7 at k7 b7 ⊢;refine oP b7 ⟨(G.j "word" rfl),by show 7<1000;decide,_,.refl,?_⟩;have k8:=k7.trans (rD.put (p:=p) (c:=.ins a.e (qO (yE x) wy ad md)));exact q _ wy ad md (XW.trans k8) z1 z2 z3 naw nmw pC (k8.lst (pE l5 b5) l5) (k8.lst (pE m5 b5) m5) (k8.lst (pE o5 b5) o5)
def Ij(G:Gl K mg a):Fq P w K mg base 1 a.ab (Nt a):=by
 refine fq G.ab.toDG Fv (λr u=>⟨_,(oN (pK v0 oR)
 (oN (pK v0 U1)
 (oN (pK v0 (qA sd))
 (oN (pK v0 (qA sd))
 (oO (pK v0 rE)))))),?_⟩)
 rintro ds M Q ⟨A,V,i,k,c,w0,rfl,h,q⟩
 obtain⟨ad,md,h1,h2,h3,h4,n1,n2⟩:=h.cell;refine oP h1 ⟨(G.j "state" rfl),by show 8<1000;decide,?_⟩;obtain⟨g1,s1⟩:=h.put {c with st:="over"} rfl h3 h4 n1 n2;show uc _ _ _ _ (oX M k.p (.ins a.e (qO {c with st:="over"} k.wy ad md)));generalize oX M k.p (.ins a.e (qO {c with st:="over"} k.wy ad md))=M1 at g1 s1 ⊢;clear h1 h2 h3 h4 n1 n2;obtain⟨ad,md,h1,h2,h3,h4,n1,n2⟩:=g1.cell;refine oP h1 ⟨(G.j "word" rfl),by show 8<1000;decide,?_⟩;obtain⟨g2,s2⟩:=g1.put {c with st:="over",wd:=some w0} rfl h3 h4 n1 n2;show uc _ _ _ _ (oX M1 k.p (.ins a.e (qO {c with st:="over",wd:=some w0} k.wy ad md)));generalize oX M1 k.p (.ins a.e (qO {c with st:="over",wd:=some w0} k.wy ad md))=M2 at g2 s2 ⊢;clear h1 h2 h3 h4 n1 n2;refine⟨oK rfl,λp hp=>?_⟩;have t3:=qa.new (c:=.lst []) hp;have lp:=@oW M2 p [];have np:=g2.bd.mY hp;have Yg:=g2.sub t3;have s2':=s2.trans (.sub t3);generalize oX M2 p (.lst [])=M2' at t3 lp Yg s2' ⊢;obtain⟨ad,md,h1,h2,h3,h4,n1,n2⟩:=Yg.cell;refine oP h1 ⟨(G.j "at" rfl),by show 8<1000;decide,?_⟩;obtain⟨g3,s3⟩:=Yg.put {c with st:="over",wd:=some w0,at_:=[]} rfl lp h4 np n2;show uc _ _ _ _ (oX M2' k.p (.ins a.e (qO {c with st:="over",wd:=some w0,at_:=[]} k.wy p md)));generalize oX M2' k.p (.ins a.e (qO {c with st:="over",wd:=some w0,at_:=[]} k.wy p md))=M3 at g3 s3 ⊢;clear h1 h2 h3 h4 n1 n2 lp t3 np g2 Yg;refine⟨oK rfl,λp2 VT=>?_⟩;have t4:=qa.new (c:=.lst []) VT;have lp:=@oW M3 p2 [];have np:=g3.bd.mY VT;have Yy:=g3.sub t4;have s3':=s3.trans (.sub t4);generalize oX M3 p2 (.lst [])=M3' at t4 lp Yy s3' ⊢;obtain⟨ad,md,h1,h2,h3,h4,n1,n2⟩:=Yy.cell;refine oP h1 ⟨(G.j "members" rfl),by show 8<1000;decide,?_⟩;obtain⟨g4,s4⟩:=Yy.put {c with st:="over",wd:=some w0,at_:=[],ms:=[]} rfl h3 lp n1 np;rw[show vt "members" (.ref p2) (qO {c with st:="over",wd:=some w0,at_:=[]} k.wy ad md)=qO {c with st:="over",wd:=some w0,at_:=[],ms:=[]} k.wy ad p2 from rfl];generalize oX M3' k.p (.ins a.e (qO {c with st:="over",wd:=some w0,at_:=[],ms:=[]} k.wy ad p2))=M4 at g4 s4 ⊢;clear h1 h2 h3 h4 n1 n2 lp t4 np g3 Yy;obtain⟨ad,md,h1,h2,h3,h4,n1,n2⟩:=g4.cell;refine oP h1 ⟨(G.j "holder" rfl),by show 8<1000;decide,_,.refl,?_⟩;obtain⟨g5,s5⟩:=g4.put (c.over w0) rfl h3 h4 n1 n2;refine q _ ((s1.trans s2').trans (s3'.trans (s4.trans s5))) ?_;have:=g5.bd;rw[rJ,rJ,rJ,rJ]at this;exact this
def Lz(G:Gl K mg a):Fq P w K mg base 1 a.aO (Ln a):=by
 refine fq G.aO.toDG B5 (λr u=>⟨_,(oN (pK v0 (ql rfl (wC (ix:=[none,some 1]) (N':=["other","phone"])) (qk (oU v0)) (qg 0) (uz (oZ u v0 U1)) v0))
 (oO (pK v0 (ql rfl (wC (ix:=[none,some 1]) (N':=["other","phone"])) (qk (oU v0)) (qg 0) (uz (oZ u v0 U1)) v0)))),?_⟩)
 rintro ds M Q ⟨A,V,i,k,c,x,rfl,h,la,lm,q⟩
 have hz:=dN;obtain⟨ad,md,h1,h2,h3,h4,n1,n2⟩:=h.cell;refine oP h1 (i' rfl (i' h3 (sR (f:=id) (t:=ND x) h3 _ [] _ (by rw[cR];simp only[dD];omega) (λd hd k0 hk=>?_) (λd hd _ k0 hk=>?_) λp hp=>?_)))
 .obtain⟨y,hy,rfl⟩:=dz.mp hd;exact hk
 .obtain⟨y,hy,rfl⟩:=dz.mp hd;exact hk
 rw[AU];have t1:=qa.new (c:=.lst ((qX c.at_ x).map D.str)) hp;have lp:=@oW M p ((qX c.at_ x).map D.str);have np:=h.bd.mY hp;have h':=h.sub t1;have s1:qD A M A (oX M p (.lst ((qX c.at_ x).map D.str))):=.sub t1;generalize oX M p (.lst ((qX c.at_ x).map D.str))=M1 at t1 lp h' s1 ⊢;clear h1 h2 h3 h4 n1 n2;obtain⟨ad,md,h1,h2,h3,h4,n1,n2⟩:=h'.cell;refine oP h1 ⟨(G.j "at" rfl),by show 8<1000;decide,?_⟩;obtain⟨g2,s2⟩:=h'.put {c with at_:=qX c.at_ x} rfl lp h4 np n2;rw[show vt "at" (.ref p) (qO c k.wy ad md)=qO {c with at_:=qX c.at_ x} k.wy p md from rfl];generalize oX M1 k.p (.ins a.e (qO {c with at_:=qX c.at_ x} k.wy p md))=M2 at g2 s2 ⊢;clear h1 h2 h3 h4 n1 n2 lp np;obtain⟨ad,md,h1,h2,h3,h4,n1,n2⟩:=g2.cell;refine oP h1 (i' rfl (i' h4 (sR (f:=id) (t:=ND x) h4 _ [] _ (by rw[cR];simp only[dD];show 0+c.ms.length<=sizeLine;omega) (λd hd k0 hk=>?_) (λd hd _ k0 hk=>?_) λp2 VT=>?_)))
 .obtain⟨y,hy,rfl⟩:=dz.mp hd;exact hk
 .obtain⟨y,hy,rfl⟩:=dz.mp hd;exact hk
 rw[AU];have t3:=qa.new (c:=.lst ((qX c.ms x).map D.str)) VT;have lp:=@oW M2 p2 ((qX c.ms x).map D.str);have np:=g2.bd.mY VT;have Yg:=g2.sub t3;have s3:qD A M2 A (oX M2 p2 (.lst ((qX c.ms x).map D.str))):=.sub t3;generalize oX M2 p2 (.lst ((qX c.ms x).map D.str))=M3 at t3 lp Yg s3 ⊢;clear h1 h2 h3 h4 n1 n2;obtain⟨ad,md,h1,h2,h3,h4,n1,n2⟩:=Yg.cell;refine oP h1 ⟨(G.j "members" rfl),by show 8<1000;decide,_,.refl,?_⟩;obtain⟨g4,s4⟩:=Yg.put (c.drop x) rfl h3 lp n1 np;refine q _ ((s1.trans s2).trans (s3.trans s4)) ?_;have:=g4.bd;rw[rJ]at this;exact this
def IS(G:Gl K mg a):Fq P w K mg base 2 a.aP (Jj a):=by
 refine fq G.aP.toDG xw (λr u=>⟨_,(oN (pj 2 xw (pf U1 oQ))
 (oO (pA (oZ u U2 oR)
 (oN (pK v0 oR)
 (oN (pK v0 (pZ sL rfl G.y su (pR (pf U1 oQ))))
 (oO (pK v0 oQ))))
 (oO (pA (oZ u U2 oR)
 (oO (pK v0 (qA sd)))
 (oO (pA (oZ u U2 oR)
 (oN (pK v0 oR)
 (oO (pK v0 (qA (pR (pf U1 oQ))))))
 (oO (pA (oZ u U2 oR)
 (oN (pK v0 oR)
 (oN (pK v0 (pZ sL rfl G.y su (pR (pf U1 oQ))))
 (oN (pK v0 (qA sd))
 (oO (pK v0 rE)))))
 (oO (pA (oZ u U2 oR)
 (oN (pK v0 oR)
 (oO (pK v0 (pf U1 oQ))))
 (oO (pA (oZ u U2 oR)
 (oO (pq (o9 (Lz G) r G.aO (rA v0 (pf U1 oQ)))))
 (oO (pA (oZ u U2 oR)
 (oO (pq (o9 (Ij G) r G.ab (rA v0 (pf U1 oQ)))))
 pb))))))))))))))),?_⟩)
 rintro ds M Q ⟨A,V,i,k,c,e,c',rfl,h,la,lm,hc,q⟩
 cases hc with
 | over w0=>exact⟨A,V,i,k,c,w0,rfl,h,λM' s b=>⟨M',.refl,q M' s b⟩⟩
 | leaves x=>exact⟨A,V,i,k,c,x,rfl,h,la,lm,λM' s b=>⟨M',.refl,q M' s b⟩⟩
 | quiet=>refine⟨oK rfl,λp hp=>?_⟩;have t3:=qa.new (c:=.lst []) hp;have lp:=@oW M p [];have np:=h.bd.mY hp;have g1:=h.sub t3;generalize oX M p (.lst [])=M1 at t3 lp g1 ⊢;obtain⟨ad,md,h1,h2,h3,h4,n1,n2⟩:=g1.cell;refine oP h1 ⟨(G.j "at" rfl),by show 8<1000;decide,_,.refl,?_⟩;obtain⟨g5,s5⟩:=g1.put c.nv rfl lp h4 np n2;exact q _ ((qD.sub t3).trans s5) g5.bd
 | waits x=>obtain⟨ad,md,h1,h2,h3,h4,n1,n2⟩:=h.cell;refine oP h1 ⟨(G.j "state" rfl),by show 8<1000;decide,?_⟩;obtain⟨g1,s1⟩:=h.put {c with st:="waits"} rfl h3 h4 n1 n2;show uc _ _ _ _ (oX M k.p (.ins a.e (qO {c with st:="waits"} k.wy ad md)));generalize oX M k.p (.ins a.e (qO {c with st:="waits"} k.wy ad md))=M1 at g1 s1 ⊢;clear h1 h2 h3 h4 n1 n2;refine⟨oK rfl,λp hp=>?_⟩;have t3:=qa.new (c:=.lst [D.str x]) hp;have lp:=@oW M1 p [D.str x];have np:=g1.bd.mY hp;have XI:=g1.sub t3;generalize oX M1 p (.lst [D.str x])=M1' at t3 lp XI ⊢;obtain⟨ad,md,h1,h2,h3,h4,n1,n2⟩:=XI.cell;refine oP h1 ⟨(G.j "at" rfl),by show 8<1000;decide,_,.refl,?_⟩;obtain⟨g5,s5⟩:=XI.put (c.wait x) rfl lp h4 np n2;refine q _ (s1.trans ((qD.sub t3).trans s5)) ?_;have:=g5.bd;rw[rJ]at this;exact this
 | held x=>obtain⟨ad,md,h1,h2,h3,h4,n1,n2⟩:=h.cell;refine oP h1 ⟨(G.j "state" rfl),by show 8<1000;decide,?_⟩;obtain⟨g1,s1⟩:=h.put {c with st:="held"} rfl h3 h4 n1 n2;show uc _ _ _ _ (oX M k.p (.ins a.e (qO {c with st:="held"} k.wy ad md)));generalize oX M k.p (.ins a.e (qO {c with st:="held"} k.wy ad md))=M1 at g1 s1 ⊢;clear h1 h2 h3 h4 n1 n2;obtain⟨ad,md,h1,h2,h3,h4,n1,n2⟩:=g1.cell;refine oP h1 ⟨(G.j "holder" rfl),by show 8<1000;decide,_,.refl,?_⟩;obtain⟨g5,s5⟩:=g1.put (c.hold x) rfl h3 h4 n1 n2;refine q _ (s1.trans s5) ?_;have:=g5.bd;rw[rJ]at this;exact this
 | rings ps=>obtain⟨ad,md,h1,h2,h3,h4,n1,n2⟩:=h.cell;refine oP h1 ⟨(G.j "state" rfl),by show 8<1000;decide,?_⟩;obtain⟨g1,s1⟩:=h.put {c with st:="rings"} rfl h3 h4 n1 n2;show uc _ _ _ _ (oX M k.p (.ins a.e (qO {c with st:="rings"} k.wy ad md)));generalize oX M k.p (.ins a.e (qO {c with st:="rings"} k.wy ad md))=M1 at g1 s1 ⊢;clear h1 h2 h3 h4 n1 n2;refine λp hp=>?_;have t3:=qa.new (c:=.lst (ps.map D.str)) hp;have lp:=@oW M1 p (ps.map D.str);have np:=g1.bd.mY hp;have XI:=g1.sub t3;have s1':=s1.trans (.sub t3);generalize oX M1 p (.lst (ps.map D.str))=M1' at t3 lp XI s1' ⊢;obtain⟨ad,md,h1,h2,h3,h4,n1,n2⟩:=XI.cell;refine oP h1 ⟨(G.j "at" rfl),by show 8<1000;decide,?_⟩;obtain⟨g3,s3⟩:=XI.put {c with st:="rings",at_:=ps} rfl lp h4 np n2;rw[show vt "at" (.ref p) (qO {c with st:="rings"} k.wy ad md)=qO {c with st:="rings",at_:=ps} k.wy p md from rfl];generalize oX M1' k.p (.ins a.e (qO {c with st:="rings",at_:=ps} k.wy p md))=M3 at g3 s3 ⊢;clear h1 h2 h3 h4 n1 n2 lp t3 np;obtain⟨ad,md,h1,h2,h3,h4,n1,n2⟩:=g3.cell;refine oP h1 ⟨(G.j "since" rfl),by show 8<1000;decide,_,.refl,?_⟩;obtain⟨g5,s5⟩:=g3.put (c.ring ps) rfl h3 h4 n1 n2;refine q _ (s1'.trans (s3.trans s5)) ?_;have:=g5.bd;rw[rJ,rJ]at this;exact this
 | talks ms=>obtain⟨ad,md,h1,h2,h3,h4,n1,n2⟩:=h.cell;refine oP h1 ⟨(G.j "state" rfl),by show 8<1000;decide,?_⟩;obtain⟨g1,s1⟩:=h.put {c with st:="talks"} rfl h3 h4 n1 n2;show uc _ _ _ _ (oX M k.p (.ins a.e (qO {c with st:="talks"} k.wy ad md)));generalize oX M k.p (.ins a.e (qO {c with st:="talks"} k.wy ad md))=M1 at g1 s1 ⊢;clear h1 h2 h3 h4 n1 n2;refine λp hp=>?_;have t3:=qa.new (c:=.lst (ms.map D.str)) hp;have lp:=@oW M1 p (ms.map D.str);have np:=g1.bd.mY hp;have XI:=g1.sub t3;have s1':=s1.trans (.sub t3);generalize oX M1 p (.lst (ms.map D.str))=M1' at t3 lp XI s1' ⊢;obtain⟨ad,md,h1,h2,h3,h4,n1,n2⟩:=XI.cell;refine oP h1 ⟨(G.j "members" rfl),by show 8<1000;decide,?_⟩;obtain⟨g3,s3⟩:=XI.put {c with st:="talks",ms:=ms} rfl h3 lp n1 np;show uc _ _ _ _ (oX M1' k.p (.ins a.e (qO {c with st:="talks",ms:=ms} k.wy ad p)));generalize oX M1' k.p (.ins a.e (qO {c with st:="talks",ms:=ms} k.wy ad p))=M3 at g3 s3 ⊢;clear h1 h2 h3 h4 n1 n2 lp t3 np;refine⟨oK rfl,λp2 VT=>?_⟩;have t4:=qa.new (c:=.lst []) VT;have lp:=@oW M3 p2 [];have np:=g3.bd.mY VT;have Yy:=g3.sub t4;have s3':=s3.trans (.sub t4);generalize oX M3 p2 (.lst [])=M3' at t4 lp Yy s3' ⊢;obtain⟨ad,md,h1,h2,h3,h4,n1,n2⟩:=Yy.cell;refine oP h1 ⟨(G.j "at" rfl),by show 8<1000;decide,?_⟩;obtain⟨g4,s4⟩:=Yy.put {c with st:="talks",ms:=ms,at_:=[]} rfl lp h4 np n2;rw[show vt "at" (.ref p2) (qO {c with st:="talks",ms:=ms} k.wy ad md)=qO {c with st:="talks",ms:=ms,at_:=[]} k.wy p2 md from rfl];generalize oX M3' k.p (.ins a.e (qO {c with st:="talks",ms:=ms,at_:=[]} k.wy p2 md))=M4 at g4 s4 ⊢;clear h1 h2 h3 h4 n1 n2 lp t4 np;obtain⟨ad,md,h1,h2,h3,h4,n1,n2⟩:=g4.cell;refine oP h1 ⟨(G.j "holder" rfl),by show 8<1000;decide,_,.refl,?_⟩;obtain⟨g5,s5⟩:=g4.put (c.nk ms) rfl h3 h4 n1 n2;refine q _ (s1'.trans (s3'.trans (s4.trans s5))) ?_;have:=g5.bd;rw[rJ,rJ,rJ]at this;exact this
theorem sN{α:Type}{f:α->α}:∀{l:List α} {i:Nat} {c:α},l[i]?=some c->l.modify i f=l.set i (f c)
 | [],_,_,h=>by simp at h
 | _::_,0,_,h=>by cases h;rfl
 | x::r,i+1,c,h=>by rw[List.modify_succ_cons,kT,sN (l:=r) (by simpa using h)]
def G7(ps:List (Str×Int))(z:Str)(n:Int):AZ (sI ps) (.inr z) (.int n)=sI (AM ps z n):=by
 have ea:((sI ps).any λkv=>decide (kv.1=(Sum.inr z:qK)))=ps.any λp=>decide (p.1=z):=by unfold sI;rw[jD];congr 1;funext p;have:((Sum.inr p.1:qK)=Sum.inr z)=(p.1=z):=propext ⟨λh=>jO h,λh=>by rw[h]⟩;simp only[Function.comp,this]
 unfold AZ AM;rw[ea];by_cases h:(ps.any λp=>decide (p.1=z))=true
 .rw[cY h,cY h];unfold sI;rw[dZ,dZ];refine gQ λp _=>?_;by_cases hp:p.1=z
  .simp[hp]
  .have:¬(Sum.inr p.1:qK)=Sum.inr z:=λy=>hp (jO y);simp[hp]
 .rw[cW h,cW h];unfold sI;rw[dJ];rfl
def FI{α:Type}{l:List α}{i:Nat}{x:α}(h:l[i]?=some x):l.set i x=l:=by obtain⟨hi,e⟩:=cV.mp h;rw[<-e,List.set_getElem_self]
structure Vg(V:qe):Prop where
 lo:V.log.length<10000000
 le:V.mJ.length<10000000
 ca:V.calls.length<=1000000
 ps:V.ps.length<10000000
 cs:∀c∈V.calls,c.way.length<10000000/\c.at_.length<=100/\c.ms.length<=100
def Ax(a:Ad):qN:=λds M Q=>Gh λA V k c v=>ds=[.ref A.b,rC.d v]/\CI a M A V v.i k c/\V.mJ.length<10000000/\c.way.length<10000000/\∀M',qD A M A M'->pk a M' A {xX V v.i (c.go v.g)with mJ:=V.mJ++[v]}->Q .mC M'
def Cj(a:Ad):qN:=λds M Q=>RV λA V i j ki ci cj ms=>ds=[.ref A.b,.int (i:Nat),.int (j:Nat),names ms]/\CI a M A V i ki ci/\V.calls[j]?=some cj/\i≠j/\V.mJ.length<10000000/\∀M' A',A'.b=A.b->qD A M A' M'->pk a M' A' {xX (xX V i (ci.over "merged")) j (cj.mem ms)with mJ:=V.mJ.map (rC.to i j)}->Q .mC M'
def yD(a:Ad):qN:=λds M Q=>Bj λA V=>ds=[.ref A.b]/\pk a M A V/\∀M',qD A M A M'->pk a M' A {V with t:=V.t+1,calls:=V.calls.map oS.tick}->Q .mC M'
def vo(a:Ad):qN:=λds M Q=>zZ λb A V e=>ds=[.ref b,Ev.d e]/\A.b=b/\pk a M A V/\Vg V/\e.ok V/\∀M' A',A'.b=A.b->qD A M A' M'->pk a M' A' (pO V e)->Q .mC M'
noncomputable def Q0(m k:Nat):D->D
 | .tup (.int i::r)=>if i=(m:Int)then .tup (.int (k:Nat)::r)else .tup (.int i::r)
 | d=>d
def QN(m k:Nat)(v:rC):Q0 m k v.d=(v.to m k).d:=by
 show(if ((v.i:Nat):Int)=(m:Int)then _ else _)=_;unfold rC.to;by_cases h:v.i=m
 .rw[cY h,cY (by rw[h])];rfl
 .rw[cW h,cW (by omega)];rfl
def G1(G:Gl K mg a):Fq P w K mg base 1 a.bA (Ax a):=by
 refine fq G.bA.toDG zq (λr u=>⟨_,(oN (pq (qM (oU v0) (pR U1)))
 (oO (pq (qM (oU (pf (oU v0) (pf U1 oQ))) (pR (pf U1 oQ)))))),?_⟩)
 rintro ds M Q ⟨A,V,k,c,v,rfl,ci,l1,l2,q⟩
 have hz:=dN;have bd:=ci.bd;refine oP bd.at_ (i' rfl ⟨by show(oy M A.le).isSome=true;rw[bd.le];rfl,i' bd.le ⟨by rw[cR];omega,?_⟩⟩);obtain⟨b1,s1⟩:=bd.oi (es:=V.mJ++[v]);rw[dJ]at b1 s1;have b1:pk a (oX M A.le (.lst (V.mJ.map rC.d++[v.d]))) A {V with mJ:=V.mJ++[v]}:=b1;have s1:qD A M A (oX M A.le (.lst (V.mJ.map rC.d++[v.d]))):=s1;generalize oX M A.le (.lst (V.mJ.map rC.d++[v.d]))=M1 at b1 s1 ⊢;obtain⟨ad,md,h1,h2,h3,h4,n1,n2⟩:=b1.cs v.i k c ci.e1 ci.e2;refine oP b1.at_ (i' rfl (i' b1.ca (i' (qP ci.e1) (oP h1 (i' rfl ⟨by show(oy M1 k.wy).isSome=true;rw[h2];rfl,i' h2 ⟨by rw[cR];omega,?_⟩⟩)))));obtain⟨b2,s2⟩:=b1.nW (ws:=c.way++[v.g]) ci.e1 ci.e2;rw[dJ]at b2 s2;exact⟨_,.refl,q _ (s1.trans s2) b2⟩
def L1(G:Gl K mg a):Fq P w K mg base 2 a.bB (Cj a):=by
 refine fq G.bB.toDG xn (λr u=>⟨_,(oN (pq (o9 (Ij G) r G.ab (rA (pf (oU v0) U1) oR)))
 (oN (pK v0 (ql rfl (wC (ix:=[none,some 1,some 2]) (N':=["leg","merged","kept"])) (qk (oU v0)) (qg 0) rh (PR (oZ u (pf v0 oQ) U1) (pH (pz (pR U2)) (rO v0 (r6 oQ) sS)) v0)))
 (oN (pj 4 xn (pf (oU v0) U2))
 (oO (pK v4 (pZ sL rfl G.y su (pR U3))))))),?_⟩)
 rintro ds M Q ⟨A,V,i,j,ki,ci,cj,ms,rfl,hi,hj,WL,l1,q⟩
 have hz:=dN;refine oP hi.bd.at_ (i' rfl (i' rfl (i' hi.bd.ca (i' (qP hi.e1) ⟨A,V,i,ki,ci,"merged",rfl,hi,λM1 s1 b1=>?_⟩))));have hj1:(xX V i (ci.over "merged")).calls[j]?=some cj:=by show(V.calls.set i _)[j]?=_;rw[eP WL];exact hj
 have le1:oy M1 A.le=some (V.mJ.map rC.d):=b1.le;refine oP b1.at_ (i' rfl (i' le1 (qH (f:=Q0 i j) le1 _ [] _ (by rw[cR];simp only[dD];omega) (λd hd k hk=>?_) λp hp=>?_)))
 .obtain⟨v,_,rfl⟩:=dz.mp hd;refine i' rfl ?_;have hk:k (if ((v.i:Nat):Int)=(i:Int)then .tup [.int (j:Nat),.str v.f,.str v.g,.str v.y]else .tup [.int (v.i:Nat),.str v.f,.str v.g,.str v.y]) M1:=hk;refine qm (c:=((v.i:Nat):Int)==(i:Nat)) (λz=>?_) (λz=>?_)
  .rw[cY (eq_of_beq z)]at hk;exact⟨oK rfl,fC _ _,by show 1+3<=sizeLine;omega,hk⟩
  .rw[cW (λy=>z (by rw[y];exact fg _))]at hk;exact hk
 have em:[]++(V.mJ.map rC.d).map (Q0 i j)=(V.mJ.map (rC.to i j)).map rC.d:=by rw[dW,dZ,dZ];exact gQ λv _=>QN i j v
 rw[em];obtain⟨b2,s2⟩:=b1.nU (es:=V.mJ.map (rC.to i j)) hp;have t:=qa.new (c:=.lst ((V.mJ.map (rC.to i j)).map rC.d)) hp;refine oP (t _ _ b1.at_) ⟨(G.C "legs" rfl),by show 8<1000;decide,?_⟩;show uc _ _ _ _ (oX (oX M1 p (.lst ((V.mJ.map (rC.to i j)).map rC.d))) A.b (.ins a.c (sU (.ref V.p) V.h V.t A.ca p A.nx A.on A.lo)));have b2:pk a (oX (oX M1 p (.lst ((V.mJ.map (rC.to i j)).map rC.d))) A.b (.ins a.c (sU (.ref V.p) V.h V.t A.ca p A.nx A.on A.lo))) {A with le:=p} {xX V i (ci.over "merged")with mJ:=V.mJ.map (rC.to i j)}:=b2;have s2:qD A M1 {A with le:=p} (oX (oX M1 p (.lst ((V.mJ.map (rC.to i j)).map rC.d))) A.b (.ins a.c (sU (.ref V.p) V.h V.t A.ca p A.nx A.on A.lo))):=s2;generalize oX (oX M1 p (.lst ((V.mJ.map (rC.to i j)).map rC.d))) A.b (.ins a.c (sU (.ref V.p) V.h V.t A.ca p A.nx A.on A.lo))=M2 at b2 s2 ⊢;have hjk:j<A.cs.length:=by rw[hi.bd.len];exact(cV.mp hj).1
 have ej:A.cs[j]?=some A.cs[j]:=cT hjk;generalize A.cs[j]=kj at ej;have cj2:CI a M2 {A with le:=p} _ j kj cj:=⟨b2,ej,hj1⟩;refine oP b2.at_ (i' rfl (i' rfl (i' b2.ca (i' (qP ej) ?_))));refine λr Y3=>?_;have t3:=qa.new (c:=.lst (ms.map D.str)) Y3;have lr:=@oW M2 r (ms.map D.str);have nr:=b2.mY Y3;have cj3:=cj2.sub t3;generalize oX M2 r (.lst (ms.map D.str))=M3 at t3 lr cj3 ⊢;obtain⟨ad,md,h1,h2,h3,h4,n1,n2⟩:=cj3.cell;refine oP h1 ⟨(G.j "members" rfl),by show 8<1000;decide,_,.refl,?_⟩;obtain⟨g5,s5⟩:=cj3.put (cj.mem ms) rfl h3 lr n1 nr;exact q _ {A with le:=p} rfl (s1.trans (s2.trans ((qD.sub t3).trans s5))) g5.bd
def Ex(G:Gl K mg a):Fq P w K mg base 1 a.bC (yD a):=by
 refine fq G.bC.toDG uS (λr u=>⟨_,(oN (CN v0 oQ)
 (oO (tZ eV rfl (qk (oU v0)) (qJ 1 uS)
 (oO (pA (oZ u (oU U1) oR)
 (oO (CN U1 oQ))
 pb))))),?_⟩)
 rintro ds M Q ⟨A,V,rfl,bd,q⟩
 refine oP bd.at_ ⟨(G.C "turn" rfl),i' rfl (i' rfl (oP bd.at_ ⟨rfl,by show 8<1000;decide,?_⟩))⟩;obtain⟨b1,s1⟩:=bd.putT (t:=V.t+1);rw[show vt "turn" (.int (V.t+1)) (sU (.ref V.p) V.h V.t A.ca A.le A.nx A.on A.lo)=sU (.ref V.p) V.h (V.t+1) A.ca A.le A.nx A.on A.lo from rfl];generalize oX M A.b (.ins a.c (sU (.ref V.p) V.h (V.t+1) A.ca A.le A.nx A.on A.lo))=M1 at b1 s1 ⊢;refine oP b1.at_ (i' rfl (i' b1.ca ?_));refine uM (A.cs.map λk=>D.ref k.p) (λpre δ M'=>pk a M' A {V with t:=V.t+1,calls:=(V.calls.take pre.length).map oS.tick++V.calls.drop pre.length}/\qD A M A M'/\∃y,δ=[some (.ref A.b),y]) (λ_ _ M' j=>j.1.ca) _ [] _ _ rfl ⟨b1,s1,none,rfl⟩ ?_ ?_
 .rintro pre d post e δ M' ⟨b2,s2,y,rfl⟩ nx VY
  have hd:(A.cs.map λk=>D.ref k.p)[pre.length]?=some d:=by rw[<-e];simp
  rw[dA]at hd;cases ek:A.cs[pre.length]? with
  | none=>rw[ek]at hd;cases hd
  | some k=>
   rw[ek]at hd;have hd:D.ref k.p=d:=df hd;subst hd;have hi:pre.length<V.calls.length:=by rw[<-bd.len];exact(cV.mp ek).1
   have ec:V.calls[pre.length]?=some V.calls[pre.length]:=cT hi;have ed:V.calls.drop pre.length=V.calls[pre.length]::V.calls.drop (pre.length+1):=gK hi;have et:V.calls.take (pre.length+1)=V.calls.take pre.length++[V.calls[pre.length]]:=by rw[gH,ec];rfl
   generalize V.calls[pre.length]=c at ec ed et;have hl:((V.calls.take pre.length).map oS.tick).length=pre.length:=by rw[cR,fB];omega
   have ec2:((V.calls.take pre.length).map oS.tick++V.calls.drop pre.length)[pre.length]?=some c:=by rw[eE (by rw[hl];exact de _),hl,h9,ed];rfl
   rw[cU,dH,et]at VY;have en:((V.calls.take pre.length).map oS.tick++V.calls.drop pre.length).set pre.length c.tick=(V.calls.take pre.length++[c]).map oS.tick++V.calls.drop (pre.length+1):=by rw[j3 _ _ (by rw[hl];exact de _),hl,h9,ed,dJ,fi];rfl
   have ci:CI a M' A _ pre.length k c:=⟨b2,ek,ec2⟩;obtain⟨ad,md,h1,h2,h3,h4,n1,n2⟩:=ci.cell;refine oP h1 (i' rfl ?_);have ht:c.tick=if (c.st=="rings")=true then{c with si:=c.si+1}else c:=rfl;refine qm (c:=c.st=="rings") (λg=>?_) (λg=>?_)
   .rw[cY g]at ht;refine oP h1 ⟨(G.j "since" rfl),i' rfl (i' rfl (oP h1 ⟨rfl,by show 8<1000;decide,?_⟩))⟩;obtain⟨g5,s5⟩:=ci.put c.tick (by rw[ht]) (by rw[ht];exact h3) (by rw[ht];exact h4) n1 n2;have b5:=g5.bd;unfold xX at b5;rw[en]at b5;rw[ht]at b5 s5;exact VY _ _ ⟨b5,s2.trans s5,_,rfl⟩
   .rw[cW g]at ht;rw[ht,FI ec2]at en;rw[en]at b2;exact VY _ _ ⟨b2,s2,_,rfl⟩
 .rintro δ M' ⟨b2,s2,y,rfl⟩
  rw[cR,bd.len,eW,jA,eM]at b2;exact⟨M',.refl,q M' s2 b2⟩
def qG(G:Gl K mg a):Fq P w K mg base 3 a.k (vo a):=by
 refine fq G.k.toDG wJ (λr u=>⟨_,(oN (pq (qM (oU v0) (pR U1)))
 (oN (pj 2 wJ (pf U1 oQ))
 (oO (pA (oZ u U2 oR)
 (oO (pq (qM (oU v0) (pR (uP (NX G) r G.e G.cf G.ar.toDG (pR (pf U1 oQ)))))))
 (oO (pA (oZ u U2 oR)
 (oO (pq (pG v0 G.c.toCls G.bA (G1 G) r (pR (rO U1 (r6 oQ) sS)))))
 (oO (pA (oZ u U2 oR)
 (oO (Pa u (oU v0) (pf U1 oQ) (pf U1 oQ)))
 (oO (pA (oZ u U2 oR)
 (oO (pq (pG v0 G.c.toCls G.bB (L1 G) r (qR (pf U1 oQ) (pf U1 oQ) (pf U1 oQ)))))
 (oO (pA (oZ u U2 oR)
 (oO (pq (xH v0 G.c.toCls G.bC (Ex G) r)))
 (oO (pA (oZ u U2 (pz (rA oR oR)))
 (oO (Gi (pN u U2 oR) (Qy (oU v0) (pf U1 oQ))))
 (oO (pA (oZ u U2 oR)
 (oO (pq (o9 (IS G) r G.aP (rA (pf (oU v0) (pf U1 oQ)) U1))))
 pb)))))))))))))))),?_⟩)
 rintro ds M Q ⟨_,A,V,e,rfl,rfl,bd,lim,ev,q⟩
 have hz:=dN;have ll:=lim.lo;have lc:=lim.ca;have lp:=lim.ps;refine oP bd.at_ (i' rfl ⟨by show(oy M A.lo).isSome=true;rw[bd.lo];rfl,i' bd.lo ⟨by rw[cR];omega,?_⟩⟩);have hb:=bd.oa (es:=V.log++[e]);rw[dJ]at hb;obtain⟨b1,s1⟩:pk a (oX M A.lo (.lst (V.log.map Ev.d++[e.d]))) A (qw V e)/\qD A M A (oX M A.lo (.lst (V.log.map Ev.d++[e.d]))):=hb;show uc _ _ _ _ (oX M A.lo (.lst (V.log.map Ev.d++[e.d])));generalize oX M A.lo (.lst (V.log.map Ev.d++[e.d]))=M1 at b1 s1 ⊢;have XY:∀i,i<V.calls.length->∃k c,A.cs[i]?=some k/\V.calls[i]?=some c/\c∈V.calls:=λi hi=>by
  have WZ:i<A.cs.length:=by rw[bd.len];exact hi
  exact⟨_,_,cT WZ,cT hi,gN hi⟩
 have Y4:∀(i:Nat) (k:qS) (c:oS) (c':oS) (f:oS->oS),A.cs[i]?=some k->V.calls[i]?=some c->f c=c'->pO V e=wN (qw V e) i f->∀(M2:Mp),qD A M1 A M2->pk a M2 A (xX (qw V e) i c')->∃VQ,qa VQ M2/\Q .mC VQ:=λi k c c' f e1 e2 e3 e4 M2 s2 b2=>⟨M2,.refl,q M2 A rfl (s1.trans s2) (by
  rw[e4];unfold wN;rw[show(qw V e).calls=V.calls from rfl,sN e2,e3];exact b2)⟩
 cases e with
 | new n x=>refine oP b1.at_ (i' rfl ⟨by show(oy M1 A.ca).isSome=true;rw[b1.ca];rfl,λp hp=>⟨p,x,rfl,pC,λM2 wy ad md kp z1 z2 z3 n1 n2 h1 h2 h3 h4=>⟨rfl,?_⟩⟩⟩);have sp:=qa.new (c:=.ins a.e []) hp;have s2:qa M1 M2:=λy d hy=>kp y d (Pb hy hp) (sp y d hy);refine i' (s2.lst b1.ca) ⟨by rw[cR,b1.len];show V.calls.length<sizeLine;omega,?_⟩;obtain⟨b3,s3⟩:=b1.nR s2 (c:=yE x) hp (sp.none z1) (sp.none z2) (sp.none z3) h1 h2 h3 h4 n1 n2;exact⟨_,.refl,q _ (A.add ⟨p,wy⟩) rfl (s1.trans s3) b3⟩
 | leg v=>obtain⟨k,c,ek,ec,hc⟩:=XY v.i ev;refine oP b1.at_ ⟨rfl,_,⟨rfl,rfl⟩,A,qw V (.leg v),k,c,v,rfl,⟨b1,ek,ec⟩,lim.le,(lim.cs c hc).1,λM2 s2 b2=>⟨M2,.refl,q M2 A rfl (s1.trans s2) ?_⟩⟩;show pk a M2 A {qw V (.leg v)with mJ:=V.mJ++[v],calls:=V.calls.modify v.i (·.go v.g)};rw[sN ec];exact b2
 | next z n=>refine oP b1.at_ (i' rfl (i' b1.nx ⟨by show(sI V.ps).length<sizeLine;unfold sI;rw[cR];omega,?_⟩));rw[G7];obtain⟨b2,s2⟩:=b1.ou (ps:=AM V.ps z n);exact⟨_,.refl,q _ A rfl (s1.trans s2) b2⟩
 | merge i j ms=>obtain⟨hi,hj,hij,_⟩:=ev;obtain⟨ki,ci,eki,eci,hci⟩:=XY i hi;obtain⟨kj,cj,ekj,ecj,hcj⟩:=XY j hj;refine oP b1.at_ ⟨rfl,_,⟨rfl,rfl⟩,A,qw V (.merge i j ms),i,j,ki,ci,cj,ms,rfl,⟨b1,eki,eci⟩,ecj,hij,lim.le,λM2 A2 eb s2 b2=>⟨M2,.refl,q M2 A2 eb (s1.trans s2) ?_⟩⟩;show pk a M2 A2 {qw V (.merge i j ms)with calls:=(V.calls.modify i (·.over "merged")).modify j (·.mem ms),mJ:=V.mJ.map (rC.to i j)};rw[sN eci,sN (show(V.calls.set i _)[j]?=some cj by rw[eP hij];exact ecj)];exact b2
 | asks i z ns=>exact⟨oK rfl,rfl,rfl,M1,.refl,q M1 A rfl s1 b1⟩
 | turn=>exact oP b1.at_ ⟨rfl,_,⟨rfl,rfl⟩,A,qw V .turn,rfl,b1,λM2 s2 b2=>⟨M2,.refl,q M2 A rfl (s1.trans s2) b2⟩⟩
 | sw b i=>
  have hi:i<V.on.length:=ev;obtain⟨b2,s2⟩:=b1.oz (bs:=V.on.set i b);have es:(V.on.map D.bl).set i (.bl b)=(V.on.set i b).map D.bl:=(me).symm;have ix:Fj (V.on.map D.bl).length (i:Nat)=some i:=by rw[cR];unfold Fj;simp[hi]
  have VP:∃VQ,qa VQ (oX M1 A.on (.lst ((V.on.map D.bl).set i (.bl b))))/\Q .mC VQ:=by rw[es];exact⟨_,.refl,q _ A rfl (s1.trans s2) b2⟩
  cases b with
  | true=>exact⟨oK rfl,rfl,rfl,oP b1.at_ (i' rfl (i' b1.on (i' ix VP)))⟩
  | false=>exact⟨oK rfl,rfl,rfl,oP b1.at_ (i' rfl (i' b1.on (i' ix VP)))⟩
 | rings i ps=>obtain⟨k,c,ek,ec,hc⟩:=XY i ev.1;exact⟨oK rfl,rfl,rfl,oP b1.at_ (i' rfl (i' b1.ca (i' (qP ek) ⟨A,qw V _,i,k,c,_,_,rfl,⟨b1,ek,ec⟩,(lim.cs c hc).2.1,(lim.cs c hc).2.2,.rings ps,Y4 i k c _ _ ek ec rfl rfl⟩)))⟩
 | quiet i=>obtain⟨k,c,ek,ec,hc⟩:=XY i ev;exact⟨oK rfl,rfl,rfl,oP b1.at_ (i' rfl (i' b1.ca (i' (qP ek) ⟨A,qw V _,i,k,c,_,_,rfl,⟨b1,ek,ec⟩,(lim.cs c hc).2.1,(lim.cs c hc).2.2,.quiet,Y4 i k c _ _ ek ec rfl rfl⟩)))⟩
 | waits i x=>obtain⟨k,c,ek,ec,hc⟩:=XY i ev;exact⟨oK rfl,rfl,rfl,oP b1.at_ (i' rfl (i' b1.ca (i' (qP ek) ⟨A,qw V _,i,k,c,_,_,rfl,⟨b1,ek,ec⟩,(lim.cs c hc).2.1,(lim.cs c hc).2.2,.waits x,Y4 i k c _ _ ek ec rfl rfl⟩)))⟩
 | talks i ms=>obtain⟨k,c,ek,ec,hc⟩:=XY i ev.1;exact⟨oK rfl,rfl,rfl,oP b1.at_ (i' rfl (i' b1.ca (i' (qP ek) ⟨A,qw V _,i,k,c,_,_,rfl,⟨b1,ek,ec⟩,(lim.cs c hc).2.1,(lim.cs c hc).2.2,.talks ms,Y4 i k c _ _ ek ec rfl rfl⟩)))⟩
 | held i x=>obtain⟨k,c,ek,ec,hc⟩:=XY i ev;exact⟨oK rfl,rfl,rfl,oP b1.at_ (i' rfl (i' b1.ca (i' (qP ek) ⟨A,qw V _,i,k,c,_,_,rfl,⟨b1,ek,ec⟩,(lim.cs c hc).2.1,(lim.cs c hc).2.2,.held x,Y4 i k c _ _ ek ec rfl rfl⟩)))⟩
 | leaves i x=>obtain⟨k,c,ek,ec,hc⟩:=XY i ev;exact⟨oK rfl,rfl,rfl,oP b1.at_ (i' rfl (i' b1.ca (i' (qP ek) ⟨A,qw V _,i,k,c,_,_,rfl,⟨b1,ek,ec⟩,(lim.cs c hc).2.1,(lim.cs c hc).2.2,.leaves x,Y4 i k c _ _ ek ec rfl rfl⟩)))⟩
 | over i w0=>obtain⟨k,c,ek,ec,hc⟩:=XY i ev;exact⟨oK rfl,rfl,rfl,oP b1.at_ (i' rfl (i' b1.ca (i' (qP ek) ⟨A,qw V _,i,k,c,_,_,rfl,⟨b1,ek,ec⟩,(lim.cs c hc).2.1,(lim.cs c hc).2.2,.over w0,Y4 i k c _ _ ek ec rfl rfl⟩)))⟩
noncomputable def KS:List Str:=["barred","ring","engaged","left","refused","done","merged"]
def Lv(o:Bool)(c:oS):Prop:=(c.st="rings"/\c.ms=[]/\c.hd=none/\c.wd=none/\(o=true->c.at_=[])/\(o=false->c.at_≠[]))\/(o=false/\((c.st="waits"/\c.ms=[]/\c.hd=none/\c.wd=none/\c.at_.length=1)\/(c.st="talks"/\(c.ms.length=2\/c.ms.length=3)/\c.hd=none/\c.wd=none/\c.at_=[])\/
 (∃x,c.st="held"/\c.ms.length=2/\c.hd=some x/\x∈c.ms/\c.wd=none/\c.at_=[])\/(c.st="over"/\c.ms=[]/\c.hd=none/\c.at_=[]/\∃w∈KS,c.wd=some w)))
structure vn(l:oY)(o:Bool)(c:oS):Prop where
 sh:Lv o c
 cr:c.cr∈l.pn
 at_:∀x∈c.at_,x∈l.pn
 ms:∀x∈c.ms,x∈l.pn
 an:c.at_.Nodup
 mn:c.ms.Nodup
 ca:c.cr∉c.at_
 wy:c.way≠[]/\∀z∈c.way,z∈l.nm
def AB(c:oS)(x:Str):Prop:=c.mS x=true\/c.mI x=true
structure ze(l:oY)(V:qe)(o:Option Nat):Prop where
 ok:∀(i:Nat) c,V.calls[i]?=some c->vn l (o==some i) c
 un:∀(i j:Nat) ci cj x,V.calls[i]?=some ci->V.calls[j]?=some cj->AB ci x->AB cj x->i=j
 ln:∀x∈l.pn,(tY V x:Int)<=vN l x
 wt:∀(i j:Nat) ci cj x,V.calls[i]?=some ci->V.calls[j]?=some cj->ci.mD x=true->cj.mD x=true->i=j
 nx:tT l V
abbrev WF(l:oY)(V:qe):Prop:=ze l V none
structure Sz(V:qe)(c n:Nat):Prop where
 lo:V.log.length<=n
 le:V.mJ.length<=n
 ca:V.calls.length<=c
 ps:V.ps.length<=n
 cs:∀k∈V.calls,k.way.length<=n/\k.at_.length<=100/\k.ms.length<=100
def Sz.mono{V:qe}{c n c' n':Nat}(h:Sz V c n)(hc:c<=c')(hn:n<=n'):Sz V c' n':=⟨dX h.lo hn,dX h.le hn,dX h.ca hc,dX h.ps hn,λk hk=>⟨dX (h.cs k hk).1 hn,(h.cs k hk).2⟩⟩
noncomputable def Ev.nw:Ev->Nat
 | .new _ _=>1
 | _=>0
def LL(ps:List (Str×Int))(z:Str)(n:Int):(AM ps z n).length<=ps.length+1:=by
 unfold AM;split
 .rw[cR];omega
 .rw[cU];exact de _
def HN(ss:List Str)(x:Str):(qX ss x).length<=ss.length:=fP _ _
def EL{α:Type}{f:α->α}{l:List α}{i:Nat}{x:α}(h:x∈l.modify i f):x∈l\/∃y∈l,x=f y:=by
 cases e:l[i]? with
 | none=>rw[kA (by simpa using e)]at h;exact .inl h
 | some c=>
  rw[sN e]at h;rcases List.mem_or_eq_of_mem_set h with g|g
  .exact .inl g
  .exact .inr ⟨c,fQ e,g⟩
def Sz.step{V:qe}{c n:Nat}{e:Ev}(h:Sz V c n)(ok:e.ok V):Sz (pO V e) (c+e.nw) (n+1):=by
 have h1:Sz (qw V e) c (n+1):=⟨by show(V.log++[e]).length<=n+1;rw[cU];exact ie h.lo,jm h.le,h.ca,jm h.ps,λk hk=>⟨jm (h.cs k hk).1,(h.cs k hk).2⟩⟩;have md:∀(i:Nat) (f:oS->oS),(∀k∈V.calls,(f k).way=k.way/\(f k).at_.length<=100/\(f k).ms.length<=100)->Sz (wN (qw V e) i f) c (n+1):=λi f hf=>⟨h1.lo,h1.le,by show(V.calls.modify i f).length<=c;rw[gi];exact h.ca,h1.ps,λk hk=>by
  rcases EL hk with g|⟨y,hy,rfl⟩
  .exact h1.cs k g
  .obtain⟨a1,a2,a3⟩:=hf y hy;exact⟨by rw[a1];exact(h1.cs y hy).1,a2,a3⟩⟩
 cases e with
 | new m x=>
  refine⟨h1.lo,h1.le,by show(V.calls++[yE x]).length<=c+1;rw[cU];exact ie h.ca,h1.ps,λk hk=>?_⟩;rcases dU.mp hk with g|g
  .exact h1.cs k g
  .rw[dg.mp g];exact⟨eZ _,eZ _,eZ _⟩
 | leg v=>
  refine⟨h1.lo,by show(V.mJ++[v]).length<=n+1;rw[cU];exact ie h.le,by show(V.calls.modify v.i _).length<=c;rw[gi];exact h.ca,h1.ps,λk hk=>?_⟩;rcases EL (l:=V.calls) hk with g|⟨y,hy,rfl⟩
  .exact h1.cs k g
  .exact⟨by show(y.way++[v.g]).length<=n+1;rw[cU];exact ie (h.cs y hy).1,(h.cs y hy).2⟩
 | asks i z ns=>exact h1
 | next z m=>exact⟨h1.lo,h1.le,h1.ca,dX (LL _ _ _) (ie h.ps),h1.cs⟩
 | merge i j ms=>
  have m1:=md i (·.over "merged") λk hk=>⟨rfl,eZ _,eZ _⟩;refine⟨h1.lo,by show(V.mJ.map _).length<=n+1;rw[cR];exact h1.le,by show((V.calls.modify i _).modify j _).length<=c;rw[gi,gi];exact h.ca,h1.ps,λk hk=>?_⟩;rcases EL (l:=V.calls.modify i (·.over "merged")) hk with g|⟨y,hy,rfl⟩
  .exact m1.cs k g
  .exact⟨(m1.cs y hy).1,(m1.cs y hy).2.1,ok.2.2.2⟩
 | turn=>
  refine⟨h1.lo,h1.le,by show(V.calls.map oS.tick).length<=c;rw[cR];exact h.ca,h1.ps,λk hk=>?_⟩;obtain⟨y,hy,rfl⟩:=dz.mp hk;have e:y.tick.way=y.way/\y.tick.at_=y.at_/\y.tick.ms=y.ms:=by unfold oS.tick;split<;>exact⟨rfl,rfl,rfl⟩
  rw[e.1,e.2.1,e.2.2];exact h1.cs y hy
 | sw b i=>exact⟨h1.lo,h1.le,h1.ca,h1.ps,h1.cs⟩
 | rings i ps=>exact md i _ λk hk=>⟨rfl,ok.2,(h.cs k hk).2.2⟩
 | quiet i=>exact md i _ λk hk=>⟨rfl,eZ _,(h.cs k hk).2.2⟩
 | waits i x=>exact md i _ λk hk=>⟨rfl,by show 1<=100;decide,(h.cs k hk).2.2⟩
 | talks i ms=>exact md i _ λk hk=>⟨rfl,eZ _,ok.2⟩
 | held i x=>exact md i _ λk hk=>⟨rfl,(h.cs k hk).2.1,(h.cs k hk).2.2⟩
 | leaves i x=>exact md i _ λk hk=>⟨rfl,dX (HN _ _) (h.cs k hk).2.1,dX (HN _ _) (h.cs k hk).2.2⟩
 | over i w=>exact md i _ λk hk=>⟨rfl,eZ _,eZ _⟩
def Rg(V:qe)(e:Ev):(pO V e).p=V.p/\(pO V e).h=V.h/\(pO V e).on.length=V.on.length:=by cases e<;>first|exact⟨rfl,rfl,rfl⟩|exact⟨rfl,rfl,ii⟩
structure ub(a:Ad)(M0 M:Mp)(b:Addr)(A:sX)(V:qe)(l:oY)(c n:Nat):Prop where
 bd:pk a M A V
 pl0:sE a M0 V.p l
 s0:qa M0 M
 fr:∀x∈A.foot,M0 x=none
 b:A.b=b
 sz:Sz V c n
 ok:rg l
 on:V.on.length=l.my.length
variable {M0:Mp}{b:Addr}{A':sX}{V':qe}{l:oY}{n:Nat}
section
variable {c:Nat}
def ub.at_(h:ub a M0 M b A V l c n):M b=some (.ins a.c (sU (.ref V.p) V.h V.t A.ca A.le A.nx A.on A.lo)):=h.b ▸ h.bd.at_
def ub.sub(h:ub a M0 M b A V l c n)(s:qa M M'):ub a M0 M' b A V l c n:=⟨h.bd.sub s,h.pl0,h.s0.trans s,h.fr,h.b,h.sz,h.ok,h.on⟩
def ub.pl(h:ub a M0 M b A V l c n):sE a M V.p l:=h.pl0.sub h.s0
def ub.mono(h:ub a M0 M b A V l c n){c' n':Nat}(hc:c<=c')(hn:n<=n'):ub a M0 M b A V l c' n':=⟨h.bd,h.pl0,h.s0,h.fr,h.b,h.sz.mono hc hn,h.ok,h.on⟩
def ub.lim(h:ub a M0 M b A V l c n)(hc:c<=1000000)(hn:n<9000000):Vg V:=⟨iu h.sz.lo (by omega),iu h.sz.le (by omega),dX h.sz.ca hc,iu h.sz.ps (by omega),λk hk=>⟨iu (h.sz.cs k hk).1 (by omega),(h.sz.cs k hk).2⟩⟩
def ub.rd(h:ub a M0 M b A V l c n)(hc:c<=1000000){o:Option Nat}(wf:ze l V o):Rd a M A V l:=⟨h.bd,dX h.sz.ca hc,h.pl,h.ok,h.on,λk hk=>by
 obtain⟨i,hi,e⟩:=fE hk;exact⟨(wf.ok i k (by rw[cT hi,e])).ms,(h.sz.cs k hk).2.2⟩⟩
def ub.call(h:ub a M0 M b A V l c n){i:Nat}{v:oS}(e:V.calls[i]?=some v):∃k,CI a M A V i k v:=by
 have hi:i<A.cs.length:=by rw[h.bd.len];exact(cV.mp e).1
 exact⟨A.cs[i],h.bd,cT hi,e⟩
def ub.after(h:ub a M0 M b A V l c n){e:Ev}(ok:e.ok V)(eb:A'.b=A.b)(st:qD A M A' M')(bd:pk a M' A' (pO V e)):ub a M0 M' b A' (pO V e) l (c+e.nw) (n+1):=by
 obtain⟨p1,p2,p3⟩:=Rg V e;refine⟨bd,p1 ▸ h.pl0,λx d hx=>st.1 x d (λz=>?_) (h.s0 x d hx),λx hx=>?_,eb.trans h.b,h.sz.step ok,h.ok,p3.trans h.on⟩
 .rw[h.fr x z]at hx;cases hx
 .rcases st.2.1 x hx with z|z
  .exact h.fr x z
  .exact h.s0.none z
end
def Gb(l:oY)(V:qe)(c:Str):vv->Prop
 | .rings z ps=>z∈l.nm/\ps≠[]/\ps=wO l V c z
 | .breaks z=>∃x,x=c/\Gj l V x c z=true
 | .waits z=>z∈l.pn/\z≠c/\zM V z=false
 | .ring ns=>ns≠[]
 | _=>True
def Gc{l:oY}{V:qe}{c z:Str}:(∀x∈wO l V c z,x∈tL l V c z/\x∈l.mv z)/\(wO l V c z).length<=(l.mv z).length:=by
 have hr:∀x∈tL l V c z,x∈l.mv z:=λx hx=>(fz.mp hx).1;unfold wO;split
 .refine⟨λx hx=>?_,?_⟩
  .have hx:=(fz.mp (iL hx)).2;have hx:=qv.mp hx;exact⟨hx,hr x hx⟩
  .cases e:(uB (l.mv z) (yL V z)).filter λx=>hasS (tL l V c z) x with
   | nil=>exact eZ _
   | cons y r=>
    have hy:y∈uB (l.mv z) (yL V z):=(fz.mp (by rw[e];exact dO)).1;have hy:y∈l.mv z:=by
     unfold uB at hy;rcases dU.mp hy with q|q
     .exact iM q
     .exact iL q
    rw[fB];have:=List.length_pos_of_mem hy;omega
 .exact⟨λx hx=>⟨hx,hr x hx⟩,fP _ _⟩
def Nb{l:oY}{V:qe}{c z:Str}(hz:z∈l.nm):Gb l V c (GI l V c z):=by
 unfold GI;split
 .trivial
 .rename_i x r e;exact⟨hz,fC _ _,e.symm⟩
structure xC(l:oY)(V:qe)(c:Str)(n:Nat)(st:sG)(r:vv×sG):Prop where
 e:Gb l V c r.1
 len:r.2.length<=st.length+n
 nm:∀s∈r.2,s∈st\/s.1∈l.nm
 wy:∀ns,r.1=.ring ns->∀z∈ns,z∈l.nm
theorem yI{l:oY}{V:qe}{c:Str}(ok:rg l):∀(n:Nat) (z:Str) (way:List Str) (st:sG),z∈l.nm->(∀x∈way,x∈l.nm)->xC l V c n st (ww l V c n z way st)
 | 0,z,way,st,_,_=>⟨trivial,de _,λs hs=>.inl hs,λns h=>by cases h⟩
 | n+1,z,way,st,hz,hw=>by
  unfold ww;by_cases h:hasS way z=true
  .rw[cY h];refine⟨?_,by show st.length<=_;omega,λs hs=>.inl hs,λns e y hy=>?_⟩
   .have h1:way.findIdx (·==z)<way.length:=List.findIdx_lt_length_of_exists ⟨z,qv.mp h,fg z⟩;show way.drop _≠[];intro g;have:=eQ List.length g;rw[gf]at this;simp only[dD]at this;omega
   .cases e;exact hw y (iM hy)
  rw[cW h];have sn:∀(fs:List Nat),∀s∈st++[(z,fs)],s∈st\/s.1∈l.nm:=λfs s hs=>by
   rcases dU.mp hs with g|g
   .exact .inl g
   .rw[dg.mp g];exact .inr hz
  have sl:∀fs:List Nat,(st++[(z,fs)]).length=st.length+1:=λfs=>by rw[cU];rfl
  cases hf:Di l V c z with
  | nil=>refine⟨Nb hz,by show(st++[(z,[])]).length<=_;rw[sl];omega,sn [],λns e=>?_⟩;have e:GI l V c z=.ring ns:=e;unfold GI at e;split at e<;>cases e
  | cons i r=>
   obtain⟨w,ew,Wp⟩:=Eg (l:=l) (V:=V) (f:=As l V c z) (i:=i) (by show i∈Di l V c z;rw[hf];exact dO);dsimp only;rw[ew];dsimp only[Option.elim];have stop:∀e:vv,Gb l V c e->(∀ns,e≠.ring ns)->xC l V c (n+1) st (e,st++[(z,i::r)]):=λe he Wc=>⟨he,by show(st++[(z,i::r)]).length<=_;rw[sl];omega,sn _,λns g=>absurd g (Wc ns)⟩
   have Yh:∀y,Il z w.2=.inr y->xC l V c (n+1) st (ww l V c n y (way++[z]) (st++[(z,i::r)])):=λy hy=>by
    have hr:=yI (V:=V) (c:=c) ok n y (way++[z]) (st++[(z,i::r)]) (BL ok (qB ew) hy) λx hx=>by
     rcases dU.mp hx with g|g
     .exact hw x g
     .rw[dg.mp g];exact hz
    refine⟨hr.e,by have:=hr.len;rw[sl]at this;omega,λs hs=>?_,hr.wy⟩;rcases hr.nm s hs with g|g
    .exact sn _ s g
    .exact .inr g
   cases hv:w.2 with
   | bar x ns=>exact stop _ trivial λns g=>by cases g
   | shut x ns=>exact stop _ trivial λns g=>by cases g
   | wait x=>
    rw[hv]at Wp;have hf2:(if (!(z==x)||(c==x))=true then false else xi l V c z&&!(zM V z))=true:=Wp;have hx:xk l.pn x:=by have:=ok.wo w (qB ew);rw[hv]at this;exact this
    by_cases g:(!(z==x)||(c==x))=true
    .rw[cY g]at hf2;cases hf2
    rw[cW g]at hf2;simp only[gW,gI,fJ,jn,dS]at g hf2;have ezx:=eq_of_beq g.1;subst ezx;exact stop _ ⟨qv.mp hx,λy=>g.2 (by rw[y];exact fg _),hf2.2⟩ λns g=>by cases g
   | breaks x=>
    rw[hv]at Wp;refine stop _ ⟨x,?_,?_⟩ λns g=>by cases g
    .have Wp:Gj l V x c z=true:=Wp;unfold Gj at Wp;by_cases g:(!(c==x)||(z==x))=true
     .rw[cY g]at Wp;cases Wp
     .simp only[gW,gI,fJ,jn]at g;exact(eq_of_beq g.1).symm
    .exact Wp
   | always x y=>exact Yh y (by rw[hv];rfl)
   | night x y f m=>exact Yh y (by rw[hv];rfl)
   | busy x y=>exact Yh y (by rw[hv];rfl)
   | silent x y m=>exact Yh y (by rw[hv];rfl)
def Gf{l:oY}{V:qe}{x c z:Str}(h:Gj l V x c z=true):∃j k,vi V z=some j/\V.calls[j]?=some k/\k.st="talks"/\z∈k.ms/\k.ms.length=2/\z≠c:=by
 unfold Gj at h;by_cases g:(!(c==x)||(z==x))=true
 .rw[cY g]at h;cases h
 rw[cW g]at h;simp only[gW,gI,fJ,jn]at g;by_cases g2:(!(hasS l.pn z)||!(xi l V c z))=true
 .rw[cY g2]at h;cases h
 rw[cW g2]at h;cases e:vi V z with
 | none=>rw[e]at h;cases h
 | some j=>obtain⟨hj,ht,_⟩:=iz.mp e;rw[e]at h;have h:((V.calls[j]?).elim false λk=>(k.ms.length==2)&&G8 l x k.ms)=true:=h;rw[cT hj]at h;have h:((V.calls[j].ms.length==2)&&G8 l x V.calls[j].ms)=true:=h;unfold oS.mH at ht;rw[dS]at h ht;refine⟨j,V.calls[j],rfl,cT hj,eq_of_beq ht.1,qv.mp ht.2,eq_of_beq h.1,λy=>?_⟩;rw[y]at g;have:=eq_of_beq g.1;rw[this,fg]at g;exact absurd rfl g.2
noncomputable def oS.bare(c:oS):oS:={c with way:=[]}
def sT(V V':qe):Prop:=V'.calls.map oS.bare=V.calls.map oS.bare
def sT.at_{V V':qe}(h:sT V V'){i:Nat}{c:oS}(e:V.calls[i]?=some c):∃c',V'.calls[i]?=some c'/\c'.bare=c.bare:=by
 have:=eQ (·[i]?) h;simp only[dA,e]at this;cases e':V'.calls[i]? with
 | none=>rw[e']at this;cases this
 | some c'=>rw[e']at this;exact⟨c',rfl,df this⟩
def yy(f:oS->Bool)(hf:∀c,f c.bare=f c)(cs:List oS):(cs.map oS.bare).findIdx? f=cs.findIdx? f:=by rw[hJ];congr 1;funext c;exact hf c
def sT.nk{V V':qe}(h:sT V V')(z:Str):vi V' z=vi V z:=by unfold vi;rw[<-yy _ (λ_=>rfl) V'.calls,h,yy _ (λ_=>rfl)]
def sT.ends{l:oY}{V V':qe}(h:sT V V')(i:Nat)(e:vv):sC l V' i e=sC l V i e:=by
 cases e with
 | breaks z=>
  unfold sC;dsimp only;rw[h.nk];have key:∀j:Nat,(V'.calls[j]?).map oS.bare=(V.calls[j]?).map oS.bare:=λj=>by
   have:=eQ (·[j]?) h
   simpa only [dA]using this
  have ki:=key i;cases vi V z with
  | none=>rfl
  | some j=>
   have kj:=key j;cases e1:V.calls[i]? with
   | none=>rw[e1]at ki;rw[show V'.calls[i]?=none by cases q:V'.calls[i]? with|none=>rfl|some _=>rw[q]at ki;cases ki]
   | some c=>
    rw[e1]at ki;cases e2:V'.calls[i]? with
    | none=>rw[e2]at ki;cases ki
    | some c'=>
     rw[e2]at ki;have k1:c'.cr=c.cr:=by have kb:c'.bare=c.bare:=df ki;exact show c'.bare.cr=c.bare.cr by rw[kb]
     have k2:(V'.calls[j]?).elim [] oS.ms=(V.calls[j]?).elim [] oS.ms:=by
      cases e3:V.calls[j]? with
      | none=>rw[e3]at kj;rw[show V'.calls[j]?=none by cases q:V'.calls[j]? with|none=>rfl|some _=>rw[q]at kj;cases kj]
      | some d=>
       rw[e3]at kj;cases e4:V'.calls[j]? with
       | none=>rw[e4]at kj;cases kj
       | some d'=>rw[e4]at kj;exact show d'.bare.ms=d.bare.ms by rw[show d'.bare=d.bare from df kj]
     dsimp only;rw[k1,k2]
 | _=>rfl
def sT.trans{V V1 V2:qe}(h:sT V V1)(g:sT V1 V2):sT V V2:=Eq.trans g h
def y9(V:qe)(v:rC):sT V (pO V (.leg v)):=by
 show(V.calls.modify v.i (·.go v.g)).map oS.bare=V.calls.map oS.bare;cases e:V.calls[v.i]? with
 | none=>rw[kA (by simpa using e)]
 | some c=>rw[sN e,me,show(c.go v.g).bare=c.bare from rfl,FI (by rw[dA,e];rfl)]
def CY(V:qe)(i:Nat)(z:Str)(ns:List Nat):sT V (pO V (.asks i z ns)):=rfl
def sT.len{V V':qe}(h:sT V V'):V'.calls.length=V.calls.length:=by
 have:=eQ List.length h
 rwa [cR,cR]at this
noncomputable def F4:Option Str->sG->Option Str
 | o,[]=>o
 | _,(z,_)::r=>F4 (some z) r
noncomputable def TK(i:Nat)(z:Str)(fs:List Nat):Option Str->List Ev
 | none=>[.asks i z fs]
 | some y=>[.leg ⟨i,y,z,y⟩,.asks i z fs]
theorem yh(i:Nat)(z:Str)(fs:List Nat):∀(st:sG) (o:Option Str),rf i o (st++[(z,fs)])=rf i o st++TK i z fs (F4 o st)
 | [],none=>rfl
 | [],some _=>rfl
 | (y,gs)::r,none=>by show .asks i y gs::rf i (some y) (r++[(z,fs)])=_;rw[yh i z fs r];rfl
 | (y,gs)::r,some u=>by show .leg ⟨i,u,y,u⟩::.asks i y gs::rf i (some y) (r++[(z,fs)])=_;rw[yh i z fs r];rfl
theorem Bz(z:Str)(fs:List Nat):∀(st:sG) (o:Option Str),F4 o (st++[(z,fs)])=some z
 | [],_=>rfl
 | _::r,_=>Bz z fs r _
theorem uN(i:Nat):∀(st:sG) (o:Option Str) (V:qe),sT V (qr V (rf i o st))
 | [],_,V=>rfl
 | (y,gs)::r,none,V=>(CY V i y gs).trans (uN i r (some y) _)
 | (y,gs)::r,some u,V=>((y9 V ⟨i,u,y,u⟩).trans (CY _ i y gs)).trans (uN i r (some y) _)
def OP(a:Ad):qN:=λds M Q=>Ky λM0 b A V l c n i st r=>ds=[.ref b,.int ((i:Nat):Int),.ref r]/\ub a M0 M b A V l c n/\c<=1000000/\n<=8000000/\st.length<=100/\i<V.calls.length/\oy M r=some (qQ st)/\r∉A.foot/\∀M' A',ub a M0 M' b A' (qr V (rf i none st)) l c (n+2*st.length)->qD A M A' M'->Q .mC M'
def L7(a:Ad):qN:=λds M Q=>Ky λM0 b A V l c n i z ps=>ds=[.ref b,.int ((i:Nat):Int),.str z,names ps]/\ub a M0 M b A V l c n/\c<=1000000/\n<=8000000/\i<V.calls.length/\z∈l.nm/\ps≠[]/\(∀x∈ps,x∈l.mv z)/\ps.length<=100/\∀M' A',ub a M0 M' b A' (qr V (sC l V i (.rings z ps))) l c (n+2)->qD A M A' M'->Q .mC M'
def Fh(l:oY)(V:qe)(i:Nat):vv->Prop
 | .rings z ps=>z∈l.nm/\ps≠[]/\(∀x∈ps,x∈l.mv z)/\ps.length<=100
 | .breaks z=>∃j k,vi V z=some j/\V.calls[j]?=some k/\i≠j/\k.ms.length=2
 | _=>True
def LV(a:Ad):qN:=λds M Q=>Tt λM0 b A V l c n i z=>ds=[.ref b,.int ((i:Nat):Int),.str z]/\ub a M0 M b A V l c n/\c<=1000000/\n<=8000000/\i<V.calls.length/\Fh l V i (.breaks z)/\∀M' A',ub a M0 M' b A' (qr V (sC l V i (.breaks z))) l c (n+2)->qD A M A' M'->Q .mC M'
def Ip(a:Ad):qN:=λds M Q=>Tt λM0 b A V l c n i e=>ds=[.ref b,.int ((i:Nat):Int),vv.d e]/\ub a M0 M b A V l c n/\c<=1000000/\n<=8000000/\i<V.calls.length/\Fh l V i e/\∀M' A',ub a M0 M' b A' (qr V (sC l V i e)) l c (n+2)->qD A M A' M'->Q .mC M'
def MZ(a:Ad):qN:=λds M Q=>Tt λM0 b A V l c n i k=>ds=[.ref b,.int ((i:Nat):Int)]/\ub a M0 M b A V l c n/\c<=1000000/\n<=7000000/\ze l V (some i)/\V.calls[i]?=some k/\∀M' A',ub a M0 M' b A' (qr V (wB l V i)) l c (n+30)->qD A M A' M'->Q .mC M'
def K9(a:Ad):qN:=λds M Q=>Tt λM0 b A V l c n y z=>ds=[.ref b,.str y,.str z]/\ub a M0 M b A V l c n/\c<1000000/\n<=6000000/\ze l (qr V [.new V.calls.length y,.leg ⟨V.calls.length,y,z,y⟩]) (some V.calls.length)/\∀M' A',ub a M0 M' b A' (qr V (D5 l V y z)) l (c+1) (n+32)->qD A M A' M'->Q .mC M'
def Kq{st:sG}{pre post:List D}{d:D}(e:pre++d::post=qQ st):∃z fs,st[pre.length]?=some (z,fs)/\d=.tup [.str z,xA fs]/\st.take (pre.length+1)=st.take pre.length++[(z,fs)]:=by
 have h:(qQ st)[pre.length]?=some d:=by rw[<-e];simp
 unfold qQ at h;rw[dA]at h;cases q:st[pre.length]? with
 | none=>rw[q]at h;cases h
 | some s=>rw[q]at h;refine⟨s.1,s.2,rfl,(df h).symm,?_⟩;rw[gH,q];rfl
noncomputable def Uz:Option Str->D
 | none=>.mC
 | some x=>.str x
def Ov{ss:List Str}{x:Str}(h:ss.getLast?=some x):vM (ss.map D.str) (-1)=some (.str x):=by
 have hp:0<ss.length:=by cases ss with|nil=>cases h|cons _ _=>exact mf _
 unfold vM;have e:Fj (ss.map D.str).length (-1)=some (ss.length - 1):=by
  rw[cR];unfold Fj;have:¬((-1:Int)>=0):=by decide
  simp;omega
 rw[e];show(ss.map D.str)[ss.length - 1]?=_;rw[dA,<-js,h];rfl
def J4(ds:List D):L3.sZ ds none (some (-1:Int))=ds.dropLast:=by
 unfold L3.sZ;have e:HT.sy ds.length ds.length (some (-1:Int))=ds.length - 1:=by show(if (-1:Int)<0 then((-1:Int)+(ds.length:Int)).toNat else min (-1:Int).toNat ds.length)=ds.length - 1;rw[cY (by decide)];omega
 rw[e,HT.BX,iX,kN,List.dropLast_eq_take]
def Nd(G:Gl K mg a):Fq P w K mg base 4 a.a0 (OP a):=by
 refine fq G.a0.toDG tw (λr u=>⟨_,(oN (pj 3 tw rE)
 (oO (tZ eV rfl (qk U2) (uj (n:=2) rfl (pQ (qJ 4 tw) (pQ (qJ 5 tw) sr)))
 (oN (pA (oZ u U3 rE)
 (oO (pq (pG v0 G.c.toCls G.k (qG G) r (pR (pz (pJ oR (pJ U1 (qR U3 v4 U3))))))))
 pb)
 (oN (pq (pG v0 G.c.toCls G.k (qG G) r (pR (pz (pJ oR (qR U1 v4 v5))))))
 (oO (pj 3 tw v4))))))),?_⟩)
 rintro ds M Q ⟨M0,b,A,V,l,c,n,i,st,r,rfl,cu,hc,hn,V9,hi,lr,nf,q⟩
 refine i' lr (uM (qQ st) (λpre δ M'=>(∃A',ub a M0 M' b A' (qr V (rf i none (st.take pre.length))) l c (n+2*pre.length)/\qD A M A' M')/\∃y4 y5,δ=[some (.ref b),some (.int ((i:Nat):Int)),some (.ref r),some (Uz (F4 none (st.take pre.length))),y4,y5]) (λpre δ M' j=>?_) _ [] _ _ rfl ⟨⟨A,cu,.refl⟩,none,none,rfl⟩ ?_ ?_)
 .obtain⟨⟨A',c1,Wt⟩,_⟩:=j;exact se (Wt.1 r _ nf (pS lr))
 .rintro pre d post e δ M' ⟨⟨A',c1,Wt⟩,y4,y5,rfl⟩ nx VY
  obtain⟨z,fs,es,rfl,et⟩:=Kq e;have hp:pre.length<100:=dI (cV.mp es).1 V9;rw[cU,dH,et,yh,Bz]at VY;have len:∀es,sT V (qr V es)->i<(qr V es).calls.length:=λes h=>by rw[h.len];exact hi
  have Xs:=len _ (uN i (st.take pre.length) none V);generalize hV:qr V (rf i none (st.take pre.length))=V1 at c1 Xs;rw[rc,hV]at VY;refine⟨rfl,?_⟩;dsimp only[sW,yt,CS];have asks:∀(M2:Mp) (A2:sX) (V2:qe) (m:Nat) (y3:Option D),m<9000000->ub a M0 M2 b A2 V2 l c m->qD A M A2 M2->(∀M3 A3,ub a M0 M3 b A3 (pO V2 (.asks i z fs)) l c (m+1)->qD A M A3 M3->nx [some (.ref b),some (.int ((i:Nat):Int)),some (.ref r),some (.str z),some (.str z),some (xA fs)] M3)->zm (M2 b) λC fs'=>fs'.lookup ("apply":Str)=none/\∃sp,(C=a.c/\sp=vo a)/\4<=sizeLine/\sp [.ref b,.tup [.str "asks",.int ((i:Nat):Int),.str z,xA fs]] M2 λ_ M3=>nx [some (.ref b),some (.int ((i:Nat):Int)),some (.ref r),some (.str z),some (.str z),some (xA fs)] M3:=λM2 A2 V2 m y3 hm c2 s2 k=>oP c2.at_ ⟨rfl,_,⟨rfl,rfl⟩,by rw[dN];decide,b,A2,V2,.asks i z fs,rfl,c2.b,c2.bd,c2.lim hc hm,trivial,λM3 A3 eb s3 bd=>k M3 A3 (c2.after trivial eb s3 bd) (s2.trans s3)⟩;cases hl:F4 none (st.take pre.length)with
  | none=>rw[hl]at VY;refine asks M' A' V1 _ none (by omega) c1 Wt λM3 A3 c3 s3=>VY _ _ ⟨⟨A3,c3.mono (de _) (by omega),s3⟩,_,_,rfl⟩
  | some y=>rw[hl]at VY;refine oP c1.at_ ⟨rfl,_,⟨rfl,rfl⟩,oK rfl,b,A',V1,.leg ⟨i,y,z,y⟩,rfl,c1.b,c1.bd,c1.lim hc (by omega),Xs,λM2 A2 eb s2 bd=>?_⟩;have c2:=c1.after (e:=.leg ⟨i,y,z,y⟩) Xs eb s2 bd;refine asks M2 A2 _ _ none (by omega) c2 (Wt.trans s2) λM3 A3 c3 s3=>VY _ _ ⟨⟨A3,c3.mono (de _) (by omega),s3⟩,_,_,rfl⟩
 .rintro δ M' ⟨⟨A',c1,Wt⟩,_⟩
  have hl:(qQ st).length=st.length:=by unfold qQ;rw[cR]
  rw[hl,eW]at c1;exact⟨M',.refl,q M' A' c1 Wt⟩
def Ll(G:Gl K mg a):Fq P w K mg base 4 a.a1 (L7 a):=by
 refine fq G.a1.toDG uh (λr u=>⟨_,(oN (pA (oZ u (pG (oU v0) G.h.toCls G.aK (wM G) r (pR U2)) oR)
 (oN (pj 4 uh (pG (oU v0) G.h.toCls G.S (tS G) r (pR U2)))
 (oN (pj 5 uh (pH (pH (wR v4 (pR (pf U3 oQ))) oQ) (pD qc rfl G.g pX (pR v4))))
 (oO (pq (pG v0 G.c.toCls G.k (qG G) r (pR (pz (qR oR U2 v5))))))))
 pb)
 (oO (pq (pG v0 G.c.toCls G.k (qG G) r (pR (pz (qR oR U1 U3))))))),?_⟩)
 rintro ds M Q ⟨M0,b,A,V,l,c,n,i,z,ps,rfl,cu,hc,hn,hi,hz,Wc,hm,hps,q⟩
 obtain⟨ph,gr,ws,W7,pr,gd,rs,i1,_⟩:=cu.pl;have pl:=cu.pl;obtain⟨x,ps',rfl⟩:=fL Wc;obtain⟨⟨pne,_⟩,_⟩:=cu.ok.of hz;refine R4 (t:=RK _ _ _) (λδ M'=>(∃A',ub a M0 M' b A' (qr V (if (l.mF z=="turns")=true then[.next z (Pp (l.mv z) x)]else[])) l c (n+1)/\qD A M A' M')/\∃y1 y2,δ=[some (.ref b),some (.int ((i:Nat):Int)),some (.str z),some (names (x::ps')),y1,y2]) (λnx h=>?_) ?_
 .refine oP cu.at_ (i' rfl (oP i1 ⟨rfl,_,⟨rfl,rfl⟩,V.p,z,l,rfl,pl,?_⟩));refine qm (c:=l.mF z=="turns") (λg=>?_) (λg=>?_)
  .rw[cY g]at h;refine oP cu.at_ (i' rfl (oP i1 ⟨rfl,_,⟨rfl,rfl⟩,V.p,z,l,rfl,pl,λp hp=>?_⟩));have t:=qa.new (c:=.lst ((l.mv z).map D.str)) hp;have lp:=@oW M p ((l.mv z).map D.str);have cu':=cu.sub t;have st0:qD A M A (oX M p (.lst ((l.mv z).map D.str))):=.sub t;generalize oX M p (.lst ((l.mv z).map D.str))=M1 at t lp cu' st0 ⊢;have ej:=Ef x (l.mv z) (hm x dO);have lpos:0<(l.mv z).length:=fu.mpr pne;have el:(((l.mv z).map D.str).length:Int)=(l.mv z).length:=by rw[cR]
   refine⟨by show(oy M1 p).isSome=true;rw[lp];rfl,i' (xS _ _) (i' lp ⟨rfl,pW _,i' ej (i' lp ⟨by rw[el];omega,?_⟩)⟩)⟩;rw[el];refine oP cu'.at_ ⟨rfl,_,⟨rfl,rfl⟩,oK rfl,b,A,V,.next z (Pp (l.mv z) x),rfl,cu'.b,cu'.bd,cu'.lim hc (by omega),trivial,λM2 A2 eb st Xn=>?_⟩;exact h _ _ ⟨⟨A2,cu'.after (e:=.next z (Pp (l.mv z) x)) trivial eb st Xn,st0.trans st⟩,_,_,rfl⟩
  .rw[cW g]at h;exact h _ _ ⟨⟨A,cu.mono (de _) (by omega),.refl⟩,_,_,rfl⟩
 rintro δ M1 ⟨⟨A1,c1,Wt⟩,y1,y2,rfl⟩
 have q:∀M' A',ub a M0 M' b A' (qr V ((if (l.mF z=="turns")=true then[.next z (Pp (l.mv z) x)]else[])++[.rings i (x::ps')])) l c (n+2)->qD A M A' M'->Q .mC M':=q;rw[rc]at q;have Xs:i<(qr V (if (l.mF z=="turns")=true then[.next z (Pp (l.mv z) x)]else[])).calls.length:=by
  split
  .exact hi
  .exact hi
 generalize qr V (if (l.mF z=="turns")=true then[.next z (Pp (l.mv z) x)]else[])=V1 at c1 q Xs;refine oP c1.at_ ⟨rfl,_,⟨rfl,rfl⟩,oK rfl,b,A1,V1,.rings i (x::ps'),rfl,c1.b,c1.bd,c1.lim hc (by omega),⟨Xs,hps⟩,λM2 A2 eb Wd Xn=>?_⟩;exact⟨M2,.refl,q M2 A2 (c1.after (e:=.rings i (x::ps')) ⟨Xs,hps⟩ eb Wd Xn) (Wt.trans Wd)⟩
def LI(G:Gl K mg a):Fq P w K mg base 4 a.a2 (LV a):=by
 refine fq G.a2.toDG wW (λr u=>⟨_,(oN (pj 3 wW (pG v0 G.c.toCls G.R (yc G) r (pR U2)))
 (oN (pj 4 wW (pH (pZ ur rfl G.I uq (pR (oU (pf (oU v0) U3)))) (pz (pR (oU (pf (oU v0) U1))))))
 (oO (pq (pG v0 G.c.toCls G.k (qG G) r (pR (pz (pJ oR (qR U1 U3 v4))))))))),?_⟩)
 rintro ds M Q ⟨M0,b,A,V,l,c,n,i,z,rfl,cu,hc,hn,hi,⟨j,k,ej,ek,WL,WK⟩,q⟩
 have hz:=dN;have ei:V.calls[i]?=some V.calls[i]:=cT hi;generalize V.calls[i]=ci at ei;obtain⟨ka,qi⟩:=cu.call ei;obtain⟨kb,qj⟩:=cu.call ek;obtain⟨ad,md,h1,h2,h3,h4,_⟩:=qi.cell;obtain⟨ad',md',g1,g2,g3,g4,_⟩:=qj.cell;have hee:sC l V i (.breaks z)=[.merge i j (k.ms++[ci.cr])]:=by unfold sC;dsimp only;rw[ej,ei];dsimp only;rw[ek];rfl
 rw[hee]at q;have ok:(Ev.merge i j (k.ms++[ci.cr])).ok V:=⟨hi,(cV.mp ek).1,WL,by rw[cU,WK];show 3<=100;decide⟩;refine oP cu.at_ ⟨rfl,_,⟨rfl,rfl⟩,A,V,z,by rw[cu.b],cu.bd,dX cu.sz.ca hc,?_⟩;rw[show zR V z=.int (j:Nat)from by unfold zR;rw[ej];rfl];refine oP cu.at_ (i' rfl (i' rfl (i' cu.bd.ca (i' (qP qj.e1) (oP g1 (i' rfl (i' g4 ?_)))))));refine oP cu.at_ (i' rfl (i' rfl (i' cu.bd.ca (i' (qP qi.e1) (oP h1 (i' rfl ⟨oK rfl,?_⟩))))));refine⟨(by intro y;rw[List.map_eq_nil_iff]at y;rw[y]at WK;cases WK),(by rw[cR,WK];show 2+1<=sizeLine;omega),?_⟩;rw[show k.ms.map D.str++[D.str ci.cr]=(k.ms++[ci.cr]).map D.str by rw[dJ];rfl];refine oP cu.at_ ⟨rfl,_,⟨rfl,rfl⟩,oK rfl,b,A,V,.merge i j (k.ms++[ci.cr]),rfl,cu.b,cu.bd,cu.lim hc (by omega),ok,λM2 A2 eb Wd Xn=>?_⟩;exact⟨M2,.refl,q M2 A2 ((cu.after ok eb Wd Xn).mono (de _) (by omega)) Wd⟩
def MO(G:Gl K mg a):Fq P w K mg base 5 a.a3 (Ip a):=by
 refine fq G.a3.toDG w9 (λr u=>⟨_,(oN (pj 3 w9 (pf U2 oQ))
 (oO (pA (oZ u U3 oR)
 (oO (pq (o9 (Ll G) r G.a1 (pJ v0 (qR U1 (pf U2 oQ) (pf U2 oQ))))))
 (oO (pA (oZ u U3 oR)
 (oO (pq (pG v0 G.c.toCls G.k (qG G) r (pR (pz (qR oR U1 (pf U2 oQ)))))))
 (oO (pA (oZ u U3 oR)
 (oO (pq (o9 (LI G) r G.a2 (qR v0 U1 (pf U2 oQ)))))
 (oO (pq (pG v0 G.c.toCls G.k (qG G) r (pR (pz (qR oR U1 U3))))))))))))),?_⟩)
 rintro ds M Q ⟨M0,b,A,V,l,c,n,i,e,rfl,cu,hc,hn,hi,he,q⟩
 have one:∀(ev:Ev) (ok:ev.ok V),ev.nw=0->sC l V i e=[ev]->∀M2 A2,A2.b=A.b->qD A M A2 M2->pk a M2 A2 (pO V ev)->∃VQ,qa VQ M2/\Q .mC VQ:=λev ok h0 h1 M2 A2 eb Wd Xn=>by rw[h1]at q;have c2:=cu.after ok eb Wd Xn;rw[h0]at c2;exact⟨M2,.refl,q M2 A2 (c2.mono (de _) (by omega)) Wd⟩
 cases e with
 | rings z ps=>exact⟨M0,b,A,V,l,c,n,i,z,ps,rfl,cu,hc,hn,hi,he.1,he.2.1,he.2.2.1,he.2.2.2,λM' A' c1 st=>⟨M',.refl,q M' A' c1 st⟩⟩
 | waits z=>exact oP cu.at_ ⟨rfl,_,⟨rfl,rfl⟩,oK rfl,b,A,V,.waits i z,rfl,cu.b,cu.bd,cu.lim hc (by omega),hi,one (.waits i z) hi rfl rfl⟩
 | breaks z=>exact⟨M0,b,A,V,l,c,n,i,z,rfl,cu,hc,hn,hi,he,λM' A' c1 st=>⟨M',.refl,q M' A' c1 st⟩⟩
 | engaged z=>exact oP cu.at_ ⟨rfl,_,⟨rfl,rfl⟩,oK rfl,b,A,V,.over i "engaged",rfl,cu.b,cu.bd,cu.lim hc (by omega),hi,one (.over i "engaged") hi rfl rfl⟩
 | barred=>exact oP cu.at_ ⟨rfl,_,⟨rfl,rfl⟩,oK rfl,b,A,V,.over i "barred",rfl,cu.b,cu.bd,cu.lim hc (by omega),hi,one (.over i "barred") hi rfl rfl⟩
 | ring ns=>exact oP cu.at_ ⟨rfl,_,⟨rfl,rfl⟩,oK rfl,b,A,V,.over i "ring",rfl,cu.b,cu.bd,cu.lim hc (by omega),hi,one (.over i "ring") hi rfl rfl⟩
def Ke{l:oY}{V:qe}{i:Nat}{k:oS}{e:vv}(ok:rg l)(wf:ze l V (some i))(hk:V.calls[i]?=some k)(h:Gb l V k.cr e):Fh l V i e:=by
 cases e with
 | rings z ps=>obtain⟨hz,Wc,rfl⟩:=h;have h1:=(Gc (l:=l) (V:=V) (c:=k.cr) (z:=z));have h2:=(ok.of hz).1.2.1;exact⟨hz,Wc,λx hx=>(h1.1 x hx).2,by have:=h1.2;omega⟩
 | breaks z=>
  obtain⟨x,rfl,hb⟩:=h;obtain⟨j,d,e1,e2,e3,e4,e5,_⟩:=Gf hb;refine⟨j,d,e1,e2,λy=>?_,e5⟩;subst y;rw[hk]at e2;cases e2;have sh:=(wf.ok i k hk).sh;rw[show(some i==some i)=true from fg _]at sh;rcases sh with g|g
  .rw[g.1]at e3;exact absurd e3 (by decide)
  .cases g.1
 | _=>trivial
def Iv(G:Gl K mg a):Fq P w K mg base 9 a.ad (MZ a):=by
 refine fq G.ad.toDG vE (λr u=>⟨_,(oN (pj 2 vE (pf (oU v0) U1))
 (oN (pj 3 vE (o9 (Ko G) r G.aU (pJ v0 (qR (oU U2) (pf (oU U2) (Ee oQ)) (rO (oU U2) sS (r6 (Ee oQ)))))))
 (oN (pj 4 vE (pf U3 oQ))
 (oN (pj 5 vE (pf U3 oQ))
 (oN (pq (o9 (Nd G) r G.a0 (qR v0 U1 v5)))
 (oN (pA (W3.b3 (xl (oZ u (pf v4 oQ) oR) (wm (oZ u (pD qc rfl G.g pX (pR v5)) oQ))))
 (oN (pj 6 vE (pf (pf v5 (Ee oQ)) oQ))
 (oO (pq (pG v0 G.c.toCls G.k (qG G) r (pR (pz (pJ oR (pJ U1 (qR v6 (pf (pf v4 oQ) oQ) v6)))))))))
 pb)
 (oO (pq (o9 (MO G) r G.a3 (qR v0 U1 v4)))))))))),?_⟩)
 rintro ds M Q ⟨M0,b,A,V,l,c,n,i,k,rfl,cu,hc,hn,wf,hk,q⟩
 obtain⟨ka,ci⟩:=cu.call hk;obtain⟨ad,md,h1,h2,h3,h4,n1,n2⟩:=ci.cell;have WS:=wf.ok i k hk;have hi:=(cV.mp hk).1;obtain⟨z,hz⟩:∃z,k.way.getLast?=some z:=by
  cases e:k.way.getLast? with
  | none=>exact absurd (gL.mp e) WS.wy.1
  | some z=>exact⟨z,rfl⟩
 have WR:z∈l.nm:=WS.wy.2 z (iN hz);have hdn:∀x∈k.way.dropLast,x∈l.nm:=λx hx=>WS.wy.2 x (iO _ hx);have hwl:=(cu.sz.cs k (qB hk)).1;have hev:wB l V i=rf i none (uA l V k.cr z k.way.dropLast).2++(tE i (uA l V k.cr z k.way.dropLast).2 (uA l V k.cr z k.way.dropLast).1++sC l V i (uA l V k.cr z k.way.dropLast).1):=by
  unfold wB;rw[hk];have:k.way.getLastD Str.empty=z:=by rw[ij,hz];rfl
  dsimp only[Option.elim];rw[this]
 rw[hev]at q;have ro:xC l V k.cr (l.nm.length+1) [] (uA l V k.cr z k.way.dropLast):=yI cu.ok _ _ _ _ WR hdn;have rl:=ro.len;have eo:=Ke cu.ok wf hk ro.e;have nl:l.nm.length<=11:=by have p8:=cu.ok.p8;have g3:=cu.ok.g3;unfold oY.nm oY.pn oY.gn;rw[cU,cR,cR];omega
 have re:=ro.e;refine R4 (t:=F0 _ _) (λδ M'=>M=M'/\δ=[some (.ref b),some (.int ((i:Nat):Int)),some (.ref ka.p),none,none,none,none]) (λnx0 h=>oP cu.at_ (i' rfl (i' rfl (i' ci.bd.ca (i' (qP ci.e1) (h _ _ ⟨rfl,rfl⟩)))))) ?_
 rintro δ _ ⟨rfl,rfl⟩
 refine R4 (t:=F0 _ _) (λδ M'=>qa M M'/\∃r,M r=none/\oy M' r=some (qQ (uA l V k.cr z k.way.dropLast).2)/\δ=[some (.ref b),some (.int ((i:Nat):Int)),some (.ref ka.p),some (.tup [(uA l V k.cr z k.way.dropLast).1.d,.ref r]),none,none,none]) (λnx0 h=>?_) ?_
 .refine oP h1 (i' rfl (oP h1 (i' rfl (i' h2 (i' (Ov hz) (oP h1 (i' rfl (i' h2 λp hp=>?_))))))));rw[show L3.sZ (k.way.map D.str) none (some (-1:Int))=k.way.dropLast.map D.str from(J4 _).trans (List.map_dropLast).symm];have t:=qa.new (c:=.lst (k.way.dropLast.map D.str)) hp;have lp:=@oW M p (k.way.dropLast.map D.str);refine⟨A,V,l,k.cr,z,p,k.way.dropLast,by rw[cu.b],(cu.rd hc wf).sub t,WR,wf.nx,lp,by rw[List.length_dropLast];omega,λr M' s hr lr=>?_⟩;exact h _ _ ⟨t.trans s,r,t.none hr,lr,rfl⟩
 rintro δ M1 ⟨s1,r,hr,lr,rfl⟩
 generalize uA l V k.cr z k.way.dropLast=R at lr ro rl eo re q;obtain⟨e,st⟩:=R;have cu1:=cu.sub s1;have rl:st.length<=0+(l.nm.length+1):=rl;refine⟨M0,b,A,V,l,c,n,i,st,r,rfl,cu1,hc,by omega,by omega,hi,lr,cu.bd.nB hr,λM2 A2 c2 Wd=>?_⟩;have same:=uN i st none V;have WZ:i<(qr V (rf i none st)).calls.length:=by rw[same.len];exact hi
 have Yz:oy M2 r=some (qQ st):=se (Wd.1 r _ (cu.bd.nB hr) (pS lr));rw[rc,rc]at q;have hee:=λV' (h:sT V V')=>h.ends (l:=l) i e;have hat:∀V',sT V V'->Fh l V' i e:=λV' h=>by
  cases e with
  | breaks z'=>obtain⟨j,d,a1,a2,a3,a4⟩:=eo;obtain⟨d',b1,b2⟩:=h.at_ a2;exact⟨j,d',by rw[h.nk];exact a1,b1,a3,by rw[show d'.ms=d.ms from show d'.bare.ms=d.bare.ms by rw[b2]];exact a4⟩
  | rings _ _=>exact eo
  | _=>trivial
 generalize qr V (rf i none st)=V2 at c2 WZ same q;have WT:∀(M3:Mp) (A3:sX) (V3:qe),ub a M0 M3 b A3 V3 l c (n+2*st.length+1)->qD A M A3 M3->sT V V3->i<V3.calls.length->V3=qr V2 (tE i st e)->Ip a [.ref b,.int ((i:Nat):Int),e.d] M3 λ_ M'=>∃VQ,qa VQ M'/\Q .mC VQ:=λM3 A3 V3 c3 s3 WU hi3 e3=>⟨M0,b,A3,V3,l,c,_,i,e,rfl,c3,hc,by omega,hi3,hat V3 WU,λM4 A4 c4 s4=>⟨M4,.refl,q M4 A4 (by
  rw[<-e3];rw[hee V3 WU]at c4;exact c4.mono (de _) (by omega)) (s3.trans s4)⟩⟩
 have c2':=c2.mono (de c) (show n+2*st.length<=n+2*st.length+1 by omega);have W9:=(qD.sub s1 (A:=A)).trans Wd;cases e with
 | ring ns=>
  obtain⟨x,ns',rfl⟩:=fL (show ns≠[]from re);refine i' Yz ?_;cases hl:st.getLast? with
  | none=>have:st=[]:=gL.mp hl;subst this;exact WT M2 A2 V2 c2' W9 same WZ rfl
  | some s0=>
   have Xl:0<st.length:=by cases st with|nil=>cases hl|cons _ _=>exact mf _
   have hd:decide ((0:Int)<((qQ st).length:Int))=true:=dQ (by unfold qQ;rw[cR];omega);refine Aa (c:=decide ((0:Int)<((qQ st).length:Int))) hd ?_;have hat1:vM (qQ st) (-1)=some (.tup [.str s0.1,xA s0.2]):=by
    unfold vM;have e1:Fj (qQ st).length (-1)=some (st.length - 1):=by unfold qQ;rw[cR];unfold Fj;simp;omega
    rw[e1];show(qQ st)[st.length - 1]?=_;unfold qQ;rw[dA,<-js,hl];rfl
   have hrv:tE i st (.ring (x::ns'))=[.leg ⟨i,s0.1,x,s0.1⟩]:=by unfold tE;dsimp only;rw[hl];rfl
   rw[hrv]at WT;refine i' Yz (i' hat1 ?_);refine oP c2.at_ ⟨rfl,_,⟨rfl,rfl⟩,i' (xS _ _) ⟨oK rfl,b,A2,V2,.leg ⟨i,s0.1,x,s0.1⟩,rfl,c2.b,c2.bd,c2.lim hc (by omega),WZ,λM3 A3 eb WB bd3=>?_⟩⟩;have WU:=same.trans (y9 V2 ⟨i,s0.1,x,s0.1⟩);exact WT M3 A3 _ (c2.after (e:=.leg ⟨i,s0.1,x,s0.1⟩) WZ eb WB bd3) (W9.trans WB) WU (by rw[WU.len];exact hi) rfl
 | rings z' ps=>exact WT M2 A2 V2 c2' W9 same WZ rfl
 | waits z'=>exact WT M2 A2 V2 c2' W9 same WZ rfl
 | breaks z'=>exact WT M2 A2 V2 c2' W9 same WZ rfl
 | engaged z'=>exact WT M2 A2 V2 c2' W9 same WZ rfl
 | barred=>exact WT M2 A2 V2 c2' W9 same WZ rfl
def Le(G:Gl K mg a):Fq P w K mg base 10 a.a4 (K9 a):=by
 refine fq G.a4.toDG yM (λr u=>⟨_,(oN (pj 3 yM (pD qc rfl G.g pX (pR (oU v0))))
 (oN (pq (pG v0 G.c.toCls G.k (qG G) r (pR (pz (qR oR U3 U1)))))
 (oN (pq (pG v0 G.c.toCls G.k (qG G) r (pR (pz (pJ oR (pJ U3 (qR U1 U2 U1)))))))
 (oO (pq (o9 (Iv G) r G.ad (rA v0 U3))))))),?_⟩)
 rintro ds M Q ⟨M0,b,A,V,l,c,n,y,z,rfl,cu,hc,hn,wf,q⟩
 have lc:((A.cs.map λk=>D.ref k.p).length:Int)=(V.calls.length:Nat):=by rw[cR,cu.bd.len]
 refine oP cu.at_ (i' rfl (i' cu.bd.ca ?_));rw[lc];refine oP cu.at_ ⟨rfl,_,⟨rfl,rfl⟩,oK rfl,b,A,V,.new V.calls.length y,rfl,cu.b,cu.bd,cu.lim (by omega) (by omega),trivial,λM1 A1 eb1 Wt bd1=>?_⟩;have c1:=cu.after (e:=.new V.calls.length y) trivial eb1 Wt bd1;have ok2:(Ev.leg ⟨V.calls.length,y,z,y⟩).ok (pO V (.new V.calls.length y)):=by show V.calls.length<(V.calls++[yE y]).length;rw[cU];exact fA _
 refine oP c1.at_ ⟨rfl,_,⟨rfl,rfl⟩,oK rfl,b,A1,_,.leg ⟨V.calls.length,y,z,y⟩,rfl,c1.b,c1.bd,c1.lim (by show c+1<=_;omega) (by omega),ok2,λM2 A2 eb2 Wd Xn=>?_⟩;have c2:=c1.after ok2 eb2 Wd Xn;obtain⟨k,hk⟩:∃k,(qr V [.new V.calls.length y,.leg ⟨V.calls.length,y,z,y⟩]).calls[V.calls.length]?=some k:=by
  have:V.calls.length<(qr V [.new V.calls.length y,.leg ⟨V.calls.length,y,z,y⟩]).calls.length:=by show V.calls.length<((V.calls++[yE y]).modify _ _).length;rw[gi];exact ok2
  exact⟨_,cT this⟩
 refine⟨M0,b,A2,_,l,c+1,n+2,V.calls.length,k,rfl,c2,by omega,by omega,wf,hk,λM3 A3 c3 WB=>⟨M3,.refl,q M3 A3 ?_ (Wt.trans (Wd.trans WB))⟩⟩;unfold D5;rw[rc];exact c3.mono (de _) (by omega)
noncomputable def D9(V:qe)(x:Str):D:=FC (ud V x)
abbrev Df:=JH D9
def KL(a:Ad):qN:=λds M Q=>Gh λA V l x z=>ds=[.ref A.b,.str x,.str z]/\Rd a M A V l/\x∈l.pn/\Q (FC (FH l V x z)) M
inductive vm(a:Ad)(M:Mp)(L:List Addr):List qS->List oS->Prop
 | nil:vm a M L [] []
 | cons (k:qS) (c:oS) (ks:List qS) (cs:List oS) (h:rq a M L k c) (r:vm a M L ks cs):vm a M L (k::ks) (c::cs)
def tN.nf(w:Str)(m:Nat):Prop:=((w="answer"\/w="hang"\/w="hold"\/w="back")/\m=1)\/((w="hand"\/w="join")/\m=2)
def Kn(a:Ad):qN:=λds M Q=>HL λwd x r L ks cs=>ds=[.str wd,.str x,.ref r]/\oy M r=some (List.map (λk:qS=>D.ref k.p) ks)/\vm a M L ks cs/\tN.nf wd cs.length/\Q (.bl (Ii wd x cs)) M
def Hz(a:Ad):qN:=λds M Q=>HL λA V l wd x ns=>ds=[.ref A.b,.str wd,.str x,.tup (List.map D.int ns)]/\Rd a M A V l/\x∈l.pn/\tN.nf wd ns.length/\Q (FC (LB l V wd x ns)) M
def Qx(a:Ad):qN:=λds M Q=>zZ λA V b i=>ds=[.ref A.b,.str (Sa b),.int i]/\pk a M A V/\Q (FC (MX V b i)) M
def Gq(a:Ad):qN:=λds M Q=>zZ λA V l e=>ds=[.ref A.b,tN.d e]/\Rd a M A V l/\e.m8/\Q (FC (wG l V e)) M
noncomputable def Vb(m:Nat):D->D
 | .int i=>.bl (yB m i)
 | _=>.bl false
noncomputable def Vj(A:sX):D->D
 | .int i=>(A.cs[i.toNat]?).elim .mC λk=>.ref k.p
 | _=>.mC
theorem Pq{a:Ad}{M:Mp}{A:sX}{V:qe}(bd:pk a M A V):∀{ns:List Int},ns.all (yB V.calls.length)=true->∃ks,vm a M (A.lists++V.fo) ks (sO V ns)/\(ns.map D.int).map (Vj A)=ks.map (λk:qS=>D.ref k.p)/\(sO V ns).length=ns.length/\∀i∈ns,∃k,0<=i/\A.cs[i.toNat]?=some k
 | [],_=>⟨[],.nil,rfl,rfl,λi hi=>by cases hi⟩
 | i::r,h=>by
  rw[gp,dS]at h;obtain⟨ks,h1,h2,h3,h4⟩:=Pq bd h.2;have hh:(decide (0<=i)&&decide (i<V.calls.length))=true:=h.1;rw[dS,eB,eB]at hh;have hi:i.toNat<V.calls.length:=by omega
  have hk:i.toNat<A.cs.length:=by rw[bd.len];exact hi
  have e1:A.cs[i.toNat]?=some A.cs[i.toNat]:=cT hk;have e2:V.calls[i.toNat]?=some V.calls[i.toNat]:=cT hi;have ec:sO V (i::r)=V.calls[i.toNat]::sO V r:=by unfold sO;rw[List.filterMap_cons_some (f:=λi:Int=>V.calls[i.toNat]?) e2]
  rw[ec];refine⟨A.cs[i.toNat]::ks,.cons _ _ _ _ (bd.cs _ _ _ e1 e2) h1,?_,eQ Nat.succ h3,λj hj=>?_⟩
  .rw[dR,dR,h2];show(A.cs[i.toNat]?).elim _ _::_=_;rw[e1];rfl
  .rcases c9.mp hj with rfl|hj
   .exact⟨_,hh.1,e1⟩
   .exact h4 j hj
def vm.sub{a:Ad}{M M':Mp}{L:List Addr}{ks:List qS}{cs:List oS}(h:vm a M L ks cs)(s:qa M M'):vm a M' L ks cs:=by
 induction h with
 | nil=>exact .nil
 | cons k c ks cs h r ih=>exact .cons k c ks cs (h.sub s) ih
def Rq{bs:List Bool}{i:Int}(h:yB bs.length i=true):vM (bs.map D.bl) i=some (.bl (bs.getD i.toNat false)):=by
 have hh:(decide (0<=i)&&decide (i<bs.length))=true:=h;rw[dS,eB,eB]at hh;obtain⟨n,rfl⟩:=d6 hh.1;have hn:n<bs.length:=by omega
 refine uF ?_;rw[dA,cT hn];show some (D.bl bs[n])=some (.bl (bs.getD n false));rw[gD,cT hn];rfl
def CT(G:Gl K mg a):Fq P w K mg base 4 a.ac (Df a):=by
 refine fq G.ac.toDG yr (λr u=>⟨_,(oN (pA (oZ u (pG v0 G.c.toCls G.bE (KH G) r (pR U1)) rE)
 (oO (oV oR))
 pb)
 (oN (pA (oZ u (pG v0 G.c.toCls G.bF (Hj G) r (pR U1)) rE)
 (oO (oV oR))
 pb)
 (oO (oV rE)))),?_⟩)
 rintro ds M Q ⟨A,V,x,rfl,bd,hk,q⟩
 unfold D9 ud at q;refine oP bd.at_ ⟨rfl,_,⟨rfl,rfl⟩,A,V,x,rfl,bd,hk,?_⟩;unfold L9;cases e:Dw V x with
 | some j=>rw[e]at q;exact⟨M,.refl,q⟩
 | none=>
  rw[e]at q;refine oP bd.at_ ⟨rfl,_,⟨rfl,rfl⟩,A,V,x,rfl,bd,hk,?_⟩;unfold Sh;cases e:Hw V x with
  | some j=>rw[e]at q;exact⟨M,.refl,q⟩
  | none=>rw[e]at q;exact⟨M,.refl,q⟩
def KC(G:Gl K mg a):Fq P w K mg base 5 a.aV (KL a):=by
 refine fq G.aV.toDG vD (λr u=>⟨_,(oN (pA (oZ u U2 (xH (oU v0) G.h.toCls G.bz (Ci G) r))
 (oO (oV oR))
 pb)
 (oN (pj 3 vD (o9 (CT G) r G.ac (rA v0 U1)))
 (oN (pA (W3.b3 (xl (oZ u U3 rE) (wm (vT (uu (pG v0 G.c.toCls G.T (yj G) r (pR U1)))))))
 (oO (oV oR))
 pb)
 (oO (oV U3))))),?_⟩)
 rintro ds M Q ⟨A,V,l,x,z,rfl,rd,hx,q⟩
 obtain⟨ph,gr,ws,W7,pr,gd,rs,i1,_⟩:=rd.pl;have p8:=rd.ok.p8;have g3:=rd.ok.g3;unfold FH at q;refine oP rd.bd.at_ (i' rfl (oP i1 ⟨rfl,_,⟨rfl,rfl⟩,V.p,l,rfl,rd.pl,by omega,by omega,λp hp=>i' oW ⟨rfl,pW _,?_⟩⟩));have t:=qa.new (c:=.lst (l.nm.map D.str)) hp;have Wf:=rd.sub t;generalize oX M p (.lst (l.nm.map D.str))=M1 at t Wf ⊢;show if (!(inD (.str z) (l.nm.map D.str)))=true then _ else _
 rw[rM];refine qm (c:=!(hasS l.nm z)) (λg=>?_) (λg=>?_)
 .rw[cY (by simpa using g)]at q;exact⟨M,t,q⟩
 rw[cW (by simpa using g)]at q;refine⟨A,V,x,rfl,Wf.bd,Wf.k,?_⟩;unfold D9;cases e:ud V x with
 | some w0=>rw[e]at q;exact⟨M,t,q⟩
 | none=>
  rw[e]at q;refine oP Wf.bd.at_ ⟨rfl,_,⟨rfl,rfl⟩,A,V,l,x,rfl,Wf,hx,?_⟩;refine qm (c:=!(qU l V x)) (λg=>?_) (λg=>?_)
  .rw[g]at q;exact⟨M,t,q⟩
  .rw[show(!(qU l V x))=false from dE.mpr g]at q;exact⟨M,t,q⟩
def Me(G:Gl K mg a):Fq P w K mg base 3 a.aW (Kn a):=by
 refine fq G.aW.toDG Mj (λr u=>⟨_,(oN (pA (oZ u v0 oR)
 (oO (oV (pN u U1 (oU (pf U2 oQ)))))
 pb)
 (oN (pA (oZ u v0 oR)
 (oO (oV (pG (pf U2 oQ) G.e.toCls G.bG (Ld G) r (pR U1))))
 pb)
 (oN (pA (oZ u v0 oR)
 (oO (oV (pG (pf U2 oQ) G.e.toCls G.aw (Fu G) r (pR U1))))
 pb)
 (oN (pA (oZ u v0 oR)
 (oO (oV (pN u (oU (pf U2 oQ)) U1)))
 pb)
 (oO (oV (sD (pN u (oU (pf U2 oQ)) U1) (rY (pG (pf U2 oQ) G.e.toCls G.aw (Fu G) r (pR U1)))))))))),?_⟩)
 rintro ds M Q ⟨wd,x,r,L,ks,cs,rfl,lr,Yn,hw,q⟩
 cases Yn with
 | nil=>rcases hw with⟨_,h⟩|⟨_,h⟩<;>cases h
 | cons k c ks cs hc Wz=>
 obtain⟨ad,md,h1,h2,h3,h4,_⟩:=id hc;have a0:=xS (.ref k.p) (ks.map λk:qS=>D.ref k.p);have hold:∀K:DK,K (.bl (c.hd==some x)) M->Option.elim (yw M 9 (FC c.hd) (.str x)) False λb=>K (.bl b) M:=λK hK=>by
  cases e:c.hd with
  | none=>rw[e]at hK;exact hK
  | some y=>rw[e]at hK;exact hK
 rcases hw with⟨rfl|rfl|rfl|rfl,h⟩|⟨hw,h⟩
 .exact i' lr (i' a0 (oP h1 (i' rfl (zO h3 ⟨M,.refl,q⟩))))
 .exact i' lr (i' a0 (oP h1 ⟨rfl,_,⟨rfl,rfl⟩,L,k,c,x,rfl,hc,M,.refl,q⟩))
 .exact i' lr (i' a0 (oP h1 ⟨rfl,_,⟨rfl,rfl⟩,L,k,c,x,rfl,hc,M,.refl,q⟩))
 .exact i' lr (i' a0 (oP h1 (i' rfl (hold _ ⟨M,.refl,q⟩))))
 .cases Wz with
  | nil=>cases h
  | cons k' d ks cs hd _=>
   obtain⟨ad',md',f1,_⟩:=id hd;have a1:vM (.ref k.p::.ref k'.p::ks.map λk:qS=>D.ref k.p) 1=some (.ref k'.p):=uF (j:=1) rfl;have qq:Q (.bl ((c.hd==some x)&&d.mK x)) M:=by
    rcases hw with rfl|rfl
    .exact q
    .exact q
   rcases hw with rfl|rfl
   all_goals
    refine i' lr (i' a0 (oP h1 (i' rfl ?_)));cases e:c.hd with
    | none=>rw[e]at qq;exact⟨M,.refl,qq⟩
    | some y=>
     rw[e]at qq;have qq:Q (.bl ((y==x)&&d.mK x)) M:=qq;refine qm (c:=y==x) (λg=>?_) (λg=>?_)
     .rw[g,eJ]at qq;exact i' lr (i' a1 (oP f1 ⟨rfl,_,⟨rfl,rfl⟩,L,k',d,x,rfl,hd,M,.refl,qq⟩))
     .rw[show(y==x)=false from dE.mpr g,eS]at qq;exact⟨M,.refl,qq⟩
def O2(G:Gl K mg a):Fq P w K mg base 5 a.aX (Hz a):=by
 refine fq G.aX.toDG sY (λr u=>⟨_,(oN (pA (vT (uu (pD (EG rfl) rfl G.bN Du (pR (ql rfl (wC (ix:=[none,some 0]) (N':=["number","board"])) (qk U3) (qg 0) rh (tW u oQ v0 (pD qc rfl G.g pX (pR (oU U1)))))))))
 (oO (oV oR))
 pb)
 (oN (uf (i:=4) sY.nd rfl (Or.inl rfl) rfl (wC (ix:=[none,some 0]) (N':=["number","board"])) (qk U3) (qg 0) rh (pf (oU U1) v0))
 (oN (pA (vT (uu (o9 (Me G) r G.aW (qR U1 U2 v4))))
 (oO (oV oR))
 pb)
 (oN (pA (oZ u U1 (pz (rA oR oR)))
 (oO (oV rE))
 pb)
 (oN (pj 5 sY (o9 (CT G) r G.ac (rA v0 U2)))
 (oN (pA (W3.b3 (xl (oZ u v5 rE) (xl (uu (pG (pf v4 oQ) G.e.toCls G.au (Fw G) r (pR U2))) (wm (vT (uu (pG v0 G.c.toCls G.T (yj G) r (pR U2))))))))
 (oO (oV oR))
 pb)
 (oO (oV v5)))))))),?_⟩)
 rintro ds M Q ⟨A,V,l,wd,x,ns,rfl,rd,hx,hw,q⟩
 have hz:=dN;have YC:ns.length<=2:=by rcases hw with⟨_,h⟩|⟨_,h⟩<;>omega
 have lca:((A.cs.map λk=>D.ref k.p).length:Int)=V.calls.length:=by rw[cR,rd.bd.len]
 unfold LB at q;refine qH (f:=Vb V.calls.length) trivial _ [] _ (by rw[cR];simp only[dD];omega) (λd hd k hk=>?_) λp hp=>?_
 .obtain⟨i,_,rfl⟩:=dz.mp hd;have hk:k (.bl (decide (0<=i)&&decide (i<V.calls.length))) M:=hk;refine qm (c:=decide (0<=i)) (λg=>?_) (λg=>?_)
  .rw[g,eJ]at hk;refine oP rd.bd.at_ (i' rfl (i' rd.bd.ca ?_));rw[lca];exact hk
  .rw[show decide (0<=i)=false from dE.mpr g,eS]at hk;exact hk
 have em:[]++(ns.map D.int).map (Vb V.calls.length)=ns.map λi=>D.bl (yB V.calls.length i):=by rw[dW,dZ];rfl
 rw[em];have t:=qa.new (c:=.lst (ns.map λi=>D.bl (yB V.calls.length i))) hp;refine i' oW (i' (xM (yB V.calls.length) ns) ?_);have Wf:=rd.sub t;generalize oX M p (.lst (ns.map λi=>D.bl (yB V.calls.length i)))=M1 at t Wf ⊢;rw[yT];refine qm (c:=!(ns.all (yB V.calls.length))) (λg=>?_) (λWv=>?_)
 .rw[cY (by simpa using g)]at q;exact⟨M,t,q⟩
 have Wv:ns.all (yB V.calls.length)=true:=by simpa using Wv
 rw[cW (by rw[Wv];exact Bool.noConfusion)]at q;obtain⟨ks,hks,eks,lcs,XM⟩:=Pq Wf.bd Wv;refine qH (f:=Vj A) trivial _ [] _ (by rw[cR];simp only[dD];omega) (λd hd k0 hk=>?_) λp2 VT=>?_
 .obtain⟨i,hi,rfl⟩:=dz.mp hd;obtain⟨k,i0,e1⟩:=XM i hi;obtain⟨n,rfl⟩:=d6 i0;have e1:A.cs[n]?=some k:=e1;have hk:k0 ((A.cs[n]?).elim .mC λk=>.ref k.p) M1:=hk;rw[e1]at hk;exact oP Wf.bd.at_ (i' rfl (i' rfl (i' Wf.bd.ca (i' (qP e1) hk))))
 rw[dW,eks];have t2:=qa.new (c:=.lst (ks.map λk:qS=>D.ref k.p)) VT;have l2:=@oW M1 p2 (ks.map λk:qS=>D.ref k.p);have XZ:=Wf.sub t2;have s2:=t.trans t2;generalize oX M1 p2 (.lst (ks.map λk:qS=>D.ref k.p))=M2 at l2 XZ s2 t2 ⊢;have hks:=hks.sub t2;generalize sO V ns=cs at hks lcs q;refine⟨wd,x,p2,_,ks,cs,rfl,l2,hks,by rw[lcs];exact hw,?_⟩;refine qm (c:=!Ii wd x cs) (λg=>?_) (λg=>?_)
 .rw[cY (by simpa using g)]at q;exact⟨M,s2,q⟩
 rw[cW (by simpa using g)]at q;have two:∀wd:Str,(wd=="answer"||wd=="back")=true->Q (FC (if ((ud V x).isNone&&(cs.head?.elim false (λc=>c.mD x)&&!(qU l V x)))=true then some "full" else ud V x)) M->cs.length=1->Df a [.ref A.b,.str x] M2 λdue M3=>uc (RK (MU (b3 (k3 .Is (v3 5) (c3 .mC))) (MU (b3 (zU "waits_with" (λD s=>D=a.e/\s=vd a) (i3 (v3 4) (c3 (.int 0))) (uL (v3 2) xm))) (Ta (b3 (zU "is_free" (λD s=>D=a.c/\s=wx a) (v3 0) (uL (v3 2) xm)))))) (QX (c3 (.str "full"))) Vf) (QX (v3 5)) {nx:=λ_ M'=>∃VQ,qa VQ M'/\Q .mC VQ,rt:=λd M'=>∃VQ,qa VQ M'/\Q d VQ} [some (.ref A.b),some (.str wd),some (.str x),some (.tup (ns.map D.int)),some (.ref p2),some due] M3:=λwd _ q hl=>by
  cases hks with
  | nil=>cases hl
  | cons k c ks cs hc _=>
  have q:Q (FC (if ((ud V x).isNone&&(c.mD x&&!(qU l V x)))=true then some "full" else ud V x)) M:=q;obtain⟨ad,md,h1,_⟩:=id hc;refine⟨A,V,x,rfl,XZ.bd,XZ.k,?_⟩;unfold D9;cases e:ud V x with
  | some w0=>rw[e]at q;exact⟨M,s2,q⟩
  | none=>
   rw[e]at q;refine i' l2 (i' (xS _ _) (oP h1 ⟨rfl,_,⟨rfl,rfl⟩,_,k,c,x,rfl,hc,?_⟩));refine qm (c:=c.mD x) (λg1=>?_) (λg1=>?_)
   .rw[g1]at q;refine oP XZ.bd.at_ ⟨rfl,_,⟨rfl,rfl⟩,A,V,l,x,rfl,XZ,hx,?_⟩;refine qm (c:=!(qU l V x)) (λg=>?_) (λg=>?_)
    .rw[g]at q;exact⟨M,s2,q⟩
    .rw[show(!(qU l V x))=false from dE.mpr g]at q;exact⟨M,s2,q⟩
   .rw[show c.mD x=false from dE.mpr g1]at q;exact⟨M,s2,q⟩
 rcases hw with⟨rfl|rfl|rfl|rfl,h⟩|⟨rfl|rfl,h⟩
 .exact⟨oK rfl,rfl,rfl,two "answer" rfl q (lcs.trans h)⟩
 .exact⟨oK rfl,rfl,rfl,M,s2,q⟩
 .exact⟨oK rfl,rfl,rfl,M,s2,q⟩
 .exact⟨oK rfl,rfl,rfl,two "back" rfl q (lcs.trans h)⟩
 .exact⟨oK rfl,rfl,rfl,M,s2,q⟩
 .exact⟨oK rfl,rfl,rfl,M,s2,q⟩
def QG(G:Gl K mg a):Fq P w K mg base 1 a.aY (Qx a):=by
 refine fq G.aY.toDG yf (λr u=>⟨_,(oN (pA (vT (Fl u oQ U2 (pD qc rfl G.g pX (pR (oU v0)))))
 (oO (oV oR))
 pb)
 (oN (pA (oZ u (pf (oU v0) U2) (pN u U1 oR))
 (oO (oV oR))
 pb)
 (oO (oV rE)))),?_⟩)
 rintro ds M Q ⟨A,V,b,i,rfl,bd,q⟩
 unfold MX at q;have XM:yB V.on.length i=(decide (0<=i)&&decide (i<V.on.length)):=rfl;have lon:((V.on.map D.bl).length:Int)=V.on.length:=by rw[cR]
 have no:yB V.on.length i=false->Q (.str "wish") M:=λh=>by rw[cY h]at q;exact q
 have yes:yB V.on.length i=true->Q (FC (if (V.on.getD i.toNat false==b)=true then some "wish" else none)) M:=λh=>by rw[h,cW Bool.noConfusion]at q;exact q
 refine qm (c:=decide (0<=i)) (λg0=>?_) (λg0=>⟨M,.refl,no (by rw[XM,show decide (0<=i)=false from dE.mpr g0];rfl)⟩);refine oP bd.at_ (i' rfl (i' bd.on ?_));rw[lon];refine qm (c:=!(decide (i<(V.on.length:Int)))) (λg1=>⟨M,.refl,no (by rw[XM,g0,show decide (i<(V.on.length:Int))=false by simpa using g1];rfl)⟩) (λg1=>?_);have h:yB V.on.length i=true:=by rw[XM,g0,show decide (i<(V.on.length:Int))=true by simpa using g1];rfl
 have q:=yes h;refine oP bd.at_ (i' rfl (i' rfl (i' bd.on (i' (Rq h) ?_))));have es:(Sa b=="on")=b:=by cases b<;>rfl
 show if (V.on.getD i.toNat false==(Sa b=="on"))=true then _ else _
 rw[es];refine qm (λg=>?_) (λg=>?_)
 .rw[cY g]at q;exact⟨M,.refl,q⟩
 .rw[cW g]at q;exact⟨M,.refl,q⟩
def GX(G:Gl K mg a):Fq P w K mg base 6 a.aZ (Gq a):=by
 refine fq G.aZ.toDG Bv (λr u=>⟨_,(oN (pj 2 Bv (pf U1 oQ))
 (oN (pA (oZ u U2 oR)
 (oO (oV rE))
 pb)
 (oN (pA (oZ u U2 (pz (rA oR oR)))
 (oO (oV (o9 (QG G) r G.aY (qR v0 U2 (pf U1 oQ)))))
 pb)
 (oN (pA (oZ u (pf U1 oQ) (xH (oU v0) G.h.toCls G.U (sV G) r))
 (oO (oV oR))
 pb)
 (oN (pA (oZ u U2 oR)
 (oO (oV (o9 (KC G) r G.aV (qR v0 (pf U1 oQ) (pf U1 oQ)))))
 pb)
 (oO (oV (o9 (O2 G) r G.aX (pJ v0 (qR U2 (pf U1 oQ) (rO U1 (r6 oQ) sS))))))))))),?_⟩)
 rintro ds M Q ⟨A,V,l,e,rfl,rd,hf,q⟩
 obtain⟨ph,gr,ws,W7,pr,gd,rs,i1,_⟩:=rd.pl;have p8:=rd.ok.p8;cases e with
 | turn=>exact⟨M,.refl,q⟩
 | sw b i=>
  cases b with
  | true=>exact⟨oK rfl,rfl,rfl,A,V,true,i,rfl,rd.bd,M,.refl,q⟩
  | false=>exact⟨oK rfl,rfl,rfl,A,V,false,i,rfl,rd.bd,M,.refl,q⟩
 | call x z=>
  have q:Q (FC (if hasS l.pn x=false then some "name" else FH l V x z)) M:=q;refine⟨oK rfl,rfl,rfl,?_⟩;refine oP rd.bd.at_ (i' rfl (oP i1 ⟨rfl,_,⟨rfl,rfl⟩,V.p,l,rfl,rd.pl,by omega,λp VT=>i' oW ⟨rfl,pW _,?_⟩⟩));have t:=qa.new (c:=.lst (l.pn.map D.str)) VT;have Wf:=rd.sub t;generalize oX M p (.lst (l.pn.map D.str))=M1 at t Wf ⊢;show if (!(inD (.str x) (l.pn.map D.str)))=true then _ else _
  rw[rM];refine qm (c:=!(hasS l.pn x)) (λg=>?_) (λg=>?_)
  .rw[cY (by simpa using g)]at q;exact⟨M,t,q⟩
  .have g:hasS l.pn x=true:=by simpa using g
   rw[g,cW Bool.noConfusion]at q;exact⟨A,V,l,x,z,rfl,Wf,qv.mp g,M,t,q⟩
 | num wd x ns=>
  have q:Q (FC (if hasS l.pn x=false then some "name" else LB l V wd x ns)) M:=q;have hf:tN.nf wd ns.length:=hf;have key:∀(M1:Mp),qa M M1->if (!(inD (.str x) (l.pn.map D.str)))=true then(∃VQ,qa VQ M1/\Q (.str "name") VQ)else Hz a [.ref A.b,.str wd,.str x,.tup (ns.map D.int)] M1 λd M'=>∃VQ,qa VQ M'/\Q d VQ:=λM1 t=>by
   rw[rM];refine qm (c:=!(hasS l.pn x)) (λg=>?_) (λg=>?_)
   .rw[cY (by simpa using g)]at q;exact⟨M,t,q⟩
   .have g:hasS l.pn x=true:=by simpa using g
    rw[g,cW Bool.noConfusion]at q;exact⟨A,V,l,wd,x,ns,rfl,rd.sub t,qv.mp g,hf,M,t,q⟩
  have one:ns.length=1->∃i,ns=[i]:=List.length_eq_one_iff.mp;have two:ns.length=2->∃i j,ns=[i,j]:=λh=>by
   match ns,h with
   | [i,j],_=>exact⟨i,j,rfl⟩
  rcases id hf with⟨rfl|rfl|rfl|rfl,h⟩|⟨rfl|rfl,h⟩
  .obtain⟨i,rfl⟩:=one h;exact⟨oK rfl,rfl,rfl,oP rd.bd.at_ (i' rfl (oP i1 ⟨rfl,_,⟨rfl,rfl⟩,V.p,l,rfl,rd.pl,by omega,λp VT=>i' oW ⟨rfl,pW _,key _ (.new VT)⟩⟩))⟩
  .obtain⟨i,rfl⟩:=one h;exact⟨oK rfl,rfl,rfl,oP rd.bd.at_ (i' rfl (oP i1 ⟨rfl,_,⟨rfl,rfl⟩,V.p,l,rfl,rd.pl,by omega,λp VT=>i' oW ⟨rfl,pW _,key _ (.new VT)⟩⟩))⟩
  .obtain⟨i,rfl⟩:=one h;exact⟨oK rfl,rfl,rfl,oP rd.bd.at_ (i' rfl (oP i1 ⟨rfl,_,⟨rfl,rfl⟩,V.p,l,rfl,rd.pl,by omega,λp VT=>i' oW ⟨rfl,pW _,key _ (.new VT)⟩⟩))⟩
  .obtain⟨i,rfl⟩:=one h;exact⟨oK rfl,rfl,rfl,oP rd.bd.at_ (i' rfl (oP i1 ⟨rfl,_,⟨rfl,rfl⟩,V.p,l,rfl,rd.pl,by omega,λp VT=>i' oW ⟨rfl,pW _,key _ (.new VT)⟩⟩))⟩
  .obtain⟨i,j,rfl⟩:=two h;exact⟨oK rfl,rfl,rfl,oP rd.bd.at_ (i' rfl (oP i1 ⟨rfl,_,⟨rfl,rfl⟩,V.p,l,rfl,rd.pl,by omega,λp VT=>i' oW ⟨rfl,pW _,key _ (.new VT)⟩⟩))⟩
  .obtain⟨i,j,rfl⟩:=two h;exact⟨oK rfl,rfl,rfl,oP rd.bd.at_ (i' rfl (oP i1 ⟨rfl,_,⟨rfl,rfl⟩,V.p,l,rfl,rd.pl,by omega,λp VT=>i' oW ⟨rfl,pW _,key _ (.new VT)⟩⟩))⟩
def Ca(V:qe)(x:Str):Prop:=∀c∈V.calls,¬AB c x
def DL{V:qe}{x:Str}(h:ud V x=none):Ca V x:=by
 unfold ud at h;cases e1:Dw V x with
 | some j=>rw[e1]at h;cases h
 | none=>
  cases e2:Hw V x with
  | some j=>rw[e1,e2]at h;cases h
  | none=>
   intro c hc g;have h1:=jt.mp e1 c hc;have h2:=jt.mp e2 c hc;rcases g with g|g
   .rw[h1]at g;cases g
   .rw[h2]at g;cases g
def rW{c:oS}(h:c.st="rings"){x:Str}:AB c x↔x=c.cr:=by unfold AB oS.mS oS.mI oS.mH;rw[h];simp(decide:=true)
def C0{c:oS}(h:c.st="waits"){x:Str}:AB c x↔x=c.cr:=by unfold AB oS.mS oS.mI oS.mH;rw[h];simp(decide:=true)
def sP{c:oS}(h:c.st="talks"){x:Str}:AB c x↔x∈c.ms:=by unfold AB oS.mS oS.mI oS.mH;rw[h,<-qv];simp(decide:=true)
def BC{c:oS}(h:c.st="held"){x:Str}:AB c x↔x∈c.ms/\c.hd≠some x:=by unfold AB oS.mS oS.mI;rw[h,<-qv];simp(decide:=true)
def E9{c:oS}(h:c.st="over"){x:Str}:¬AB c x:=by unfold AB oS.mS oS.mI oS.mH;rw[h];simp(decide:=true)
def rZ{c:oS}(h:c.st="rings"){x:Str}:c.hasB x=true↔x=c.cr\/x∈c.at_:=by unfold oS.hasB;rw[h,<-qv];simp(decide:=true)
def CZ{c:oS}(h:c.st="waits"){x:Str}:c.hasB x=true↔x=c.cr:=by unfold oS.hasB;rw[h];simp(decide:=true)
def sm{c:oS}(h:c.st="talks"\/c.st="held"){x:Str}:c.hasB x=true↔x∈c.ms:=by unfold oS.hasB;rw[<-qv];rcases h with h|h<;>(rw[h];simp(decide:=true))
def Ga{c:oS}(h:c.st="over"){x:Str}:c.hasB x=false:=by unfold oS.hasB;rw[h];simp(decide:=true)
def rG{c:oS}{x:Str}:c.mD x=true↔c.st="waits"/\x∈c.at_:=by unfold oS.mD;rw[dS,fk,qv]
theorem Et{α:Type}(f:α->Bool):∀{l:List α} {i:Nat} {c:α} (c':α),l[i]?=some c->((l.set i c').filter f).length+(if f c=true then 1 else 0)=(l.filter f).length+(if f c'=true then 1 else 0)
 | [],_,_,_,h=>by simp at h
 | x::r,0,c,c',h=>by cases h;rw[List.set_cons_zero,gO,gO];split<;>split<;>simp
 | x::r,i+1,c,c',h=>by
  have ih:=Et f (l:=r) (i:=i) (c:=c) c' (by simpa using h);rw[kT,gO,gO];split
  .rw[dY,dY];omega
  .exact ih
def ze.set{l:oY}{V V':qe}{o o':Option Nat}{i:Nat}{c c':oS}(h:ze l V o)(e:V'.calls=V.calls.set i c')(hc:V.calls[i]?=some c)(ho:∀j,j≠i->(o==some j)=(o'==some j))(ok:vn l (o'==some i) c')(he:∀x,AB c' x->AB c x\/Ca V x)(hu:∀x,c'.hasB x=true->c.hasB x=true\/(tY V x:Int)<vN l x)(hw:∀x,c'.mD x=true->c.mD x=true\/zM V x=false)(nx:tT l V'):ze l V' o':=by
 have si:∀{j:Nat} {d:oS},V'.calls[j]?=some d->(j=i/\d=c')\/(j≠i/\V.calls[j]?=some d):=λ{j d} g=>by rw[e]at g;exact(DD g).imp (λg=>⟨g.1,g.2.1⟩) id
 have key:∀(j:Nat) cj x,j≠i->V.calls[j]?=some cj->AB c' x->AB cj x->False:=λj cj x hj e1 g1 g2=>by
  rcases he x g1 with z|z
  .exact hj (h.un j i cj c x e1 hc g2 z)
  .exact z cj (qB e1) g2
 have keyw:∀(j:Nat) cj x,j≠i->V.calls[j]?=some cj->c'.mD x=true->cj.mD x=true->False:=λj cj x hj e1 g1 g2=>by
  rcases hw x g1 with z|z
  .exact hj (h.wt j i cj c x e1 hc g2 z)
  .unfold zM at z;exact absurd g2 (by rw[kX.mp z cj (qB e1)|>dE.mpr];exact Bool.noConfusion)
 refine⟨λj d g=>?_,λm n cm cn x e1 e2 g1 g2=>?_,λx hx=>?_,λm n cm cn x e1 e2 g1 g2=>?_,nx⟩
 .rcases si g with⟨rfl,rfl⟩|⟨hj,g⟩
  .exact ok
  .rw[<-ho j hj];exact h.ok j d g
 .rcases si e1 with⟨rfl,rfl⟩|⟨hm,e1⟩<;>rcases si e2 with⟨rfl,rfl⟩|⟨hn,e2⟩
  .rfl
  .exact(key n cn x hn e2 g1 g2).elim
  .exact(key m cm x hm e1 g2 g1).elim
  .exact h.un m n cm cn x e1 e2 g1 g2
 .have cs:=Et (λk:oS=>k.hasB x) c' hc;have hl:=h.ln x hx;unfold tY at hl ⊢;rw[e];by_cases g:c'.hasB x=true
  .rw[cY g]at cs;rcases hu x g with z|z
   .rw[cY z]at cs;omega
   .unfold tY at z;omega
  .rw[cW g]at cs;omega
 .rcases si e1 with⟨rfl,rfl⟩|⟨hm,e1⟩<;>rcases si e2 with⟨rfl,rfl⟩|⟨hn,e2⟩
  .rfl
  .exact(keyw n cn x hn e2 g1 g2).elim
  .exact(keyw m cm x hm e1 g2 g1).elim
  .exact h.wt m n cm cn x e1 e2 g1 g2
def ze.add{l:oY}{V V':qe}{c':oS}(h:WF l V)(e:V'.calls=V.calls++[c'])(ok:vn l true c')(he:∀x,AB c' x->Ca V x)(hu:∀x,c'.hasB x=true->(tY V x:Int)<vN l x)(hw:∀x,c'.mD x=false)(nx:tT l V'):ze l V' (some V.calls.length):=by
 have si:∀{j:Nat} {d:oS},V'.calls[j]?=some d->(j=V.calls.length/\d=c')\/(j≠V.calls.length/\V.calls[j]?=some d):=λ{j d} g=>by
  rw[e]at g;by_cases z:j<V.calls.length
  .rw[eI z]at g;exact .inr ⟨by omega,g⟩
  .have:=(cV.mp g).1;rw[cU,dH]at this;have z:j=V.calls.length:=by omega
   subst z;rw[eE (de _)]at g;simp only[h9,iw,jl]at g;exact .inl ⟨rfl,g.symm⟩
 refine⟨λj d g=>?_,λm n cm cn x e1 e2 g1 g2=>?_,λx hx=>?_,λm n cm cn x e1 e2 g1 g2=>?_,nx⟩
 .rcases si g with⟨rfl,rfl⟩|⟨hj,g⟩
  .rw[fg];exact ok
  .rw[show(some V.calls.length==some j)=false by simpa using dM hj];exact h.ok j d g
 .rcases si e1 with⟨rfl,rfl⟩|⟨hm,e1⟩<;>rcases si e2 with⟨rfl,rfl⟩|⟨hn,e2⟩
  .rfl
  .exact(he x g1 cn (qB e2) g2).elim
  .exact(he x g2 cm (qB e1) g1).elim
  .exact h.un m n cm cn x e1 e2 g1 g2
 .have hl:=h.ln x hx;unfold tY at hl ⊢;rw[e,gA,cU,gO];split
  .rename_i g;have:=hu x g;unfold tY at this;simp only[gk,dH];omega
  .simp only[gk,dD];omega
 .rcases si e1 with⟨rfl,rfl⟩|⟨hm,e1⟩<;>rcases si e2 with⟨rfl,rfl⟩|⟨hn,e2⟩
  .rfl
  .rw[hw x]at g1;cases g1
  .rw[hw x]at g2;cases g2
  .exact h.wt m n cm cn x e1 e2 g1 g2
noncomputable def oS.core(c:oS):oS:={c with way:=[],si:=0}
def yP(V V':qe):Prop:=V'.calls.map oS.core=V.calls.map oS.core
def yP.at_{V V':qe}(h:yP V V'){i:Nat}{c':oS}(e:V'.calls[i]?=some c'):∃c,V.calls[i]?=some c/\c'.core=c.core:=by
 have:=eQ (·[i]?) h;simp only[dA,e]at this;cases e':V.calls[i]? with
 | none=>rw[e']at this;cases this
 | some c=>rw[e']at this;exact⟨c,rfl,df this⟩
def yP.used{V V':qe}(h:yP V V')(x:Str):tY V' x=tY V x:=by
 have key:∀cs:List oS,(cs.filter (·.hasB x)).length=((cs.map oS.core).filter (·.hasB x)).length:=λcs=>by rw[gX,cR];rfl
 unfold tY;rw[key,h,<-key]
def yP.wf{l:oY}{V V':qe}{o:Option Nat}(h:yP V V')(wf:ze l V o)(hw:∀(i:Nat) c',V'.calls[i]?=some c'->c'.way≠[]/\∀z∈c'.way,z∈l.nm)(nx:tT l V'):ze l V' o:=by
 refine⟨λi c' e=>?_,λi j ci cj x e1 e2 g1 g2=>?_,λx hx=>by rw[h.used];exact wf.ln x hx,λi j ci cj x e1 e2 g1 g2=>?_,nx⟩
 .obtain⟨c,ec,ee⟩:=h.at_ e;have k:=wf.ok i c ec;have k1:c'.at_=c.at_:=show c'.core.at_=c.core.at_ by rw[ee]
  have k2:c'.ms=c.ms:=show c'.core.ms=c.core.ms by rw[ee]
  have k3:c'.cr=c.cr:=show c'.core.cr=c.core.cr by rw[ee]
  exact⟨by show Lv _ c'.core;rw[ee];exact k.sh,by rw[k3];exact k.cr,by rw[k1];exact k.at_,by rw[k2];exact k.ms,by rw[k1];exact k.an,by rw[k2];exact k.mn,by rw[k1,k3];exact k.ca,hw i c' e⟩
 .obtain⟨di,a1,a2⟩:=h.at_ e1;obtain⟨dj,b1,b2⟩:=h.at_ e2;exact wf.un i j di dj x a1 b1 (by show AB di.core x;rw[<-a2];exact g1) (by show AB dj.core x;rw[<-b2];exact g2)
 .obtain⟨di,a1,a2⟩:=h.at_ e1;obtain⟨dj,b1,b2⟩:=h.at_ e2;exact wf.wt i j di dj x a1 b1 (by show di.core.mD x=true;rw[<-a2];exact g1) (by show dj.core.mD x=true;rw[<-b2];exact g2)
def sT.core{V V':qe}(h:sT V V'):yP V V':=by have:=eQ (List.map oS.core) h;rw[dZ,dZ]at this;exact this
def JG(V:qe):yP V (pO V .turn):=by show(V.calls.map oS.tick).map oS.core=V.calls.map oS.core;rw[dZ];refine gQ λc _=>?_;show(oS.tick c).core=c.core;unfold oS.tick;split<;>rfl
def Em{l:oY}{V:qe}(wf:WF l V):WF l (pO V .turn):=(JG V).wf wf (λi c' e=>by
 have e:(V.calls.map oS.tick)[i]?=some c':=e;rw[dA]at e;cases q:V.calls[i]? with
 | none=>rw[q]at e;cases e
 | some c=>
  rw[q]at e;have e:c.tick=c':=df e;have hw:c.tick.way=c.way:=by unfold oS.tick;split<;>rfl
  rw[<-e,hw];exact(wf.ok i c q).wy) wf.nx
def S5{l:oY}{V:qe}{b:Bool}{i:Nat}(wf:WF l V):WF l (pO V (.sw b i)):=⟨wf.ok,wf.un,wf.ln,wf.wt,wf.nx⟩
def EN{l:oY}{V:qe}{o:Option Nat}{i:Nat}{z:Str}{ns:List Nat}(wf:ze l V o):ze l (pO V (.asks i z ns)) o:=⟨wf.ok,wf.un,wf.ln,wf.wt,wf.nx⟩
def Gn{l:oY}{V:qe}{o:Option Nat}{v:rC}(wf:ze l V o)(hz:v.g∈l.nm):ze l (pO V (.leg v)) o:=(y9 V v).core.wf wf (λi c' e=>by
 have e:(V.calls.modify v.i (·.go v.g))[i]?=some c':=e;rw[iP]at e;cases q:V.calls[i]? with
 | none=>rw[q]at e;cases e
 | some c=>
  rw[q]at e;have k:=(wf.ok i c q).wy;have e:(if v.i=i then c.go v.g else c)=c':=df e;by_cases g:v.i=i
  .rw[cY g]at e;rw[<-e];refine⟨by show c.way++[v.g]≠[];simp,λz hz'=>?_⟩;rcases dU.mp (show z∈c.way++[v.g]from hz')with y|y
   .exact k.2 z y
   .rw[dg.mp y];exact hz
  .rw[cW g]at e;rw[<-show c=c' from e];exact k) wf.nx
theorem Bc{l:oY}{o:Option Nat}(i:Nat):∀(st:sG) (q:Option Str) {V:qe},ze l V o->(∀s∈st,s.1∈l.nm)->ze l (qr V (rf i q st)) o
 | [],_,V,wf,_=>wf
 | (y,gs)::r,none,V,wf,h=>Bc i r (some y) (EN wf) λs hs=>h s (dC _ hs)
 | (y,gs)::r,some u,V,wf,h=>Bc i r (some y) (EN (Gn wf (h _ dO))) λs hs=>h s (dC _ hs)
def qT{V:qe}{i:Nat}{c:oS}{f:oS->oS}(h:V.calls[i]?=some c):(wN V i f).calls=V.calls.set i (f c):=by unfold wN;rw[sN h]
def AH{i:Nat}:∀j,j≠i->((some i:Option Nat)==some j)=((none:Option Nat)==some j):=λj hj=>by rw[show((some i:Option Nat)==some j)=false by simpa using dM hj];rfl
def U5{l:oY}{V:qe}{i:Nat}{c:oS}(wf:ze l V (some i))(hc:V.calls[i]?=some c):c.st="rings"/\c.ms=[]/\c.hd=none/\c.wd=none/\c.at_=[]:=by
 have sh:=(wf.ok i c hc).sh;rw[fg]at sh;rcases sh with g|g
 .exact⟨g.1,g.2.1,g.2.2.1,g.2.2.2.1,g.2.2.2.2.1 rfl⟩
 .cases g.1
def Ou{l:oY}{c:oS}{o:Bool}{w:Str}(k:vn l o c)(hw:w∈KS):vn l false (c.over w):=⟨.inr ⟨rfl,.inr (.inr (.inr ⟨rfl,rfl,rfl,rfl,w,hw,rfl⟩))⟩,k.cr,(λx hx=>by cases hx),(λx hx=>by cases hx),eG,eG,(λhx=>by cases hx),k.wy⟩
def wb{l:oY}{V V':qe}{o:Option Nat}{i:Nat}{c:oS}{w:Str}(wf:ze l V o)(hc:V.calls[i]?=some c)(ho:o=none\/o=some i)(hw:w∈KS)(e:V'.calls=V.calls.set i (c.over w))(nx:tT l V'):WF l V':=
 wf.set e hc (λj hj=>by rcases ho with rfl|rfl;rfl;exact AH j hj) (Ou (wf.ok i c hc) hw) (λx g=>(E9 rfl g).elim) (λx g=>by rw[Ga (c:=c.over w) rfl]at g;cases g) (λx g=>by have:=(rG.mp g).1;exact absurd this (show("over":Str)≠"waits" by decide)) nx
def Hg{l:oY}{V:qe}{c z:Str}(h:(l.mv z).Nodup):(wO l V c z).Nodup:=by
 unfold wO;split
 .cases(uB (l.mv z) (yL V z)).filter λx=>hasS (tL l V c z) x with
  | nil=>exact eG
  | cons y r=>exact dP.mpr ⟨dB,eG⟩
 .exact h.sublist fZ
def La(ps:List (Str×Int))(z:Str)(n:Int)(y:Str):(AM ps z n).find? (λp=>decide (p.1=y))=if y=z then some (z,n)else ps.find? λp=>decide (p.1=y):=by
 unfold AM;by_cases h:ps.any (λp=>decide (p.1=z))=true
 .rw[cY h];induction ps with
  | nil=>cases h
  | cons p r ih=>
   rw[dR,fH,fH];by_cases hp:p.1=z
   .rw[cY hp];by_cases hy:y=z
    .rw[cY hy,hy];simp[hp]
    .rw[cW hy];have n1:decide (p.1=y)=false:=eO (λq=>hy (q.symm.trans hp));simp only[n1];by_cases hr:r.any (λp=>decide (p.1=z))=true
     .have:=ih hr;rw[cW hy]at this;exact this
     .have hr:∀q∈r,¬q.1=z:=λq hq g=>hr (gw.mpr ⟨q,hq,dQ g⟩);rw[show r.map (λp=>if p.1=z then(p.1,n)else p)=r from(gQ λq hq=>cW (hr q hq)).trans (iZ _)]
   .rw[cW hp];have hr:r.any (λp=>decide (p.1=z))=true:=by
     rw[gc,gW]at h;rcases h with g|g
     .exact absurd (fO g) hp
     .exact g
    have ih:=ih hr;by_cases hy:y=z
    .rw[cY hy]at ih ⊢;have n1:decide (p.1=y)=false:=eO (λq=>hp (q.trans hy));simp only[n1];exact ih
    .rw[cW hy]at ih ⊢;cases decide (p.1=y)with
     | true=>rfl
     | false=>exact ih
 .rw[cW h,List.find?_append];have hr:∀q∈ps,¬q.1=z:=λq hq g=>h (gw.mpr ⟨q,hq,dQ g⟩);by_cases hy:y=z
  .subst hy;rw[cY rfl,gz.mpr λq hq=>by simpa using hr q hq,Option.none_or];simp
  .rw[cW hy,fH,eO (λq:z=y=>hy q.symm)];simp
def L6{l:oY}{V:qe}{z:Str}{n:Int}(h:tT l V)(h0:0<=n)(h1:n<=((l.mv z).length:Int)):tT l (pO V (.next z n)):=λy hy ht=>by
 show ∃v,(AM V.ps z n).find? _=some v/\_;rw[La];by_cases e:y=z
 .subst e;rw[cY rfl];exact⟨_,rfl,h0,h1⟩
 .rw[cW e];exact h y hy ht
def D6{l:oY}{V:qe}{x:Str}(h:qU l V x=true):(tY V x:Int)<vN l x:=fO h
def JP{l:oY}{V V':qe}{o:Option Nat}{i:Nat}{c:oS}{w x:Str}(wf:ze l V o)(hc:V.calls[i]?=some c)(e:V'.calls=V.calls.set i (c.over w))(hx:AB c x):Ca V' x:=λd hd g=>by
 rw[e]at hd;obtain⟨j,hj,ed⟩:=fE hd;have ej:(V.calls.set i (c.over w))[j]?=some d:=by rw[cT hj,ed]
 rcases DD ej with⟨_,rfl,_⟩|⟨Wc,ej⟩
 .exact E9 rfl g
 .exact Wc (wf.un j i d c x ej hc g hx)
def Ji{V V':qe}{i:Nat}{c:oS}{w x:Str}(hc:V.calls[i]?=some c)(e:V'.calls=V.calls.set i (c.over w))(hx:c.hasB x=true):tY V' x+1=tY V x:=by
 have:=Et (λk:oS=>k.hasB x) (c.over w) hc;unfold tY;rw[e];simp only[hx,iV,Ga (c:=c.over w) rfl]at this
 simpa using this
def FJ{l:oY}{V V':qe}{o:Option Nat}{i j:Nat}{c d:oS}{ms:List Str}(wf:ze l V o)(ho:o=none\/o=some i)(hc:V.calls[i]?=some c)(hd:V.calls[j]?=some d)(WL:i≠j)(e:V'.calls=(V.calls.set i (c.over "merged")).set j (d.mem ms))(nx:tT l V')(dt:d.st="talks")(m1:ms.Nodup)(m2:ms.length=2\/ms.length=3)(m3:∀x∈ms,x∈d.ms\/(AB c x/\c.hasB x=true))(m4:∀x∈ms,x∈l.pn):WF l V':=by
 have e1:(wN V i (·.over "merged")).calls=V.calls.set i (c.over "merged"):=qT hc;have w1:WF l (wN V i (·.over "merged")):=wb wf hc ho (by decide) e1 wf.nx;have hd1:(wN V i (·.over "merged")).calls[j]?=some d:=by rw[e1,eP WL];exact hd
 have kd:=w1.ok j d hd1;have kd':d.hd=none/\d.wd=none/\d.at_=[]:=by
  rcases kd.sh with g|⟨_,g|g|⟨_,g⟩|g⟩
  .rw[dt]at g;exact absurd g.1 (by decide)
  .rw[dt]at g;exact absurd g.1 (by decide)
  .exact⟨g.2.2.1,g.2.2.2.1,g.2.2.2.2⟩
  .rw[dt]at g;exact absurd g.1 (by decide)
  .rw[dt]at g;exact absurd g.1 (by decide)
 refine w1.set (c':=d.mem ms) (by rw[e,e1]) hd1 (λ_ _=>rfl) ⟨.inr ⟨rfl,.inr (.inl ⟨dt,m2,kd'.1,kd'.2.1,kd'.2.2⟩)⟩,kd.cr,kd.at_,m4,kd.an,m1,kd.ca,kd.wy⟩ (λx g=>?_) (λx g=>?_) (λx g=>?_) nx
 .have g:=(sP (c:=d.mem ms) dt).mp g;rcases m3 x g with y|y
  .exact .inl ((sP dt).mpr y)
  .exact .inr (JP wf hc e1 y.1)
 .have g:=(sm (c:=d.mem ms) (.inl dt)).mp g;rcases m3 x g with y|y
  .exact .inl ((sm (.inl dt)).mpr y)
  .have:=Ji hc e1 y.2;have:=wf.ln x (m4 x g);exact .inr (by omega)
 .have:=(rG.mp g).1;rw[show(d.mem ms).st="talks" from dt]at this;exact absurd this (by decide)
def PZ{l:oY}{V V1:qe}{i:Nat}{c:oS}{e:vv}(ok:rg l)(wf:ze l V1 (some i))(same:yP V V1)(hc:V1.calls[i]?=some c)(he:Gb l V c.cr e):WF l (qr V1 (sC l V1 i e)):=by
 obtain⟨p1,p2,p3,p4,p5⟩:=U5 wf hc;have k:=wf.ok i c hc;have hi:=(cV.mp hc).1;cases e with
 | rings z ps=>
  obtain⟨hz,Wc,rfl⟩:=he;obtain⟨⟨q1,q2,q3,q4⟩,_⟩:=ok.of hz;obtain⟨r1,r2⟩:=Gc (l:=l) (V:=V) (c:=c.cr) (z:=z);generalize hps:wO l V c.cr z=ps at Wc r1 r2;have VP:∀V2:qe,V2.calls=V1.calls->tT l V2->WF l (pO V2 (.rings i ps)):=λV2 e2 nx=>by
   have e3:(pO V2 (.rings i ps)).calls=V1.calls.set i (c.ring ps):=by show(wN (qw V2 _) i _).calls=_;rw[qT (c:=c) (by show V2.calls[i]?=_;rw[e2];exact hc)];show V2.calls.set i _=_;rw[e2]
   have free:∀x∈ps,qU l V x=true/\x≠c.cr:=λx hx=>by have h:=(fz.mp (r1 x hx).1).2;simp only[dS,gI]at h;exact⟨h.2,by simpa using h.1⟩
   refine wf.set e3 hc AH ⟨.inl ⟨rfl,p2,p3,p4,(λh=>by cases h),λ_=>Wc⟩,k.cr,λx hx=>q4 x (r1 x hx).2,k.ms,by rw[<-hps];exact Hg q3,k.mn,λhx=>(free _ hx).2 rfl,k.wy⟩ (λx g=>?_) (λx g=>?_) (λx g=>?_) nx
   .exact .inl ((rW p1).mpr ((rW (c:=c.ring ps) rfl).mp g))
   .rcases(rZ (c:=c.ring ps) rfl).mp g with y|y
    .exact .inl ((rZ p1).mpr (.inl y))
    .refine .inr ?_;rw[same.used];exact D6 (free x y).1
   .exact absurd (rG.mp g).1 (show("rings":Str)≠"waits" by decide)
  show WF l (qr V1 ((if (l.mF z=="turns")=true then _ else _)++[.rings i ps]));rw[rc];by_cases ht:(l.mF z=="turns")=true
  .rw[cY ht];have lp:0<(l.mv z).length:=fu.mpr q1;refine VP _ rfl (L6 wf.nx (eR _ (by omega)) (Int.le_of_lt (eN _ (by omega))))
  .rw[cW ht];exact VP V1 rfl wf.nx
 | waits z=>
  obtain⟨hz,Wc,hw⟩:=he;have e3:(pO V1 (.waits i z)).calls=V1.calls.set i (c.wait z):=qT (V:=qw V1 _) hc;have hw1:zM V1 z=false:=by
   unfold zM at hw ⊢;have key:∀cs:List oS,cs.any (·.mD z)=(cs.map oS.core).any (·.mD z):=λcs=>by rw[jD];rfl
   rw[key,same,<-key];exact hw
  refine wf.set e3 hc AH ⟨.inr ⟨rfl,.inl ⟨rfl,p2,p3,p4,rfl⟩⟩,k.cr,λx hx=>by rw[dg.mp hx];exact hz,k.ms,dP.mpr ⟨dB,eG⟩,k.mn,λhx=>Wc (dg.mp hx).symm,k.wy⟩ (λx g=>?_) (λx g=>?_) (λx g=>?_) wf.nx
  .exact .inl ((rW p1).mpr ((C0 (c:=c.wait z) rfl).mp g))
  .exact .inl ((rZ p1).mpr (.inl ((CZ (c:=c.wait z) rfl).mp g)))
  .have:=(rG.mp g).2;rw[dg.mp this];exact .inr hw1
 | breaks z=>
  obtain⟨x,rfl,hb⟩:=he;obtain⟨j,d0,t1,t2,t3,t4,t5,t6⟩:=Gf hb;have ht:vi V1 z=some j:=by
   rw[<-t1];unfold vi;have key:∀cs:List oS,cs.findIdx? (·.mH z)=(cs.map oS.core).findIdx? (·.mH z):=λcs=>by rw[hJ];rfl
   rw[key,same,<-key]
  obtain⟨d,ed,ec⟩:∃d,V1.calls[j]?=some d/\d.core=d0.core:=by
   have:=eQ (·[j]?) same;simp only[dA,t2]at this;cases q:V1.calls[j]? with
   | none=>rw[q]at this;cases this
   | some d=>rw[q]at this;exact⟨d,rfl,df this⟩
  have ds:d.st="talks":=by rw[show d.st=d0.st from show d.core.st=d0.core.st by rw[ec]];exact t3
  have dm:d.ms=d0.ms:=show d.core.ms=d0.core.ms by rw[ec]
  have WL:i≠j:=λy=>by subst y;rw[hc]at ed;cases ed;rw[p1]at ds;exact absurd ds (by decide)
  have hee:sC l V1 i (.breaks z)=[.merge i j (d.ms++[c.cr])]:=by unfold sC;dsimp only;rw[ht,hc];dsimp only;rw[ed];rfl
  rw[hee];have ncr:c.cr∉d.ms:=λy=>WL (wf.un i j c d c.cr hc ed ((rW p1).mpr rfl) ((sP ds).mpr y));have kd:=wf.ok j d ed;refine FJ (V':=pO V1 (.merge i j (d.ms++[c.cr]))) (ms:=d.ms++[c.cr]) wf (.inr rfl) hc ed WL ?_ wf.nx ds ?_ (.inr ?_) (λx hx=>?_) (λx hx=>?_)
  .show(V1.calls.modify i _).modify j _=_;rw[sN hc,sN (show(V1.calls.set i _)[j]?=some d by rw[eP WL];exact ed)]
  .refine fN.mpr ⟨kd.mn,dP.mpr ⟨dB,eG⟩,λx hx y hy q=>ncr ?_⟩;rw[dg.mp hy]at q;rw[<-q];exact hx
  .rw[cU,dm,t5];rfl
  .rcases dU.mp hx with y|y
   .exact .inl y
   .rw[dg.mp y];exact .inr ⟨(rW p1).mpr rfl,(rZ p1).mpr (.inl rfl)⟩
  .rcases dU.mp hx with y|y
   .exact kd.ms x y
   .rw[dg.mp y];exact k.cr
 | engaged z=>exact wb (V':=pO V1 (.over i "engaged")) wf hc (.inr rfl) (by decide) (qT (V:=qw V1 _) hc) wf.nx
 | barred=>exact wb (V':=pO V1 (.over i "barred")) wf hc (.inr rfl) (by decide) (qT (V:=qw V1 _) hc) wf.nx
 | ring ns=>exact wb (V':=pO V1 (.over i "ring")) wf hc (.inr rfl) (by decide) (qT (V:=qw V1 _) hc) wf.nx
def PD{l:oY}{V:qe}{i:Nat}{k:oS}(ok:rg l)(wf:ze l V (some i))(hk:V.calls[i]?=some k):WF l (qr V (wB l V i)):=by
 have WS:=wf.ok i k hk;unfold wB;rw[hk];dsimp only[Option.elim];obtain⟨z,hz⟩:∃z,k.way.getLast?=some z:=by
  cases e:k.way.getLast? with
  | none=>exact absurd (gL.mp e) WS.wy.1
  | some z=>exact⟨z,rfl⟩
 rw[show k.way.getLastD Str.empty=z by rw[ij,hz];rfl];have ro:xC l V k.cr (l.nm.length+1) [] (uA l V k.cr z k.way.dropLast):=yI ok _ _ _ _ (WS.wy.2 z (iN hz)) λx hx=>WS.wy.2 x (iO _ hx);generalize uA l V k.cr z k.way.dropLast=R at ro;obtain⟨e,st⟩:=R;have snm:∀s∈st,s.1∈l.nm:=λs hs=>(ro.nm s hs).elim (λh=>by cases h) id;have w1:=Bc i st none wf snm;have Wr:=uN i st none V;rw[rc,rc];dsimp only;have VP:∀V1:qe,ze l V1 (some i)->sT V V1->WF l (qr V1 (sC l V i e)):=λV1 w s=>by
  rw[<-s.ends];obtain⟨c',e1,e2⟩:=s.at_ hk;have hcr:c'.cr=k.cr:=show c'.bare.cr=k.bare.cr by rw[e2]
  exact PZ ok w s.core e1 (by rw[hcr];exact ro.e)
 cases e with
 | ring ns=>
  obtain⟨x,ns',rfl⟩:=fL (show ns≠[]from ro.e);cases hl:st.getLast? with
  | none=>rw[show tE i st (.ring (x::ns'))=[]by unfold tE;dsimp only;rw[hl];rfl];exact VP _ w1 Wr
  | some s0=>rw[show tE i st (.ring (x::ns'))=[.leg ⟨i,s0.1,x,s0.1⟩]by unfold tE;dsimp only;rw[hl];rfl];exact VP _ (Gn (v:=⟨i,s0.1,x,s0.1⟩) w1 (ro.wy _ rfl x dO)) (Wr.trans (y9 _ _))
 | rings _ _=>exact VP _ w1 Wr
 | waits _=>exact VP _ w1 Wr
 | breaks _=>exact VP _ w1 Wr
 | engaged _=>exact VP _ w1 Wr
 | barred=>exact VP _ w1 Wr
def GB{l:oY}{V:qe}{y z:Str}(wf:WF l V)(hy:y∈l.pn)(hz:z∈l.nm)(hi:Ca V y)(hf:qU l V y=true):ze l (qr V [.new V.calls.length y,.leg ⟨V.calls.length,y,z,y⟩]) (some V.calls.length):=by
 have e:(qr V [.new V.calls.length y,.leg ⟨V.calls.length,y,z,y⟩]).calls=V.calls++[(yE y).go z]:=by show(V.calls++[yE y]).modify V.calls.length _=_;rw[sN (c:=yE y) (by rw[eE (de _),h9];rfl),j3 _ _ (de _),h9];rfl
 refine wf.add e ⟨.inl ⟨rfl,rfl,rfl,rfl,λ_=>rfl,(λh=>by cases h)⟩,hy,(λx h=>by cases h),(λx h=>by cases h),eG,eG,(λh=>by cases h),fC _ _,λx h=>by rw[dg.mp h];exact hz⟩ (λx h=>?_) (λx h=>?_) (λx=>?_) wf.nx
 .rw[(rW (c:=(yE y).go z) rfl).mp h];exact hi
 .rcases(rZ (c:=(yE y).go z) rfl).mp h with g|g
  .rw[g];exact D6 hf
  .cases g
 .cases q:((yE y).go z).mD x with
  | false=>rfl
  | true=>exact absurd (rG.mp q).1 (show("rings":Str)≠"waits" by decide)
def Ls{V:qe}{y z:Str}:∃k,(qr V [.new V.calls.length y,.leg ⟨V.calls.length,y,z,y⟩]).calls[V.calls.length]?=some k:=by
 have:V.calls.length<(qr V [.new V.calls.length y,.leg ⟨V.calls.length,y,z,y⟩]).calls.length:=by show V.calls.length<((V.calls++[yE y]).modify _ _).length;rw[gi,cU];exact fA _
 exact⟨_,cT this⟩
def Eu{l:oY}{V:qe}{i:Nat}{c:oS}{x y:Str}{fs:List Nat}(wf:WF l V)(hc:V.calls[i]?=some c)(hs:c.st="rings")(hy:y∈l.nm):ze l (qr V [.asks i x fs,.quiet i,.leg ⟨i,x,y,x⟩]) (some i):=by
 refine Gn (v:=⟨i,x,y,x⟩) ?_ hy;have k:=wf.ok i c hc;have w1:WF l (pO V (.asks i x fs)):=EN wf;have sh:c.ms=[]/\c.hd=none/\c.wd=none:=by
  rcases k.sh with g|⟨_,g|g|⟨_,g⟩|g⟩
  .exact⟨g.2.1,g.2.2.1,g.2.2.2.1⟩
  all_goals(rw[hs]at g;exact absurd g.1 (by decide))
 refine w1.set (i:=i) (c:=c) (c':=c.nv) (qT (V:=qw (pO V (.asks i x fs)) _) hc) hc (λj hj=>(AH j hj).symm) ?_ (λx g=>.inl ?_) (λx g=>.inl ?_) (λx g=>?_) wf.nx
 .rw[fg];exact⟨.inl ⟨hs,sh.1,sh.2.1,sh.2.2,λ_=>rfl,(λh=>by cases h)⟩,k.cr,(λx h=>by cases h),k.ms,eG,k.mn,(λh=>by cases h),k.wy⟩
 .exact(rW hs).mpr ((rW (c:=c.nv) hs).mp g)
 .rcases(rZ (c:=c.nv) hs).mp g with y|y
  .exact(rZ hs).mpr (.inl y)
  .cases y
 .have:=(rG.mp g).1;rw[show c.nv.st="rings" from hs]at this;exact absurd this (by decide)
inductive T7(l:oY)(V:qe)(i:Nat):List Nat->Prop
 | no:T7 l V i []
 | on (c:oS) (k:Nat) (r:List Nat) (b:Bool) (x y:Str) (n:Int):V.calls[i]?=some c->c.st="rings"->l.my[k]?=some (b,.silent x y n)->c.way.getLast?=some x->y∈l.nm->T7 l V i (k::r)
def Gp{l:oY}{V:qe}{i:Nat}(ok:rg l):T7 l V i (y0 l V i):=by
 unfold y0;cases e:V.calls[i]? with
 | none=>exact .no
 | some c=>
  dsimp only[Option.elim];by_cases hs:(c.st=="rings")=true
  .rw[cY hs];cases q:Hc l V (FX c)with
   | nil=>exact .no
   | cons k r=>
    obtain⟨⟨b,w⟩,e1,e2⟩:=Eg (i:=k) (by rw[q];exact dO);cases w with
    | silent x y n=>unfold FX at e2;rw[dS,fk]at e2;exact .on c k r b x y n e (eq_of_beq hs) e1 e2.1 (BL ok (fQ e1) (z:=Str.empty) rfl)
    | _=>cases e2
  .rw[cW hs];exact .no
def zr{l:oY}{V:qe}{i k:Nat}{r:List Nat}{b:Bool}{x y:Str}{n:Int}(h:l.my[k]?=some (b,.silent x y n)):tF l V i (k::r)=[.asks i x (k::r),.quiet i,.leg ⟨i,x,y,x⟩]++wB l (qr V [.asks i x (k::r),.quiet i,.leg ⟨i,x,y,x⟩]) i:=by unfold tF;simp only[List.head?_cons,lN,h]
def Es{V:qe}{i:Nat}{c:oS}{x y:Str}{fs:List Nat}(h:V.calls[i]?=some c):(qr V [.asks i x fs,.quiet i,.leg ⟨i,x,y,x⟩]).calls[i]?=some (c.nv.go y):=by show((V.calls.modify i oS.nv).modify i _)[i]?=_;rw[iP,iP,h];simp
def HZ{l:oY}{V:qe}{i:Nat}(ok:rg l)(wf:WF l V):WF l (qr V (tF l V i (y0 l V i))):=by
 have d:=Gp (V:=V) (i:=i) ok;generalize y0 l V i=fs at d;cases d with
 | no=>exact wf
 | on c k r b x y n hc hs hk hw hy=>rw[zr hk,rc];exact PD ok (Eu wf hc hs hy) (Es hc)
theorem Ey{l:oY}(ok:rg l):∀(is:List Nat) {V:qe},WF l V->WF l (qr V (rk l is V))
 | [],_,wf=>wf
 | i::r,V,wf=>by unfold rk;rw[rc];exact Ey ok r (HZ ok wf)
theorem CF(l:oY)(i:Nat):∀(is:List Nat) (V:qe),rk l (is++[i]) V=rk l is V++tF l (qr V (rk l is V)) i (y0 l (qr V (rk l is V)) i)
 | [],V=>by show tF l V i _++[]=[]++_;rw[eM];rfl
 | j::r,V=>by show tF l V j _++rk l (r++[i]) _=(tF l V j _++rk l r _)++_;rw[CF l i r,fi,show rk l (j::r) V=tF l V j (y0 l V j)++rk l r (qr V (tF l V j (y0 l V j)))from rfl,rc]
def tj{ss:List Str}{x y:Str}:y∈qX ss x↔y∈ss/\y≠x:=by unfold qX;rw[fz,gI,fX]
theorem xh{x:Str}:∀{ss:List Str},ss.Nodup->x∈ss->(qX ss x).length+1=ss.length
 | [],_,h=>by cases h
 | y::r,nd,h=>by
  have nd:=dP.mp nd;unfold qX;rw[gO];by_cases e:y=x
  .subst e;rw[show(!(y==y))=false by simp,cW (by decide),kz.mpr λz hz=>by
    have:z≠y:=λq=>nd.1 (q ▸ hz)
    simpa using this]
   rfl
  .have h:x∈r:=by
    rcases c9.mp h with q|q
    .exact absurd q.symm e
    .exact q
   rw[cY (by simpa using e)];have:=xh nd.2 h;unfold qX at this;rw[dY,dY,this]
def M9{l:oY}{V:qe}{i:Nat}{c:oS}{x:Str}(wf:WF l V)(hc:V.calls[i]?=some c)(hl:c.ni x=true):WF l (qr V (we V x i)):=by
 have k:=wf.ok i c hc;unfold we;rw[hc];dsimp only[Option.elim];by_cases h1:c.mI x=true
 .rw[cY h1];exact wb (V':=pO V (.over i "left")) wf hc (.inl rfl) (by decide) (qT (V:=qw V _) hc) wf.nx
 .rw[cW h1];have e1:(pO V (.leaves i x)).calls=V.calls.set i (c.drop x):=qT (V:=qw V _) hc;by_cases h2:hasS c.at_ x=true
  .rw[cY h2];by_cases h3:qX c.at_ x=[]
   .rw[cY h3];refine wb (V':=pO (pO V (.leaves i x)) (.over i "refused")) wf hc (.inl rfl) (by decide) (w:="refused") ?_ wf.nx;have h4:(pO V (.leaves i x)).calls[i]?=some (c.drop x):=by rw[e1,eK (cV.mp hc).1]
    show(wN (qw (pO V (.leaves i x)) _) i _).calls=_;rw[qT (V:=qw (pO V (.leaves i x)) _) h4];show(pO V (.leaves i x)).calls.set i _=_;rw[e1,iK];rfl
   .rw[cW h3];have hs:c.st="rings"/\c.ms=[]/\c.hd=none/\c.wd=none:=by
     rcases k.sh with g|⟨_,g|g|⟨_,g⟩|g⟩
     .exact⟨g.1,g.2.1,g.2.2.1,g.2.2.2.1⟩
     .exfalso;have:=xh k.an (qv.mp h2);rw[g.2.2.2.2]at this;exact h3 (gq.mp (by omega))
     .rw[g.2.2.2.2]at h2;cases h2
     .rw[g.2.2.2.2.2]at h2;cases h2
     .rw[g.2.2.2.1]at h2;cases h2
    refine wf.set (V':=pO V (.leaves i x)) (c':=c.drop x) e1 hc (λ_ _=>rfl) ⟨.inl ⟨hs.1,by show qX c.ms x=[];rw[hs.2.1];rfl,hs.2.2.1,hs.2.2.2,(λh=>by cases h),λ_=>h3⟩,k.cr,λy hy=>k.at_ y (tj.mp hy).1,λy hy=>k.ms y (tj.mp hy).1,k.an.sublist fZ,k.mn.sublist fZ,λhy=>k.ca (tj.mp hy).1,k.wy⟩ (λy g=>?_) (λy g=>?_) (λy g=>?_) wf.nx
    .exact .inl ((rW hs.1).mpr ((rW (c:=c.drop x) hs.1).mp g))
    .refine .inl ((rZ hs.1).mpr (((rZ (c:=c.drop x) hs.1).mp g).imp id λh=>(tj.mp h).1))
    .have:=(rG.mp g).1;rw[show(c.drop x).st="rings" from hs.1]at this;exact absurd this (by decide)
  .rw[cW h2];by_cases h3:2<c.ms.length
   .rw[cY h3];have hx:x∈c.ms:=by unfold oS.ni at hl;rw[dE.mpr h1,dE.mpr h2,fF,fF]at hl;exact qv.mp hl
    have hs:c.st="talks"/\c.ms.length=3/\c.hd=none/\c.wd=none/\c.at_=[]:=by
     rcases k.sh with g|⟨_,g|g|⟨_,g⟩|g⟩
     .rw[g.2.1]at h3;cases h3
     .rw[g.2.1]at h3;cases h3
     .exact⟨g.1,g.2.1.elim (λq=>by omega) id,g.2.2⟩
     .omega
     .rw[g.2.1]at h3;cases h3
    have dl:=xh k.mn hx;refine wf.set (V':=pO V (.leaves i x)) (c':=c.drop x) e1 hc (λ_ _=>rfl) ⟨.inr ⟨rfl,.inr (.inl ⟨hs.1,.inl (by show(qX c.ms x).length=2;omega),hs.2.2.1,hs.2.2.2.1,by show qX c.at_ x=[];rw[hs.2.2.2.2];rfl⟩)⟩,k.cr,λy hy=>k.at_ y (tj.mp hy).1,λy hy=>k.ms y (tj.mp hy).1,k.an.sublist fZ,k.mn.sublist fZ,λhy=>k.ca (tj.mp hy).1,k.wy⟩ (λy g=>?_) (λy g=>?_) (λy g=>?_) wf.nx
    .exact .inl ((sP hs.1).mpr (tj.mp ((sP (c:=c.drop x) hs.1).mp g)).1)
    .exact .inl ((sm (.inl hs.1)).mpr (tj.mp ((sm (c:=c.drop x) (.inl hs.1)).mp g)).1)
    .have:=(rG.mp g).1;rw[show(c.drop x).st="talks" from hs.1]at this;exact absurd this (by decide)
   .rw[cW h3];exact wb (V':=pO V (.over i "done")) wf hc (.inl rfl) (by decide) (qT (V:=qw V _) hc) wf.nx
def IU{l:oY}{V:qe}{i:Nat}{c:oS}{x:Str}(wf:WF l V)(hc:V.calls[i]?=some c)(hx:hasS c.at_ x=true)(hi:Ca V x)(hf:c.mD x=true->qU l V x=true):WF l (pO V (.talks i [c.cr,x])):=by
 have k:=wf.ok i c hc;have hx:=qv.mp hx;have Wc:c.cr≠x:=λq=>k.ca (q ▸ hx);have hs:(c.st="rings"\/c.st="waits")/\c.wd=none:=by
  rcases k.sh with g|⟨_,g|g|⟨_,g⟩|g⟩
  .exact⟨.inl g.1,g.2.2.2.1⟩
  .exact⟨.inr g.1,g.2.2.2.1⟩
  .rw[g.2.2.2.2]at hx;cases hx
  .rw[g.2.2.2.2.2]at hx;cases hx
  .rw[g.2.2.2.1]at hx;cases hx
 have ec:AB c c.cr/\c.hasB c.cr=true:=by
  rcases hs.1 with g|g
  .exact⟨(rW g).mpr rfl,(rZ g).mpr (.inl rfl)⟩
  .exact⟨(C0 g).mpr rfl,(CZ g).mpr rfl⟩
 refine wf.set (V':=pO V (.talks i [c.cr,x])) (c':=c.nk [c.cr,x]) (qT (V:=qw V _) hc) hc (λ_ _=>rfl) ⟨.inr ⟨rfl,.inr (.inl ⟨rfl,.inl rfl,rfl,hs.2,rfl⟩)⟩,k.cr,(λy h=>by cases h),(λy h=>?_),eG,?_,(λh=>by cases h),k.wy⟩ (λy g=>?_) (λy g=>?_) (λy g=>?_) wf.nx
 .rcases c9.mp h with g|g
  .rw[g];exact k.cr
  .rw[dg.mp g];exact k.at_ x hx
 .exact dP.mpr ⟨λh=>Wc (dg.mp h),dP.mpr ⟨dB,eG⟩⟩
 .rcases c9.mp ((sP (c:=c.nk [c.cr,x]) rfl).mp g)with h|h
  .rw[h];exact .inl ec.1
  .rw[dg.mp h];exact .inr hi
 .rcases c9.mp ((sm (c:=c.nk [c.cr,x]) (.inl rfl)).mp g)with h|h
  .rw[h];exact .inl ec.2
  .rw[dg.mp h];rcases hs.1 with q|q
   .exact .inl ((rZ q).mpr (.inr hx))
   .exact .inr (D6 (hf (rG.mpr ⟨q,hx⟩)))
 .exact absurd (rG.mp g).1 (show("talks":Str)≠"waits" by decide)
def zF{c:oS}{x:Str}:c.mK x=true↔c.st="talks"/\x∈c.ms/\c.ms.length=2:=by unfold oS.mK oS.mH;rw[dS,dS,fk,qv,fk,and_assoc]
def L5{l:oY}{c:oS}(k:vn l false c)(h:c.st="talks"):c.hd=none/\c.wd=none/\c.at_=[]:=by
 rcases k.sh with g|⟨_,g|g|⟨_,g⟩|g⟩
 .rw[h]at g;exact absurd g.1 (by decide)
 .rw[h]at g;exact absurd g.1 (by decide)
 .exact g.2.2
 .rw[h]at g;exact absurd g.1 (by decide)
 .rw[h]at g;exact absurd g.1 (by decide)
def D7{l:oY}{c:oS}{x:Str}(k:vn l false c)(h:c.hd=some x):c.st="held"/\c.ms.length=2/\x∈c.ms/\c.wd=none/\c.at_=[]:=by
 rcases k.sh with g|⟨_,g|g|⟨y,g⟩|g⟩
 .rw[h]at g;cases g.2.2.1
 .rw[h]at g;cases g.2.2.1
 .rw[h]at g;cases g.2.2.1
 .have e:=g.2.2.1;rw[h]at e;cases e;exact⟨g.1,g.2.1,g.2.2.2⟩
 .rw[h]at g;cases g.2.2.1
def O1{l:oY}{V:qe}{i:Nat}{c:oS}{x:Str}(wf:WF l V)(hc:V.calls[i]?=some c)(hx:c.mK x=true):WF l (pO V (.held i x)):=by
 have k:=wf.ok i c hc;obtain⟨h1,h2,h3⟩:=zF.mp hx;obtain⟨s1,s2,s3⟩:=L5 k h1;refine wf.set (V':=pO V (.held i x)) (c':=c.hold x) (qT (V:=qw V _) hc) hc (λ_ _=>rfl) ⟨.inr ⟨rfl,.inr (.inr (.inl ⟨x,rfl,h3,rfl,h2,s2,s3⟩))⟩,k.cr,k.at_,k.ms,k.an,k.mn,k.ca,k.wy⟩ (λy g=>.inl ?_) (λy g=>.inl ?_) (λy g=>?_) wf.nx
 .exact(sP h1).mpr ((BC (c:=c.hold x) rfl).mp g).1
 .exact(sm (.inl h1)).mpr ((sm (c:=c.hold x) (.inr rfl)).mp g)
 .exact absurd (rG.mp g).1 (show("held":Str)≠"waits" by decide)
def Oc{l:oY}{V:qe}{i:Nat}{c:oS}{x:Str}(wf:WF l V)(hc:V.calls[i]?=some c)(hx:c.hd=some x)(hi:Ca V x):WF l (pO V (.talks i c.ms)):=by
 have k:=wf.ok i c hc;obtain⟨h1,h2,h3,h4,h5⟩:=D7 k hx;refine wf.set (V':=pO V (.talks i c.ms)) (c':=c.nk c.ms) (qT (V:=qw V _) hc) hc (λ_ _=>rfl) ⟨.inr ⟨rfl,.inr (.inl ⟨rfl,.inl h2,rfl,h4,rfl⟩)⟩,k.cr,(λy h=>by cases h),k.ms,eG,k.mn,(λh=>by cases h),k.wy⟩ (λy g=>?_) (λy g=>.inl ?_) (λy g=>?_) wf.nx
 .have g:=(sP (c:=c.nk c.ms) rfl).mp g;by_cases e:y=x
  .rw[e];exact .inr hi
  .exact .inl ((BC h1).mpr ⟨g,λq=>e (df (q.symm.trans hx))⟩)
 .exact(sm (.inr h1)).mpr ((sm (c:=c.nk c.ms) (.inl rfl)).mp g)
 .exact absurd (rG.mp g).1 (show("talks":Str)≠"waits" by decide)
def C8{c:oS}{x:Str}(nd:c.ms.Nodup)(h2:c.ms.length=2)(hx:x∈c.ms):qd c x∈c.ms/\qd c x≠x:=by
 have dl:=xh nd hx;obtain⟨y,r,e⟩:=List.exists_cons_of_length_pos (show 0<(qX c.ms x).length by omega);have hm:y∈qX c.ms x:=by rw[e];exact dO
 unfold qd;rw[e];exact tj.mp hm
def Iz{l:oY}{V:qe}{i j:Nat}{c d:oS}{w x:Str}(wf:WF l V)(hc:V.calls[i]?=some c)(hd:V.calls[j]?=some d)(h1:c.hd=some x)(h2:d.mK x=true):i≠j/\WF l (pO V (.merge i j (if (w=="hand")=true then[qd c x,qd d x]else[x,qd c x,qd d x]))):=by
 have k:=wf.ok i c hc;have kd:=wf.ok j d hd;obtain⟨c1,c2,c3,c4,c5⟩:=D7 k h1;obtain⟨d1,d2,d3⟩:=zF.mp h2;obtain⟨a1,a2⟩:=C8 k.mn c2 c3;obtain⟨b1,b2⟩:=C8 kd.mn d3 d2;have WL:i≠j:=λq=>by subst q;rw[hc]at hd;cases hd;rw[c1]at d1;exact absurd d1 (by decide)
 refine⟨WL,?_⟩;have ea:AB c (qd c x):=(BC c1).mpr ⟨a1,λq=>a2 (df (q.symm.trans h1))⟩;have ab:qd c x≠qd d x:=λq=>WL (wf.un i j c d _ hc hd ea (by rw[q];exact(sP d1).mpr b1));generalize hms:(if (w=="hand")=true then[qd c x,qd d x]else[x,qd c x,qd d x])=ms;have mm:∀y∈ms,y=x\/y=qd c x\/y=qd d x:=λy hy=>by
  rw[<-hms]at hy;split at hy
  .rcases c9.mp hy with g|g
   .exact .inr (.inl g)
   .exact .inr (.inr (dg.mp g))
  .rcases c9.mp hy with g|g
   .exact .inl g
   .rcases c9.mp g with g|g
    .exact .inr (.inl g)
    .exact .inr (.inr (dg.mp g))
 have n2:[qd c x,qd d x].Nodup:=dP.mpr ⟨λh=>ab (dg.mp h),dP.mpr ⟨dB,eG⟩⟩;refine FJ (V':=pO V (.merge i j ms)) (ms:=ms) wf (.inl rfl) hc hd WL ?_ wf.nx d1 ?_ ?_ (λy hy=>?_) (λy hy=>?_)
 .show(V.calls.modify i _).modify j _=_;rw[sN hc,sN (show(V.calls.set i _)[j]?=some d by rw[eP WL];exact hd)]
 .rw[<-hms];split
  .exact n2
  .refine dP.mpr ⟨λh=>?_,n2⟩;rcases c9.mp h with g|g
   .exact a2 g.symm
   .exact b2 (dg.mp g).symm
 .rw[<-hms];split
  .exact .inl rfl
  .exact .inr rfl
 .rcases mm y hy with g|g|g
  .rw[g];exact .inl d2
  .rw[g];exact .inr ⟨ea,(sm (.inr c1)).mpr a1⟩
  .rw[g];exact .inl b1
 .rcases mm y hy with g|g|g
  .rw[g];exact k.ms x c3
  .rw[g];exact k.ms _ a1
  .rw[g];exact kd.ms _ b1
def Q5{V:qe}{i:Int}(h:yB V.calls.length i=true):∃c,V.calls[i.toNat]?=some c:=by unfold yB at h;rw[dS,eB,eB]at h;exact⟨_,cT (by omega)⟩
def EQ{V:qe}{x:Str}{b:Bool}(h:(if ((ud V x).isNone&&b)=true then some ("full":Str)else ud V x)=none):ud V x=none/\b=false:=by
 cases e:ud V x with
 | some w=>rw[e]at h;cases h
 | none=>
  rw[e]at h;cases b with
  | true=>cases h
  | false=>exact⟨rfl,rfl⟩
inductive CK(l:oY)(V:qe)(x:Str):Str->List Int->Prop
 | answer (i:Int) (c:oS):0<=i->V.calls[i.toNat]?=some c->hasS c.at_ x=true->Ca V x->(c.mD x=true->qU l V x=true)->CK l V x "answer" [i]
 | hang (i:Int) (c:oS):0<=i->V.calls[i.toNat]?=some c->c.ni x=true->CK l V x "hang" [i]
 | hold (i:Int) (c:oS):0<=i->V.calls[i.toNat]?=some c->c.mK x=true->CK l V x "hold" [i]
 | back (i:Int) (c:oS):0<=i->V.calls[i.toNat]?=some c->c.hd=some x->Ca V x->CK l V x "back" [i]
 | two (w:Str) (i j:Int) (c d:oS):0<=i->0<=j->w="hand"\/w="join"->V.calls[i.toNat]?=some c->V.calls[j.toNat]?=some d->c.hd=some x->d.mK x=true->CK l V x w [i,j]
def G4{l:oY}{V:qe}{w x:Str}{ns:List Int}(f:(tN.num w x ns).m8)(h:wG l V (.num w x ns)=none):x∈l.pn/\CK l V x w ns:=by
 have hp:hasS l.pn x=true:=by
  cases q:hasS l.pn x with
  | true=>rfl
  | false=>unfold wG at h;dsimp only at h;rw[cY q]at h;cases h
 refine⟨qv.mp hp,?_⟩;unfold wG at h;dsimp only at h;rw[cW (by rw[hp];decide)]at h;unfold LB at h;cases q1:ns.all (yB V.calls.length)with
 | false=>rw[cY q1]at h;cases h
 | true=>
 rw[cW (by rw[q1];decide)]at h;cases q2:Ii w x (sO V ns)with
 | false=>rw[cY q2]at h;cases h
 | true=>
 rw[cW (by rw[q2];decide)]at h;have z:∀i∈ns,0<=i/\∃c,V.calls[i.toNat]?=some c:=λi hi=>by have g:=eX.mp q1 i hi;refine⟨?_,Q5 g⟩;unfold yB at g;rw[dS,eB]at g;exact g.1
 rcases f with⟨fw,fl⟩|⟨fw,fl⟩
 .match ns,fl with
  | [i],_=>
   obtain⟨hi,c,hc⟩:=z i dO;have ec:sO V [i]=[c]:=by unfold sO;rw[fY,hc];rfl
   rw[ec]at h q2;rcases fw with rfl|rfl|rfl|rfl
   .rw[cW (by decide)]at h;obtain⟨h1,h2⟩:=EQ h;refine .answer i c hi hc q2 (DL h1) λhw=>?_;have h2:(c.mD x&&!(qU l V x))=false:=h2;rw[hw]at h2
    simpa using h2
   .exact .hang i c hi hc q2
   .exact .hold i c hi hc q2
   .rw[cW (by decide)]at h;exact .back i c hi hc (eq_of_beq q2) (DL (EQ h).1)
 .match ns,fl with
  | [i,j],_=>
   obtain⟨hi,c,hc⟩:=z i dO;obtain⟨hj,d,hd⟩:=z j (dC _ dO);have ec:sO V [i,j]=[c,d]:=by unfold sO;rw[fY,hc];dsimp only;rw[fY,hd];rfl
   rw[ec]at q2;have q3:((c.hd==some x)&&d.mK x)=true:=by rcases fw with rfl|rfl<;>exact q2
   rw[dS]at q3;exact .two w i j c d hi hj fw hc hd (eq_of_beq q3.1) q3.2
def DV{l:oY}{V:qe}{y z:Str}(h:wG l V (.call y z)=none):y∈l.pn/\z∈l.nm/\Ca V y/\qU l V y=true:=by
 unfold wG at h;dsimp only at h;cases q:hasS l.pn y with
 | false=>rw[cY q]at h;cases h
 | true=>
 rw[cW (by rw[q];decide)]at h;unfold FH at h;cases q1:hasS l.nm z with
 | false=>rw[cY q1]at h;cases h
 | true=>
 rw[cW (by rw[q1];decide)]at h;obtain⟨h1,h2⟩:=EQ h;exact⟨qv.mp q,qv.mp q1,DL h1,by simpa using h2⟩
def Se{l:oY}{V:qe}{b:Bool}{i:Int}(h:wG l V (.sw b i)=none):0<=i/\i.toNat<V.on.length:=by
 unfold wG MX at h;dsimp only at h;cases q:yB V.on.length i with
 | false=>rw[cY q]at h;cases h
 | true=>unfold yB at q;rw[dS,eB,eB]at q;omega
def yR{V:qe}{w x:Str}{i:Nat}{c:oS}(h:V.calls[i]?=some c):DY V w x i=if (w=="answer")=true then .talks i [c.cr,x]else if (w=="hold")=true then .held i x else .talks i c.ms:=by unfold DY;rw[h];rfl
def GA{V:qe}{w x:Str}{i j:Nat}{c d:oS}(h:V.calls[i]?=some c)(g:V.calls[j]?=some d):FU V w x i j=.merge i j (if (w=="hand")=true then[qd c x,qd d x]else[x,qd c x,qd d x]):=by unfold FU;rw[h,g];rfl
def Su{l:oY}{V:qe}{e:tN}(ok:rg l)(wf:WF l V)(f:e.m8)(h:wG l V e=none):WF l (qr V (xp l V e)):=by
 cases e with
 | call y z=>obtain⟨h1,h2,h3,h4⟩:=DV h;obtain⟨k,hk⟩:=Ls (V:=V) (y:=y) (z:=z);show WF l (qr V (_++wB l _ _));rw[rc];exact PD ok (GB wf h1 h2 h3 h4) hk
 | turn=>exact Ey ok _ (Em wf)
 | sw b i=>exact S5 wf
 | num w x ns=>
  obtain⟨_,n⟩:=G4 f h;cases n with
  | answer i c hi hc h1 h2 h3=>show WF l (pO V (DY V "answer" x i.toNat));rw[yR hc];exact IU wf hc h1 h2 h3
  | hang i c hi hc h1=>exact M9 wf hc h1
  | hold i c hi hc h1=>show WF l (pO V (DY V "hold" x i.toNat));rw[yR hc];exact O1 wf hc h1
  | back i c hi hc h1 h2=>show WF l (pO V (DY V "back" x i.toNat));rw[yR hc];exact Oc wf hc h1 h2
  | two _ i j c d hi hj hw hc hd h1 h2=>show WF l (pO V (FU V w x i.toNat j.toNat));rw[GA hc hd];exact(Iz wf hc hd h1 h2).2
def O8(a:Ad):qN:=λds M Q=>Ky λM0 b A V l c n x i k=>ds=[.ref b,.str x,.int ((i:Nat):Int)]/\ub a M0 M b A V l c n/\c<=1000000/\n<=7000000/\V.calls[i]?=some k/\∀M' A',ub a M0 M' b A' (qr V (we V x i)) l c (n+2)->qD A M A' M'->Q .mC M'
def NP(a:Ad):qN:=λds M Q=>HL λA V l L k c=>ds=[.ref A.b,.ref (qS.p k)]/\Rd a M A V l/\rq a M L k c/\Q (xA (Hc l V (FX c))) M
def O5(a:Ad):qN:=λds M Q=>Ky λM0 b A V l c n i k r=>ds=[.ref b,.int ((i:Nat):Int),xA (k::r)]/\ub a M0 M b A V l c n/\c<=1000000/\n<=6900000/\WF l V/\T7 l V i (k::r)/\∀M' A',ub a M0 M' b A' (qr V (tF l V i (k::r))) l c (n+33)->qD A M A' M'->Q .mC M'
def Ow(a:Ad):qN:=λds M Q=>RW λM0 b A V l c n=>ds=[.ref b]/\ub a M0 M b A V l c n/\c<=10000/\n<=6000000/\WF l V/\∀M' A',ub a M0 M' b A' (qr V (DU l V)) l c (n+1+33*c)->qD A M A' M'->Q .mC M'
def Q3{a:Ad}{M:Mp}{L:List Addr}{k:qS}{c:oS}{v:Wi}{r:Addr}{Q:DK}(h:M r=some (.ins (v.cls a) v.nu))(hk:rq a M L k c)(q:Q (.bl (FX c v)) M):J0 a v [.ref r,.ref k.p] M Q:=by
 cases v with
 | silent x y n=>exact⟨r,L,k,c,rfl,h,hk,q⟩
 | _=>exact⟨_,_,rfl,q⟩
def OU(G:Gl K mg a):Fq P w K mg base 4 a.a5 (O8 a):=by
 refine fq G.a5.toDG BV (λr u=>⟨_,(oN (pj 3 BV (pf (oU v0) U2))
 (oO (pA (uu (pG U3 G.e.toCls G.X (Bm G) r (pR U1)))
 (oO (pq (pG v0 G.c.toCls G.k (qG G) r (pR (pz (qR oR U2 oR))))))
 (oO (pA (oZ u U1 (oU U3))
 (oN (pq (pG v0 G.c.toCls G.k (qG G) r (pR (pz (qR oR U2 U1)))))
 (oO (pA (oZ u (pD qc rfl G.g pX (pR (oU U3))) oQ)
 (oO (pq (pG v0 G.c.toCls G.k (qG G) r (pR (pz (qR oR U2 oR))))))
 pb)))
 (oO (pA (oZ u (pD qc rfl G.g pX (pR (oU U3))) oQ)
 (oO (pq (pG v0 G.c.toCls G.k (qG G) r (pR (pz (qR oR U2 U1))))))
 (oO (pq (pG v0 G.c.toCls G.k (qG G) r (pR (pz (qR oR U2 oR))))))))))))),?_⟩)
 rintro ds M Q ⟨M0,b,A,V,l,cc,n,x,i,c,rfl,cu,Yl,hn,hc,q⟩
 obtain⟨ka,ci⟩:=cu.call hc;obtain⟨ad,md,h1,h2,h3,h4,n1,n2⟩:=ci.cell;have hi:=(cV.mp hc).1;refine oP cu.at_ (i' rfl (i' rfl (i' ci.bd.ca (i' (qP ci.e1) ?_))));refine oP h1 ⟨rfl,_,⟨rfl,rfl⟩,_,ka,c,x,rfl,ci.cell,?_⟩;unfold we at q;rw[hc]at q;dsimp only[Option.elim]at q;have over:∀(w0:Str),(∀M' A',ub a M0 M' b A' (qr V [.over i w0]) l cc (n+2)->qD A M A' M'->Q .mC M')->∀(M1:Mp) (A1:sX),A1.b=A.b->qD A M A1 M1->pk a M1 A1 (pO V (.over i w0))->∃VQ,qa VQ M1/\Q .mC VQ:=λw0 q M1 A1 eb st bd=>⟨M1,.refl,q M1 A1 ((cu.after (e:=.over i w0) hi eb st bd).mono (de _) (by omega)) st⟩;refine qm (c:=c.mI x) (λg=>?_) (λg=>?_)
 .rw[cY g]at q;exact oP cu.at_ ⟨rfl,_,⟨rfl,rfl⟩,oK rfl,b,A,V,.over i "left",rfl,cu.b,cu.bd,cu.lim Yl (by omega),hi,over "left" q⟩
 rw[cW g]at q;refine oP h1 (i' rfl (i' h3 ⟨rfl,pW _,?_⟩));show if inD (.str x) (c.at_.map D.str)=true then _ else _
 rw[rM];refine qm (c:=hasS c.at_ x) (λg2=>?_) (λg2=>?_)
 .rw[cY g2]at q;refine oP cu.at_ ⟨rfl,_,⟨rfl,rfl⟩,oK rfl,b,A,V,.leaves i x,rfl,cu.b,cu.bd,cu.lim Yl (by omega),hi,λM1 A1 eb st bd=>?_⟩;have c1:=cu.after (e:=.leaves i x) hi eb st bd;have Yn:(pO V (.leaves i x)).calls=V.calls.set i (c.drop x):=qT (V:=qw V _) hc;have hc1:(pO V (.leaves i x)).calls[i]?=some (c.drop x):=by rw[Yn,eK hi]
  obtain⟨ad',md',g1,Yg,g3,g4,_⟩:=c1.bd.cs i ka _ (st.2.2.1 i ka ci.e1) hc1;have le0:((((c.drop x).at_.map D.str).length:Int)==0)=decide (qX c.at_ x=[]):=by rw[cR,fW,fk,eB];show((qX c.at_ x).length:Int)=0↔_;rw[<-gq];omega
  refine oP g1 (i' rfl (i' g3 ?_));refine qm (c:=(((c.drop x).at_.map D.str).length:Int)==0) (λg5=>?_) (λg5=>?_)
  .rw[le0,eB]at g5;rw[cY g5]at q;have Xs:i<(pO V (.leaves i x)).calls.length:=(cV.mp hc1).1;refine oP c1.at_ ⟨rfl,_,⟨rfl,rfl⟩,oK rfl,b,A1,_,.over i "refused",rfl,c1.b,c1.bd,c1.lim Yl (by omega),Xs,λM2 A2 eb2 Wd Xn=>?_⟩;exact⟨M2,.refl,q M2 A2 (c1.after (e:=.over i "refused") Xs eb2 Wd Xn) (st.trans Wd)⟩
  .rw[le0,eB]at g5;rw[cW g5]at q;exact⟨M1,.refl,q M1 A1 (c1.mono (de _) (by omega)) st⟩
 .rw[cW g2]at q;refine oP h1 (i' rfl (i' h4 ?_));have lm:decide ((2:Int)<((c.ms.map D.str).length:Int))=decide (2<c.ms.length):=by rw[cR,fW,eB,eB];omega
  refine qm (c:=decide ((2:Int)<((c.ms.map D.str).length:Int))) (λg3=>?_) (λg3=>?_)
  .rw[lm,eB]at g3;rw[cY g3]at q;refine oP cu.at_ ⟨rfl,_,⟨rfl,rfl⟩,oK rfl,b,A,V,.leaves i x,rfl,cu.b,cu.bd,cu.lim Yl (by omega),hi,λM1 A1 eb st bd=>?_⟩;exact⟨M1,.refl,q M1 A1 ((cu.after (e:=.leaves i x) hi eb st bd).mono (de _) (by omega)) st⟩
  .rw[lm,eB]at g3;rw[cW g3]at q;exact oP cu.at_ ⟨rfl,_,⟨rfl,rfl⟩,oK rfl,b,A,V,.over i "done",rfl,cu.b,cu.bd,cu.lim Yl (by omega),hi,over "done" q⟩
def NO(G:Gl K mg a):Fq P w K mg base 2 a.a6 (NP a):=by
 refine fq G.a6.toDG xW (λr u=>⟨_,(oN (pj 2 xW (oU (oU v0)))
 (oO (oV (pZ ur rfl G.I uq (pR (ql rfl (wC (ix:=[none,none,some 2,some 1]) (N':=["i","on","wishes","call"])) (vO rfl G.bT (pR (oU v0))) (uj (n:=2) rfl (pQ (qg 0) (pQ (qg 1) sr))) (uz (W3.b3 (xl (uu U1) (wm (uu (Dn (R:=F7 a) (pf U2 v0) (Ts G) (r.mono (by first|decide|omega)) (pR U3))))))) v0)))))),?_⟩)
 rintro ds M Q ⟨A,V,l,L,k,c,rfl,rd,hk,q⟩
 obtain⟨ph,gr,ws,W7,pr,gd,rs,i1,i2,i3,i4,i5,i6,i7,i8⟩:=rd.pl;refine oP rd.bd.at_ (i' rfl (oP i1 (i' rfl ?_)));refine oP rd.bd.at_ (i' rfl (i' rd.bd.on ?_));refine HJ (rest:=[some (.ref ws),some (.ref k.p)]) rd.on rd.ok.w16 rd.bd.on (λi w0 ew y kk hkk=>?_) λp hp=>i' oW ⟨M,.new hp,q⟩;obtain⟨r,e1,e2⟩:=AA i8 ew;exact i' i4 (i' e1 (oP e2 ⟨by cases w0.2<;>rfl,_,⟨w0.2,rfl,rfl⟩,Q3 e2 hk hkk⟩))
def Oj(G:Gl K mg a):Fq P w K mg base 10 a.a7 (O5 a):=by
 refine fq G.a7.toDG Bh (λr u=>⟨_,(oN (pj 3 Bh (AR (R:=Ml a) (pf (oU (oU v0)) (pf U2 oQ)) (Qo G) (r.mono (by first|decide|omega))))
 (oN (pq (pG v0 G.c.toCls G.k (qG G) r (pR (pz (pJ oR (qR U1 (pf U3 oQ) U2))))))
 (oN (pq (pG v0 G.c.toCls G.k (qG G) r (pR (pz (rA oR U1)))))
 (oN (pq (pG v0 G.c.toCls G.k (qG G) r (pR (pz (pJ oR (pJ U1 (qR (pf U3 oQ) (pf U3 oQ) (pf U3 oQ))))))))
 (oO (pq (o9 (Iv G) r G.ad (rA v0 U1)))))))),?_⟩)
 rintro ds M Q ⟨M0,b,A,V,l,c,n,i,k,r,rfl,cu,hc,hn,wf,du,q⟩
 obtain⟨ph,gr,ws,W7,pr,gd,rs,i1,i2,i3,i4,i5,i6,i7,i8⟩:=cu.pl;cases du with
 | on k0 _ _ b0 x y m hk hs hw hl hy=>
  have hi:=(cV.mp hk).1;rw[zr hw]at q;rw[rc]at q;obtain⟨r0,e1,e2⟩:=AA i8 hw;refine oP cu.at_ (i' rfl (oP i1 (i' rfl (i' (xS _ _) (i' i4 (i' e1 (oP e2 ⟨rfl,_,⟨⟨.silent x y m,rfl⟩,rfl⟩,r0,.silent x y m,rfl,e2,?_⟩)))))));refine oP cu.at_ ⟨rfl,_,⟨rfl,rfl⟩,oK rfl,b,A,V,.asks i x (k::r),rfl,cu.b,cu.bd,cu.lim hc (by omega),trivial,λM1 A1 eb1 Wt bd1=>?_⟩;have c1:=cu.after (e:=.asks i x (k::r)) trivial eb1 Wt bd1;refine oP c1.at_ ⟨rfl,_,⟨rfl,rfl⟩,oK rfl,b,A1,_,.quiet i,rfl,c1.b,c1.bd,c1.lim hc (by omega),hi,λM2 A2 eb2 Wd Xn=>?_⟩;have c2:=c1.after (e:=.quiet i) hi eb2 Wd Xn;have WZ:i<(pO (pO V (.asks i x (k::r))) (.quiet i)).calls.length:=by show i<(V.calls.modify i oS.nv).length;rw[gi];exact hi
  refine oP c2.at_ ⟨rfl,_,⟨rfl,rfl⟩,oK rfl,b,A2,_,.leg ⟨i,x,y,x⟩,rfl,c2.b,c2.bd,c2.lim hc (by omega),WZ,λM3 A3 eb3 WB bd3=>?_⟩;have c3:=c2.after (e:=.leg ⟨i,x,y,x⟩) WZ eb3 WB bd3;exact⟨M0,b,A3,_,l,c,n+3,i,_,rfl,c3,hc,by omega,Eu wf hk hs hy,Es hk,λM4 A4 c4 st4=>⟨M4,.refl,q M4 A4 (c4.mono (de _) (by omega)) (Wt.trans (Wd.trans (WB.trans st4)))⟩⟩
def Od(G:Gl K mg a):Fq P w K mg base 11 a.a8 (Ow a):=by
 refine fq G.a8.toDG sQ (λr u=>⟨_,(oN (pq (pG v0 G.c.toCls G.k (qG G) r (pR (pz (pR oR)))))
 (oO (tZ eV rfl (vO rfl G.bT (pR (pZ sL rfl G.y su (pR (oU v0))))) (uj (n:=2) rfl (pQ (qJ 1 sQ) (pQ (qJ 2 sQ) sr)))
 (oO (pA (oZ u (oU U2) oR)
 (oN (pj 3 sQ (o9 (NO G) r G.a6 (rA v0 U2)))
 (oO (pA (oZ u (pD qc rfl G.g pX (pR U3)) oQ)
 (oO (pq (o9 (Oj G) r G.a7 (qR v0 U1 U3))))
 pb)))
 pb))))),?_⟩)
 rintro ds M Q ⟨M0,b,A,V,l,c,n,rfl,cu,hc,hn,wf,q⟩
 refine oP cu.at_ ⟨rfl,_,⟨rfl,rfl⟩,oK rfl,b,A,V,.turn,rfl,cu.b,cu.bd,cu.lim (by omega) (by omega),trivial,λM1 A1 eb st bd=>?_⟩;have c1:=cu.after (e:=.turn) trivial eb st bd;have wf1:=Em wf;have lv:(pO V .turn).calls.length=V.calls.length:=cR ..;have ev:DU l V=.turn::rk l (List.range V.calls.length) (pO V .turn):=rfl;rw[ev,<-lv]at q;have q:∀M' A',ub a M0 M' b A' (qr (pO V .turn) (rk l (List.range (pO V .turn).calls.length) (pO V .turn))) l c (n+1+33*c)->qD A M A' M'->Q .mC M':=q;have c1:ub a M0 M1 b A1 (pO V .turn) l c (n+1):=c1;generalize pO V .turn=V1 at c1 wf1 q bd;refine oP c1.at_ (i' rfl (i' c1.bd.ca λr hr=>i' oW ?_));have t:=qa.new (c:=.lst (A1.cs.map λk=>D.ref k.p)) hr;have lr:=@oW M1 r (A1.cs.map λk=>D.ref k.p);have nf:=c1.bd.nB hr;have c2:=c1.sub t;have cl:V1.calls.length<=c:=c1.sz.ca;generalize oX M1 r (.lst (A1.cs.map λk=>D.ref k.p))=M2 at t lr c2 ⊢;refine uM (ue 0 (A1.cs.map λk=>D.ref k.p)) (λpre δ M'=>(∃A',ub a M0 M' b A' (qr V1 (rk l (List.range pre.length) V1)) l c (n+1+33*pre.length)/\qD A1 M2 A' M')/\∃y1 y2 y3,δ=[some (.ref b),y1,y2,y3]) (λpre δ M' j=>?_) _ [] _ _ rfl ⟨⟨A1,c2,.refl⟩,none,none,none,rfl⟩ ?_ ?_
 .obtain⟨⟨A',c3,WB⟩,_⟩:=j;exact se (WB.1 r _ nf (pS lr))
 .rintro pre d post e δ M' ⟨⟨A',c3,WB⟩,y1,y2,y3,rfl⟩ nx VY
  rw[cU,dH,jN,CF,rc]at VY;have wf3:=Ey cu.ok (List.range pre.length) wf1;generalize qr V1 (rk l (List.range pre.length) V1)=V3 at c3 wf3 VY;obtain⟨x,hx,rfl⟩:=HX e;rw[dA]at hx;cases ek:A1.cs[pre.length]? with
  | none=>rw[ek]at hx;cases hx
  | some k=>
   rw[ek]at hx;have hx:D.ref k.p=x:=df hx;subst hx;have hp:pre.length<c:=by have:=(cV.mp ek).1;rw[c1.bd.len]at this;omega
   have ek3:=WB.2.2.1 _ k ek;have hi:pre.length<V3.calls.length:=by rw[<-c3.bd.len];exact(cV.mp ek3).1
   have ec:V3.calls[pre.length]?=some V3.calls[pre.length]:=cT hi;generalize V3.calls[pre.length]=cv at ec;have ca:=c3.bd.cs _ k cv ek3 ec;obtain⟨ad,md,g1,_⟩:=ca;refine⟨rfl,oP g1 (i' rfl ?_)⟩;have hdv:y0 l V3 pre.length=if (cv.st=="rings")=true then Hc l V3 (FX cv)else[]:=by unfold y0;rw[ec];rfl
   have mC:y0 l V3 pre.length=[]->∀y1' y2' y3',nx [some (.ref b),y1',y2',y3'] M':=λh0 y1' y2' y3'=>VY _ _ ⟨⟨A',by rw[h0];exact c3.mono (de _) (by omega),WB⟩,_,_,_,rfl⟩;have du:=Gp (V:=V3) (i:=pre.length) cu.ok;refine qm (c:=cv.st=="rings") (λg=>?_) (λg=>mC (by rw[hdv,cW g]) _ _ _);rw[cY g]at hdv;refine⟨A',V3,l,_,k,cv,by rw[c3.b],c3.rd (by omega) wf3,c3.bd.cs _ k cv ek3 ec,?_⟩;rw[<-hdv];cases hdq:y0 l V3 pre.length with
   | nil=>exact mC hdq _ _ _
   | cons k0 r0=>rw[hdq]at du VY;refine Aa (dQ (by rw[cR];show(0:Int)<((k0::r0).length:Nat);rw[dY];omega)) ?_;exact⟨M0,b,A',V3,l,c,_,pre.length,k0,r0,rfl,c3,by omega,by omega,wf3,du,λM4 A4 c4 st4=>VY _ _ ⟨⟨A4,c4.mono (de _) (by omega),WB.trans st4⟩,_,_,_,rfl⟩⟩
 .rintro δ M' ⟨⟨A',c3,WB⟩,y1,y2,y3,rfl⟩
  have hl:(ue 0 (A1.cs.map λk=>D.ref k.p)).length=V1.calls.length:=by rw[uQ,cR,c1.bd.len]
  rw[hl]at c3;exact⟨M',.refl,q M' A' (c3.mono (de _) (by omega)) (st.trans ((qD.sub t).trans WB))⟩
inductive Py(l:oY)(V:qe):tN->Ev->Prop
 | sw (b:Bool) (i:Nat):i<V.on.length->Py l V (.sw b (i:Nat)) (.sw b i)
 | answer (x:Str) (i:Nat) (c:oS):V.calls[i]?=some c->Py l V (.num "answer" x [(i:Nat)]) (.talks i [c.cr,x])
 | hold (x:Str) (i:Nat) (c:oS):V.calls[i]?=some c->Py l V (.num "hold" x [(i:Nat)]) (.held i x)
 | back (x:Str) (i:Nat) (c:oS):V.calls[i]?=some c->Py l V (.num "back" x [(i:Nat)]) (.talks i c.ms)
 | two (w x:Str) (i j:Nat) (c d:oS):i≠j->w="hand"\/w="join"->V.calls[i]?=some c->V.calls[j]?=some d->qX c.ms x≠[]->qX d.ms x≠[]->Py l V (.num w x [(i:Nat),(j:Nat)]) (.merge i j (if (w=="hand")=true then[qd c x,qd d x]else[x,qd c x,qd d x]))
def Gd(a:Ad):qN:=λds M Q=>Gh λA V l e ev=>ds=[.ref A.b,tN.d e]/\Rd a M A V l/\Py l V e ev/\Q ev.d M
def Q1(a:Ad):qN:=λds M Q=>RV λM0 b A V l c n e=>ds=[.ref b,tN.d e]/\ub a M0 M b A V l c n/\c<10000/\n<=5000000/\WF l V/\e.m8/\wG l V e=none/\∀M' A',ub a M0 M' b A' (qr V (xp l V e)) l (c+1) (n+40+33*c)->qD A M A' M'->Q .mC M'
def Vh(a:Ad)(M0 M:Mp)(b:Addr)(A:sX)(V:qe)(l:oY)(c n:Nat)(e:tN)(Q:DK):Prop:=wG l V e=none->∀M' A' r,ub a M0 M' b A' (qr V (xp l V e)) l (c+1) (n+40+33*c)->qD A M A' M'->M' r=none->Q (.ref r) (oX M' r (.lst ((xp l V e).map Ev.d)))
def S'(a:Ad):Fc:=λds M Q R=>RV λM0 b A V l c n e=>ds=[.ref b,tN.d e]/\ub a M0 M b A V l c n/\c<10000/\n<=5000000/\WF l V/\e.m8/\Vh a M0 M b A V l c n e Q/\(∀w,wG l V e=some w->R a.F (some ("word",.str w)) M)
def Rd.call{a:Ad}{M:Mp}{A:sX}{V:qe}{l:oY}(rd:Rd a M A V l){i:Nat}{c:oS}(e:V.calls[i]?=some c):∃k,A.cs[i]?=some k/\rq a M (A.lists++V.fo) k c:=by
 have hi:i<A.cs.length:=by rw[rd.bd.len];exact(cV.mp e).1
 exact⟨A.cs[i],cT hi,rd.bd.cs i _ c (cT hi) e⟩
def yo{i:Int}(h:0<=i):∃m:Nat,i=(m:Int):=d6 h
def HH{c:oS}{x:Str}(nd:c.ms.Nodup)(h2:c.ms.length=2)(hx:x∈c.ms):qX c.ms x≠[]:=λz=>by have:=xh nd hx;rw[z]at this;simp only[dD]at this;omega
def LA(G:Gl K mg a):Fq P w K mg base 2 a.a9 (Gd a):=by
 refine fq G.a9.toDG sJ (λr u=>⟨_,(oN (pj 2 sJ (pf U1 oQ))
 (oN (pA (oZ u U2 (pz (rA oR oR)))
 (oO (oV (pz (rA U2 (pf U1 oQ)))))
 pb)
 (oN (pj 3 sJ (pf U1 oQ))
 (oN (pj 4 sJ (pf U1 oQ))
 (oN (pj 5 sJ (pf (oU v0) v4))
 (oN (pA (oZ u U2 oR)
 (oO (oV (pz (qR oR v4 (pz (rA (oU v5) U3))))))
 pb)
 (oN (pA (oZ u U2 oR)
 (oO (oV (pz (qR oR v4 U3))))
 pb)
 (oN (pA (oZ u U2 oR)
 (oO (oV (pz (qR oR v4 (pZ ur rfl G.I uq (pR (oU v5)))))))
 pb)
 (oN (pj 6 sJ (pf U1 oQ))
 (oN (pj 7 sJ (pz (rA (pG v5 G.e.toCls G.av (FW G) r (pR U3)) (pG (pf (oU v0) v6) G.e.toCls G.av (FW G) r (pR U3)))))
 (oN (pA (oZ u U2 oR)
 (oO (oV (pz (pJ oR (qR v4 v6 v7)))))
 pb)
 (oO (oV (pz (pJ oR (qR v4 v6 (pH (pz (pR U3)) v7))))))))))))))))),?_⟩)
 rintro ds M Q ⟨A,V,l,e,ev,rfl,rd,sg,q⟩
 cases sg with
 | sw b i hi=>
  cases b with
  | true=>exact⟨oK rfl,rfl,rfl,oK rfl,M,.refl,q⟩
  | false=>exact⟨oK rfl,rfl,rfl,oK rfl,M,.refl,q⟩
 | answer x i c hc=>obtain⟨k,ek,ca⟩:=rd.call hc;obtain⟨ad,md,h1,h2,h3,h4,n1,n2⟩:=ca;refine⟨oK rfl,rfl,rfl,?_⟩;refine oP rd.bd.at_ (i' rfl (i' rfl (i' rd.bd.ca (i' (qP ek) ?_))));exact oP h1 (i' rfl ⟨oK rfl,oK rfl,M,.refl,q⟩)
 | hold x i c hc=>obtain⟨k,ek,ca⟩:=rd.call hc;refine⟨oK rfl,rfl,rfl,?_⟩;refine oP rd.bd.at_ (i' rfl (i' rfl (i' rd.bd.ca (i' (qP ek) ?_))));exact⟨oK rfl,M,.refl,q⟩
 | back x i c hc=>obtain⟨k,ek,ca⟩:=rd.call hc;obtain⟨ad,md,h1,h2,h3,h4,n1,n2⟩:=ca;refine⟨oK rfl,rfl,rfl,?_⟩;refine oP rd.bd.at_ (i' rfl (i' rfl (i' rd.bd.ca (i' (qP ek) ?_))));exact oP h1 (i' rfl (i' h4 ⟨oK rfl,M,.refl,q⟩))
 | two wd x i j c d WL hw hc hd nc nd=>
  obtain⟨k,ek,ca⟩:=rd.call hc;obtain⟨k',ek',ca'⟩:=rd.call hd;have ca0:=ca;have ca1:=ca';obtain⟨ad,md,h1,h2,h3,h4,n1,n2⟩:=ca0;obtain⟨ad',md',f1,_⟩:=ca1;obtain⟨y1,r1,e1⟩:=fL nc;obtain⟨y2,r2,e2⟩:=fL nd;have o1:qd c x=y1:=by unfold qd;rw[e1];rfl
  have o2:qd d x=y2:=by unfold qd;rw[e2];rfl
  rw[o1,o2]at q;rcases hw with rfl|rfl
  .refine⟨oK rfl,rfl,rfl,?_⟩;refine oP rd.bd.at_ (i' rfl (i' rfl (i' rd.bd.ca (i' (qP ek) ?_))));refine oP h1 ⟨rfl,_,⟨rfl,rfl⟩,_,k,c,x,y1,r1,rfl,ca,(rd.ms c (qB hc)).2,e1,?_⟩;refine oP rd.bd.at_ (i' rfl (i' rfl (i' rd.bd.ca (i' (qP ek') ?_))));refine oP f1 ⟨rfl,_,⟨rfl,rfl⟩,_,k',d,x,y2,r2,rfl,ca',(rd.ms d (qB hd)).2,e2,?_⟩;exact⟨oK rfl,oK rfl,M,.refl,q⟩
  .refine⟨oK rfl,rfl,rfl,?_⟩;refine oP rd.bd.at_ (i' rfl (i' rfl (i' rd.bd.ca (i' (qP ek) ?_))));refine oP h1 ⟨rfl,_,⟨rfl,rfl⟩,_,k,c,x,y1,r1,rfl,ca,(rd.ms c (qB hc)).2,e1,?_⟩;refine oP rd.bd.at_ (i' rfl (i' rfl (i' rd.bd.ca (i' (qP ek') ?_))));refine oP f1 ⟨rfl,_,⟨rfl,rfl⟩,_,k',d,x,y2,r2,rfl,ca',(rd.ms d (qB hd)).2,e2,?_⟩;exact⟨oK rfl,oK rfl,fC _ _,by show 1+2<=sizeLine;have hz:=dN;omega,oK rfl,M,.refl,q⟩
def QM(G:Gl K mg a):Fq P w K mg base 12 a.ba (Q1 a):=by
 refine fq G.ba.toDG Lc (λr u=>⟨_,(oN (pj 2 Lc (pf U1 oQ))
 (oO (pA (oZ u U2 oR)
 (oO (pq (o9 (Le G) r G.a4 (qR v0 (pf U1 oQ) (pf U1 oQ)))))
 (oO (pA (oZ u U2 oR)
 (oO (pq (o9 (OU G) r G.a5 (qR v0 (pf U1 oQ) (pf U1 oQ)))))
 (oO (pA (oZ u U2 oR)
 (oO (pq (o9 (Od G) r G.a8 (pR v0))))
 (oO (pq (pG v0 G.c.toCls G.k (qG G) r (pR (o9 (LA G) r G.a9 (rA v0 U1))))))))))))),?_⟩)
 rintro ds M Q ⟨M0,b,A,V,l,c,n,e,rfl,cu,hc,hn,wf,hf,hr,q⟩
 have rd:=cu.rd (by omega) wf;have one:∀(ev:Ev),Py l V e ev->xp l V e=[ev]->ev.ok V->ev.nw=0->zm (M b) λC fs'=>fs'.lookup ("apply":Str)=none/\∃sp,(C=a.c/\sp=vo a)/\Gd a [.ref b,e.d] M λd M1=>sp [.ref b,d] M1 λ_ M'=>∃VQ,qa VQ M'/\Q .mC VQ:=λev sg he ok h0=>by refine oP cu.at_ ⟨rfl,_,⟨rfl,rfl⟩,A,V,l,e,ev,by rw[cu.b],rd,sg,b,A,V,ev,rfl,cu.b,cu.bd,cu.lim (by omega) (by omega),ok,λM1 A1 eb st bd=>?_⟩;rw[he]at q;have c1:=cu.after ok eb st bd;rw[h0]at c1;exact⟨M1,.refl,q M1 A1 (c1.mono (by omega) (by omega)) st⟩
 cases e with
 | call y z=>obtain⟨h1,h2,h3,h4⟩:=DV hr;exact⟨M0,b,A,V,l,c,n,y,z,rfl,cu,by omega,by omega,GB wf h1 h2 h3 h4,λM' A' c1 st=>⟨M',.refl,q M' A' (c1.mono (by omega) (by omega)) st⟩⟩
 | turn=>exact⟨M0,b,A,V,l,c,n,rfl,cu,by omega,by omega,wf,λM' A' c1 st=>⟨M',.refl,q M' A' (c1.mono (by omega) (by omega)) st⟩⟩
 | sw b0 i=>
  obtain⟨h1,h2⟩:=Se hr;obtain⟨i,rfl⟩:=yo h1;cases b0 with
  | true=>exact one (.sw true i) (.sw true i h2) rfl h2 rfl
  | false=>exact one (.sw false i) (.sw false i h2) rfl h2 rfl
 | num wd x ns=>
  obtain⟨hx,no⟩:=G4 hf hr;cases no with
  | answer i c0 hi hc0 h1 h2 h3=>obtain⟨i,rfl⟩:=yo hi;have lt:=(cV.mp hc0).1;exact one (.talks i [c0.cr,x]) (.answer x i c0 hc0) (eQ (λev=>[ev]) (yR hc0)) ⟨lt,by show 2<=100;decide⟩ rfl
  | hang i c0 hi hc0 h1=>obtain⟨i,rfl⟩:=yo hi;exact⟨M0,b,A,V,l,c,n,x,i,c0,rfl,cu,by omega,by omega,hc0,λM' A' c1 st=>⟨M',.refl,q M' A' (c1.mono (by omega) (by omega)) st⟩⟩
  | hold i c0 hi hc0 h1=>obtain⟨i,rfl⟩:=yo hi;have lt:=(cV.mp hc0).1;exact one (.held i x) (.hold x i c0 hc0) (eQ (λev=>[ev]) (yR hc0)) lt rfl
  | back i c0 hi hc0 h1 h2=>obtain⟨i,rfl⟩:=yo hi;have lt:=(cV.mp hc0).1;exact one (.talks i c0.ms) (.back x i c0 hc0) (eQ (λev=>[ev]) (yR hc0)) ⟨lt,(cu.sz.cs c0 (qB hc0)).2.2⟩ rfl
  | two _ i j c0 d0 hi hj hw hc0 hd0 h1 h2=>
   obtain⟨i,rfl⟩:=yo hi;obtain⟨j,rfl⟩:=yo hj;have lt:=(cV.mp hc0).1;have lt':=(cV.mp hd0).1;have WL:=(Iz (w:=wd) wf hc0 hd0 h1 h2).1;have k0:=wf.ok _ c0 hc0;have k1:=wf.ok _ d0 hd0;obtain⟨_,u2,u3,_⟩:=D7 k0 h1;obtain⟨_,v2,v3⟩:=zF.mp h2;have sg:=Py.two (l:=l) wd x i j c0 d0 WL hw hc0 hd0 (HH k0.mn u2 u3) (HH k1.mn v3 v2);have ok:(Ev.merge i j (if (wd=="hand")=true then[qd c0 x,qd d0 x]else[x,qd c0 x,qd d0 x])).ok V:=⟨lt,lt',WL,by split;exact(by decide:2<=100);exact(by decide:3<=100)⟩;have he:xp l V (.num wd x [(i:Int),(j:Int)])=[.merge i j (if (wd=="hand")=true then[qd c0 x,qd d0 x]else[x,qd c0 x,qd d0 x])]:=eQ (λev=>[ev]) (GA hc0 hd0);rcases hw with rfl|rfl
   .exact one _ sg he ok rfl
   .exact one _ sg he ok rfl
def JN(G:Gl K mg a):wD P w K mg base (A8 P w) 1 a.H.f a.H.d a.H.p (vI K "word"):=
 K6 G.H.toDG Bd λVV A outer s H E=>DN (MR (pv 0) (pv 1))
def Te(G:Gl K mg a):UY P w K mg base 13 a.L (S' a):=by
 refine TJ G.L.toDG GW (by walk_at "m") (λ_ _ _ _ _ _ R hr hR=>⟨_,(oN (pj 2 GW (o9 (GX G) hr G.aZ (rA v0 U1)))
 (oN (pA (oZ (Vr hr) U2 rE)
 (oO (Jl G.b1 (JN G) (hr.mono (by first|decide|omega)) G.H.b G.b2 G.H.at_ rfl G.bU hR (pR U2)))
 pb)
 (oN (pj 3 GW (pD qc rfl G.g pX (pR (oU v0))))
 (oN (pq (o9 (QM G) hr G.ba (rA v0 U1)))
 (oO (oV (rO (oU v0) (r6 U3) sS))))))),?_⟩)
 .rintro ds M Q ⟨M0,b,A,V,l,c,n,e,rfl,cu,hc,hn,wf,hf,q,rr⟩
  refine⟨A,V,l,e,by rw[cu.b],cu.rd (by omega) wf,hf,?_⟩;cases er:wG l V e with
  | some w0=>exact⟨_,rfl,rr w0 er⟩
  | none=>
   refine oP cu.at_ (i' rfl (i' cu.bd.lo ?_));refine⟨M0,b,A,V,l,c,n,e,rfl,cu,hc,hn,wf,hf,er,λM' A' c1 st=>?_⟩;refine oP c1.at_ (i' rfl (i' c1.bd.lo λp hp=>?_));have hcut:L3.sZ ((qr V (xp l V e)).log.map Ev.d) (some (((V.log.map Ev.d).length:Nat):Int)) none=(xp l V e).map Ev.d:=by rw[Ik,dJ,Gv _ _ (by rw[cU];omega),List.drop_left]
   rw[hcut];exact⟨_,.refl,q er M' A' p c1 st hp⟩
def OF(a:Ad):qN:=λds M Q=>RV λM0 b A V l c n e=>ds=[.ref b,tN.d e]/\ub a M0 M b A V l c n/\c<10000/\n<=5000000/\WF l V/\e.m8/\Vh a M0 M b A V l c n e Q/\(∀w,wG l V e=some w->Q (.str w) M)
def NY(G:Gl K mg a):Fq P w K mg base 14 a.bt (OF a):=by
 refine fq G.bt.toDG wV (λr u=>⟨_,(oN (pj 2 wV rE)
 (oN (MN (ix:=2) (i:=3) (J' (Te G) (r.mono (by first|decide|omega)) rfl G.L.mg G.L.toDG.kp G.L.b (rA v0 U1)) rfl rfl rfl G.bU wV.nd rfl rfl rfl rfl (by decide))
 (oO (oV U2)))),?_⟩)
 rintro ds M Q ⟨M0,b,A,V,l,c,n,e,rfl,cu,hc,hn,wf,hf,q,qf⟩
 refine⟨λC y M'=>C=a.F/\M=M'/\∃w,wG l V e=some w/\y=some (("word":Str),D.str w),?_,?_⟩
 .exact⟨M0,b,A,V,l,c,n,e,rfl,cu,hc,hn,wf,hf,λh M' A' r c1 st hm=>⟨_,.refl,q h M' A' r c1 st hm⟩,λw h=>⟨rfl,rfl,w,h,rfl⟩⟩
 .rintro C y M' ⟨rfl,rfl,w,h,rfl⟩
  exact⟨G.b4,G.b3,w,rfl,M,.refl,qf w h⟩
noncomputable def vb(g:tJ):Bool:=g.2.1==("turns":Str)
noncomputable def uH(l:oY):List (Str×Int):=(l.groups.filter vb).map λg=>(g.1,0)
noncomputable def V0(p:Addr)(h:Int)(l:oY)(F:List Addr):qe:=⟨p,h,0,[],[],uH l,l.my.map (·.1),[],F⟩
def Ec(a:Ad):qN:=λds M Q=>Gh λb p h F (l:oY)=>ds=[.ref b,.ref p,.int h]/\M b=some (.ins a.c [])/\sE a M p l/\rg l/\p≠b/\(∀x∈F,∃c,M x=some c)/\∀M' A,A.b=b->rD b M M'->(∀x∈A.foot,x=b\/M x=none)->pk a M' A (V0 p h l F)->Q .mC M'
noncomputable def LG(g:D):Bool:=match g with
 | .tup (_::.str m::_)=>m=="turns"
 | _=>false
noncomputable def PC(d:D):D:=.tup [Ak d,.int 0]
def GD(gs:List tJ):((gs.map qI).filter LG).map PC=(gs.filter vb).map λg=>D.tup [.str g.1,.int 0]:=by rw[gX,dZ];rfl
def IT(l:oY):((l.groups.filter vb).map λg=>((Sum.inr g.1:qK),D.int 0))=sI (uH l):=by unfold sI uH;rw[dZ];rfl
noncomputable def bF(p:Addr)(h:Int)(ca le nx Xo:Addr)(k:Nat):List (Str×D):=List.take (α:=Str×D) k [("plan",.ref p),("hour",.int h),("turn",.int 0),("calls",.ref ca),("legs",.ref le),("nexts",.ref nx),("on",.ref Xo)]
def Lx(G:Gl K mg a):Fq P w K mg base 1 a.aj (Ec a):=by
 refine fq G.aj.toDG Cs (λr u=>⟨_,(oN (pK v0 U1)
 (oN (pK v0 U2)
 (oN (pK v0 oQ)
 (oN (pK v0 (qA sd))
 (oN (pK v0 (qA sd))
 (oN (pK v0 (pZ (Ea rfl) rfl G.bS D4 (pR (ql rfl (wC (ix:=[none]) (N':=["group"])) (qk (oU U1)) (qg 0) (uz (oZ u (pf v0 oQ) oR)) (pz (rA (pf v0 oQ) oQ))))))
 (oN (pK v0 (pZ sL rfl G.y su (pR (oU U1))))
 (oO (pK v0 (qA sd)))))))))),?_⟩)
 rintro ds M Q ⟨b,p,h,F,l,rfl,hb,⟨ph,gr,ws,on,pr,gd,rs,i1,i2,i3,i4,i5,i6,i7,i8⟩,ok,nbp,hF,q⟩
 have hz:=dN;have l2:=ok.g3;refine oP hb ⟨(G.C "plan" rfl),by show 0<1000;decide,?_⟩;have k1:rD b M (oX M b (.ins a.c [("plan",.ref p)])):=.put;have b1:oX M b (.ins a.c [("plan",.ref p)]) b=some (.ins a.c [("plan",.ref p)]):=pC;show uc _ _ _ _ (oX M b (.ins a.c [("plan",.ref p)]));generalize oX M b (.ins a.c [("plan",.ref p)])=N1 at k1 b1 ⊢;refine oP b1 ⟨(G.C "hour" rfl),by show 1<1000;decide,?_⟩;have k2:=k1.trans (rD.put (p:=b) (c:=.ins a.c [("plan",.ref p),("hour",.int h)]));have b2:oX N1 b (.ins a.c [("plan",.ref p),("hour",.int h)]) b=some (.ins a.c [("plan",.ref p),("hour",.int h)]):=pC;show uc _ _ _ _ (oX N1 b (.ins a.c [("plan",.ref p),("hour",.int h)]));generalize oX N1 b (.ins a.c [("plan",.ref p),("hour",.int h)])=N2 at k2 b2 ⊢;refine oP b2 ⟨(G.C "turn" rfl),by show 2<1000;decide,?_⟩;have k3:=k2.trans (rD.put (p:=b) (c:=.ins a.c (bF p h 0 0 0 0 3)));have b3:oX N2 b (.ins a.c (bF p h 0 0 0 0 3)) b=some (.ins a.c (bF p h 0 0 0 0 3)):=pC;show uc _ _ _ _ (oX N2 b (.ins a.c (bF p h 0 0 0 0 3)));generalize oX N2 b (.ins a.c (bF p h 0 0 0 0 3))=N3 at k3 b3 ⊢;clear k1 k2 b1 b2;refine⟨oK rfl,λca hca=>?_⟩;obtain⟨n4,e4,k4,c4,b4⟩:=sv (fs':=(bF p h ca 0 0 0 4)) (c:=.lst []) b3 hca;refine oP e4 ⟨(G.C "calls" rfl),by show 3<1000;decide,?_⟩;show uc _ _ _ _ (oX (oX N3 ca (.lst [])) b (.ins a.c (bF p h ca 0 0 0 4)));generalize oX (oX N3 ca (.lst [])) b (.ins a.c (bF p h ca 0 0 0 4))=N4 at k4 c4 b4 ⊢;have XU:=k3.trans k4;have z1:M ca=none:=qY k3 b3 hca;have lc4:oy N4 ca=some []:=se c4;refine⟨oK rfl,λle YZ=>?_⟩;obtain⟨n5,e5,k5,c5,b5⟩:=sv (fs':=(bF p h ca le 0 0 5)) (c:=.lst []) b4 YZ;refine oP e5 ⟨(G.C "legs" rfl),by show 4<1000;decide,?_⟩;show uc _ _ _ _ (oX (oX N4 le (.lst [])) b (.ins a.c (bF p h ca le 0 0 5)));generalize oX (oX N4 le (.lst [])) b (.ins a.c (bF p h ca le 0 0 5))=N5 at k5 c5 b5 ⊢;have XW:=XU.trans k5;have z2:M le=none:=qY XU b4 YZ;have le5:oy N5 le=some []:=se c5;have mcl:le≠ca:=λz=>by rw[z,pS lc4]at YZ;cases YZ
 have lc5:=k5.lst (pE lc4 b4) lc4;have p5:=XW _ _ nbp i1;have g5:=XW.lst (pE i3 hb) i3;clear k3 k4 k5 XU lc4 c4 c5 e4 e5 b3 b4;refine oP p5 (i' rfl (i' g5 ?_));refine sR (f:=PC) (t:=LG) g5 _ [] _ (by rw[cR];simp only[dD];omega) (λd hd k hk=>?_) (λd hd _ k hk=>?_) λq1 WQ=>?_
 .obtain⟨v,_,rfl⟩:=dz.mp hd;exact hk
 .obtain⟨v,_,rfl⟩:=dz.mp hd;exact⟨oK rfl,hk⟩
 rw[dW,GD];have Yv:=qa.new (c:=.lst ((l.groups.filter vb).map λg=>D.tup [.str g.1,.int 0])) WQ;refine i' oW (i' (wq (λg:tJ=>g.1) (λ_=>D.int 0) _) ⟨x8 (ir (List.Sublist.map _ fZ) (ir (jq _ _) ok.nd)),λnx VY=>?_⟩);have z3:M nx=none:=qY XW b5 (Yv.none VY);obtain⟨n6,e6,k6,c6,b6⟩:=sv (fs':=(bF p h ca le nx 0 6)) (c:=.dk ((l.groups.filter vb).map λg=>((Sum.inr g.1:qK),D.int 0))) (Yv _ _ b5) VY;refine oP e6 ⟨(G.C "nexts" rfl),by show 5<1000;decide,?_⟩;have k6:=Yv.keep.trans k6;have XG:vt "nexts" (.ref nx) (bF p h ca le 0 0 5)=(bF p h ca le nx 0 6):=rfl;rw[XG];generalize oX (oX (oX N5 q1 (.lst ((l.groups.filter vb).map λg=>D.tup [.str g.1,.int 0]))) nx (.dk ((l.groups.filter vb).map λg=>((Sum.inr g.1:qK),D.int 0)))) b (.ins a.c (bF p h ca le nx 0 6))=N6 at k6 b6 c6 ⊢;have x6:zd N6 nx=some ((l.groups.filter vb).map λg=>((Sum.inr g.1:qK),D.int 0)):=CO c6;have kk6:=XW.trans k6;have lc6:=k6.lst (pE lc5 b5) lc5;have le6:=k6.lst (pE le5 b5) le5;have p6:=kk6 _ _ nbp i1;have o6:=kk6.lst (pE i5 hb) i5;clear XW k6 lc5 p5 g5 e6 c6;refine oP p6 (i' rfl (i' o6 λXo Y2=>?_));have z4:M Xo=none:=qY kk6 b6 Y2;obtain⟨n7,e7,k7,c7,b7⟩:=sv (fs':=(bF p h ca le nx Xo 7)) (c:=.lst (l.my.map λw=>D.bl w.1)) b6 Y2;refine oP e7 ⟨(G.C "on" rfl),by show 6<1000;decide,?_⟩;have XG:vt "on" (.ref Xo) (bF p h ca le nx 0 6)=(bF p h ca le nx Xo 7):=rfl;rw[XG];generalize oX (oX N6 Xo (.lst (l.my.map λw=>D.bl w.1))) b (.ins a.c (bF p h ca le nx Xo 7))=N7 at k7 b7 c7 ⊢;have kk7:=kk6.trans k7;have lc7:=k7.lst (pE lc6 b6) lc6;have le7:=k7.lst (pE le6 b6) le6;have x7:=k7.dk (Bk x6 b6) x6;have lo7:oy N7 Xo=some ((l.my.map (·.1)).map D.bl):=by rw[dZ];exact se c7
 refine⟨oK rfl,λlg hlg=>?_⟩;obtain⟨n8,e8,k8,c8,b8⟩:=sv (fs':=sU (.ref p) h 0 ca le nx Xo lg) (c:=.lst []) b7 hlg;refine oP e8 ⟨(G.C "log" rfl),by show 7<1000;decide,_,.refl,?_⟩;have apart:∀{N:Mp} {x y:Addr} {ds:List D},N x=none->oy N y=some ds->x≠y:=λ{N x y ds} h1 h2 z=>by have:=pS h2;rw[<-z,h1]at this;cases this
 have y5:=qY kk7 b7 hlg;refine q _ ⟨b,ca,le,nx,Xo,lg,[]⟩ rfl (kk7.trans k8) (λx hx=>?_) ⟨b8,k8.lst (pE lc7 b7) lc7,k8.lst (pE le7 b7) le7,?_,k8.lst (pE lo7 b7) lo7,se c8,rfl,λi k c e=>by simp at e,?_,dP.mpr ⟨dB,eG⟩,λx hx=>?_⟩
 rotate_right
 .by_cases z:x=b
  .exact⟨_,by rw[z];exact b8⟩
  .obtain⟨c,e⟩:=hF x hx;exact⟨c,(kk7.trans k8) x c z e⟩
 .have hx:x∈[b,nx,ca,le,Xo,lg]:=by
   unfold sX.foot sX.lists at hx
   simpa using hx
  simp only[c9,dB,eU]at hx;rcases hx with rfl|rfl|rfl|rfl|rfl|rfl
  .exact .inl rfl
  .exact .inr z3
  .exact .inr z1
  .exact .inr z2
  .exact .inr z4
  .exact .inr y5
 .show zd _ nx=some (sI (uH l));rw[<-IT];exact k8.dk (Bk x7 b7) x7
 .have m1:=apart hlg lc7;have m2:=apart hlg le7;have m3:=apart hlg lo7;have m4:=apart Y2 lc6;have m5:=apart Y2 le6;show[ca,le,Xo,lg].Nodup;simp only[dP,c9,dB,eU,fJ,not_false_eq_true,eG,and_true];exact⟨⟨dM mcl,dM m4,dM m1⟩,⟨dM m5,dM m2⟩,dM m3⟩
def Uu{p:Addr}{h:Int}{l:oY}{F:List Addr}(ok:rg l):WF l (V0 p h l F):=by
 refine⟨λi c e=>by simp[V0]at e,λi j ci cj x e=>by simp[V0]at e,λx hx=>?_,λi j ci cj x e=>by simp[V0]at e,λz hz ht=>?_⟩
 .show((0:Nat):Int)<=vN l x;unfold vN;cases e:l.mO x with
  | none=>exact Int.le_refl _
  | some v=>have:=(ok.po v (fD e)).l1;show(0:Int)<=v.2.1;omega
 .show ∃v,(uH l).find? (λp=>decide (p.1=z))=some v/\_;unfold oY.mF at ht;cases e:l.group z with
  | none=>rw[e]at ht;exact absurd ht (by decide)
  | some g=>
   rw[e]at ht;have hg:=fD e;have hn:g.1=z:=by simpa using iQ e
   have hm:((g.1,0):Str×Int)∈uH l:=dz.mpr ⟨g,fz.mpr ⟨hg,ht⟩,rfl⟩;cases q:(uH l).find? (λp=>decide (p.1=z))with
   | none=>exact absurd (gz.mp q _ hm) (by simp[hn])
   | some v=>refine⟨v,rfl,?_⟩;obtain⟨g',_,rfl⟩:=dz.mp (fD q);exact⟨Int.le_refl _,Int.natCast_nonneg _⟩
def Dj{l:oY}(ok:rg l):(uH l).length<=3:=by unfold uH;rw[cR];exact dX (fP _ _) ok.g3
def Ev.noT:Ev->Prop
 | .turn=>False
 | _=>True
def Ev.noN:Ev->Prop
 | .next _ _=>False
 | _=>True
theorem Dz:∀{es:List Ev} {V:qe},(∀e∈es,e.noN)->(qr V es).ps=V.ps
 | [],_,_=>rfl
 | e::r,V,h=>(Dz (es:=r) (V:=pO V e) λx hx=>h x (dC _ hx)).trans (by have:=h e dO;cases e<;>first|rfl|cases this)
theorem BA(i:Nat):∀(st:sG) (q:Option Str),∀e∈rf i q st,e.noT/\e.noN
 | [],_,e,h=>by unfold rf at h;cases h
 | (y,gs)::r,none,e,h=>by
  rcases c9.mp (show e∈Ev.asks i y gs::rf i (some y) r from h)with rfl|h
  .exact⟨trivial,trivial⟩
  .exact BA i r _ e h
 | (y,gs)::r,some u,e,h=>by
  rcases c9.mp (show e∈Ev.leg ⟨i,u,y,u⟩::Ev.asks i y gs::rf i (some y) r from h)with rfl|h
  .exact⟨trivial,trivial⟩
  rcases c9.mp h with rfl|h
  .exact⟨trivial,trivial⟩
  .exact BA i r _ e h
def Ox{i:Nat}{st:sG}{en:vv}:∀e∈tE i st en,e.noT/\e.noN:=λe h=>by
 unfold tE at h;cases en with
 | ring ns=>
  dsimp only at h;cases q:st.getLast? with
  | none=>rw[q]at h;cases h
  | some s0=>rw[q]at h;rw[dg.mp h];exact⟨trivial,trivial⟩
 | _=>cases h
def NW{ps:List (Str×Int)}{z:Str}{n:Int}(h:ps.any (λp=>decide (p.1=z))=true):(AM ps z n).length=ps.length:=by unfold AM;rw[cY h,cR]
def QR{l:oY}{V V1:qe}{i:Nat}{en:vv}(nx:tT l V1)(he:Fh l V i en):(qr V1 (sC l V i en)).ps.length=V1.ps.length:=by
 cases en with
 | rings z ps=>
  show(qr V1 ((if (l.mF z=="turns")=true then[Ev.next z (Pp (l.mv z) (ps.headD Str.empty))]else[])++[.rings i ps])).ps.length=_;rw[rc];by_cases ht:(l.mF z=="turns")=true
  .rw[cY ht];refine NW ?_;obtain⟨v,e,_⟩:=nx z he.1 ht;exact gw.mpr ⟨v,fD e,by simpa using iQ e⟩
  .rw[cW ht];rfl
 | breaks z=>
  unfold sC;dsimp only;split
  .rfl
  .rfl
 | waits z=>rfl
 | engaged z=>rfl
 | barred=>rfl
 | ring ns=>rfl
def Pr{l:oY}{V:qe}{i:Nat}{k:oS}(ok:rg l)(wf:ze l V (some i))(hk:V.calls[i]?=some k):(qr V (wB l V i)).ps.length=V.ps.length:=by
 have WS:=wf.ok i k hk;unfold wB;rw[hk];dsimp only[Option.elim];obtain⟨z,hz⟩:∃z,k.way.getLast?=some z:=by
  cases e:k.way.getLast? with
  | none=>exact absurd (gL.mp e) WS.wy.1
  | some z=>exact⟨z,rfl⟩
 rw[show k.way.getLastD Str.empty=z by rw[ij,hz];rfl];have ro:xC l V k.cr (l.nm.length+1) [] (uA l V k.cr z k.way.dropLast):=yI ok _ _ _ _ (WS.wy.2 z (iN hz)) λx hx=>WS.wy.2 x (iO _ hx);have eo:=Ke ok wf hk ro.e;generalize uA l V k.cr z k.way.dropLast=R at eo;obtain⟨e,st⟩:=R;have e1:(qr (qr V (rf i none st)) (tE i st e)).ps=V.ps:=(Dz λx hx=>(Ox x hx).2).trans (Dz λx hx=>(BA i st none x hx).2);rw[rc,rc];refine(QR (λz hz ht=>?_) eo).trans (eQ List.length e1);rw[e1];exact wf.nx z hz ht
theorem IF{l:oY}(ok:rg l):∀(is:List Nat) {V:qe},WF l V->(qr V (rk l is V)).ps.length=V.ps.length
 | [],V,_=>by unfold rk;rfl
 | i::r,V,wf=>by
  unfold rk;rw[rc];refine(IF ok r (HZ ok wf)).trans ?_;have d:=Gp (V:=V) (i:=i) ok;generalize y0 l V i=fs at d;cases d with
  | no=>rfl
  | on c k r b x y n hc hs hk hw hy=>rw[zr hk,rc];exact Pr ok (Eu wf hc hs hy) (Es hc)
def TF{l:oY}{V:qe}{e:tN}(ok:rg l)(wf:WF l V)(f:e.m8)(h:wG l V e=none):(qr V (xp l V e)).ps.length=V.ps.length:=by
 cases e with
 | call y z=>obtain⟨h1,h2,h3,h4⟩:=DV h;obtain⟨k,hk⟩:=Ls (V:=V) (y:=y) (z:=z);show(qr V (_++wB l _ _)).ps.length=_;rw[rc];exact Pr ok (GB wf h1 h2 h3 h4) hk
 | turn=>exact IF ok _ (Em wf)
 | sw b i=>rfl
 | num w x ns=>
  refine eQ List.length (Dz λev hev=>?_);obtain⟨_,n⟩:=G4 f h;cases n with
  | answer i c hi hc h1 h2 h3=>rw[dg.mp (show ev∈[DY V "answer" x i.toNat]from hev),yR hc];trivial
  | hang i c hi hc h1=>
   have hev:ev∈we V x i.toNat:=hev;unfold we at hev;rw[hc]at hev;dsimp only[Option.elim]at hev;split at hev
   .rw[dg.mp hev];trivial
   split at hev
   .rcases c9.mp hev with rfl|hev
    .trivial
    split at hev
    .rw[dg.mp hev];trivial
    .cases hev
   split at hev
   .rw[dg.mp hev];trivial
   .rw[dg.mp hev];trivial
  | hold i c hi hc h1=>rw[dg.mp (show ev∈[DY V "hold" x i.toNat]from hev),yR hc];trivial
  | back i c hi hc h1 h2=>rw[dg.mp (show ev∈[DY V "back" x i.toNat]from hev),yR hc];trivial
  | two _ i j c d hi hj hw hc hd h1 h2=>rw[dg.mp (show ev∈[FU V w x i.toNat j.toNat]from hev),GA hc hd];trivial
noncomputable def AF(c:oS):List Str:=if (c.st=="talks"||c.st=="held")=true then c.ms else c.cr::c.at_
def IJ(a:Ad):qN:=λds M Q=>Cv λL k c=>ds=[.ref (qS.p k)]/\rq a M L k c/\c.at_.length<=100/\∀r M',qa M M'->oy M' r=some ((AF c).map D.str)->Q (.ref r) M'
noncomputable def Kh(V:qe)(WV:List Str):List Nat:=(List.range V.calls.length).filter λi=>(V.calls[i]?).elim false λc=>hasS WV c.st
def Oh(a:Ad):qN:=λds M Q=>zZ λA V l WV=>ds=[.ref A.b,.tup (List.map D.str WV)]/\Rd a M A V l/\∀r M',qa M M'->oy M' r=some ((Kh V WV).map λn=>D.int (n:Nat))->Q (.ref r) M'
noncomputable def Qu(V:qe)(WV:List Str):D->Bool
 | .int n=>(V.calls[n.toNat]?).elim false λc=>hasS WV c.st
 | _=>false
def IZ(G:Gl K mg a):Fq P w K mg base 1 a.bm (IJ a):=by
 refine fq G.bm.toDG Cr (λr u=>⟨_,(oN (pA (W3.b3 (xT (oZ u (oU v0) oR) (xt (oZ u (oU v0) oR))))
 (oO (oV (pZ sL rfl G.y su (pR (oU v0)))))
 pb)
 (oO (oV (pH (qA (pR (oU v0))) (pZ sL rfl G.y su (pR (oU v0))))))),?_⟩)
 rintro ds M Q ⟨L,k,c,rfl,⟨ad,md,h1,h2,h3,h4,_⟩,ha,q⟩
 have hz:=dN;unfold AF at q;refine oP h1 (i' rfl (qm (c:=c.st=="talks") (λg=>?_) (λg=>?_)))
 .rw[g,hW,cY rfl]at q;exact oP h1 (i' rfl (i' h4 λr hr=>⟨_,.refl,q r _ (.new hr) oW⟩))
 rw[dE.mpr g,fF]at q;refine oP h1 (i' rfl (qm (c:=c.st=="held") (λg=>?_) (λg=>?_)))
 .rw[cY g]at q;exact oP h1 (i' rfl (i' h4 λr hr=>⟨_,.refl,q r _ (.new hr) oW⟩))
 rw[cW g]at q;refine oP h1 (i' rfl ⟨oK rfl,λr1 Wz=>?_⟩);have t1:=qa.new (c:=.lst [D.str c.cr]) Wz;have l1:=@oW M r1 [D.str c.cr];show zm (oX M r1 (.lst [D.str c.cr]) k.p) _;generalize oX M r1 (.lst [D.str c.cr])=M1 at t1 l1 ⊢;refine oP (t1 _ _ h1) (i' rfl (i' (t1.lst h3) λr2 Yf=>?_));have t2:=qa.new (c:=.lst (c.at_.map D.str)) Yf;refine i' (t2.lst l1) (i' oW ⟨?_,λr3 XX=>⟨_,.refl,q r3 _ (t1.trans (t2.trans (.new XX))) oW⟩⟩);rw[cR];show 1+c.at_.length<=sizeLine;omega
def MS(G:Gl K mg a):Fq P w K mg base 1 a.bn (Oh a):=by
 refine fq G.bn.toDG zW (λr u=>⟨_,(oO (oV (ql rfl (wC (ix:=[none,some 0,some 1]) (N':=["_law_k","_law_board","_law_states"])) (uI rfl G.aa (pR (pD qc rfl G.g pX (pR (oU v0))))) (qg 0) (uz (oZ u (oU (pf (oU U1) v0)) U2)) v0))),?_⟩)
 rintro ds M Q ⟨A,V,l,WV,rfl,rd,q⟩
 have hz:=dN;have lc:((A.cs.map λk=>D.ref k.p).length:Int)=(V.calls.length:Nat):=by rw[cR,rd.bd.len]
 have hb:=rd.k;refine oP rd.bd.at_ (i' rfl (i' rd.bd.ca ?_));rw[lc];refine⟨rfl,⟨by omega,by omega⟩,?_⟩;refine sR (f:=id) (t:=Qu V WV) trivial _ [] _ (by rw[cR,eD];simp only[dD];omega) (λd hd k hk=>?_) (λd hd _ k hk=>?_) λr hr=>?_
 .obtain⟨i,hi,rfl⟩:=dz.mp hd;rw[gu]at hi;have hi:i<V.calls.length:=by omega
  obtain⟨k',ek,⟨ad,md,h1,_⟩⟩:=rd.call (cT hi);have ea:vM (A.cs.map λk=>D.ref k.p) (0+(i:Nat))=some (.ref k'.p):=by rw[mh];exact qP ek
  refine oP rd.bd.at_ (i' rfl (i' rfl (i' rd.bd.ca (i' ea (oP h1 (i' rfl (i' rfl ⟨rfl,pW _,?_⟩)))))));show k (inD (.str V.calls[i].st) (WV.map D.str)) M;rw[rM];have e1:Qu V WV (.int (0+(i:Nat)))=hasS WV V.calls[i].st:=by show(V.calls[(0+(i:Int)).toNat]?).elim false _=_;rw[show(0+(i:Int)).toNat=i by omega,cT hi];rfl
  show k (hasS WV V.calls[i].st) M;rw[<-e1];exact hk
 .exact hk
 .refine⟨_,.refl,q r _ (.new hr) (oW.trans (eQ some ?_))⟩;rw[dW,iZ,gX,show(((V.calls.length:Nat):Int)).toNat=V.calls.length from rfl];unfold Kh;have e1:(Qu V WV∘λi:Nat=>D.int (0+(i:Nat)))=λi=>(V.calls[i]?).elim false λc=>hasS WV c.st:=funext λi=>by show(V.calls[(0+(i:Int)).toNat]?).elim false _=_;rw[show(0+(i:Int)).toNat=i by omega]
  rw[e1];exact gQ λi _=>by rw[mh]
noncomputable def FR:Str->List Str:=λw=>if (w=="answer")=true then["rings","waits"]else if (w=="hold")=true then["talks"]else if (w=="hang")=true then["rings","waits","talks","held"]else["held"]
def P5(w:Str):Prop:=w="answer"\/w="hang"\/w="hold"\/w="back"\/w="hand"\/w="join"
def Jp(a:Ad):qN:=λds M Q=>Gh λA V l c w=>ds=[.ref A.b,.int c,.str w,.tup ((FR w).map D.str)]/\Rd a M A V l/\WF l V/\(∀k∈V.calls,k.at_.length<=100)/\P5 w/\∀M',qa M M'->Q .mC M'/\∀e:tN,e.m8->Q e.d M'
def Rv{M:Mp}{n:Nat}{a b:Addr}{ds:List D}(ha:oy M a=some ds)(hb:oy M b=some []):yw M (n+1) (.ref a) (.ref b)=some ds.isEmpty:=by
 show(oy M a).bind (λi=>(oy M b).bind λj=>if i.length=j.length then rX (yw M n) i j else some false)=_;rw[ha,hb];cases ds with
 | nil=>rfl
 | cons x r=>rfl
def tQ{α:Type}(f:α->D){xs:List α}(h:xs≠[])(c k:Int):(0:Int)<((xs.map f).length:Nat)/\∃x∈xs,vM (xs.map f) (draw c k ((xs.map f).length:Nat))=some (f x):=by
 have hp:(0:Int)<((xs.map f).length:Nat):=by have:=fu.mpr h;rw[cR];omega
 have d0:=qF (c:=c) (f:=k) hp;have d1:=qu (c:=c) (f:=k) hp;obtain⟨n,e⟩:=d6 d0;rw[e]at d1 ⊢;have hn:n<xs.length:=by rw[cR]at d1;omega
 exact⟨hp,xs[n],gN hn,uF (by rw[dA,cT hn];rfl)⟩
def QT{V:qe}{WV:List Str}{i:Nat}(h:i∈Kh V WV):∃c,V.calls[i]?=some c/\c.st∈WV:=by
 have h:=(fz.mp h).2;cases e:V.calls[i]? with
 | none=>rw[e]at h;cases h
 | some c=>rw[e]at h;exact⟨c,rfl,qv.mp h⟩
def C9{l:oY}{c:oS}(k:vn l false c)(h:c.st≠"over"):AF c≠[]:=by
 unfold AF;split
 .rename_i g;rcases k.sh with z|⟨_,z|z|⟨_,z⟩|z⟩
  .rw[z.1]at g;exact absurd g (by decide)
  .rw[z.1]at g;exact absurd g (by decide)
  .intro y;rw[y]at z;rcases z.2.1 with u|u<;>cases u
  .intro y;rw[y]at z;cases z.2.1
  .exact absurd z.1 h
 .exact fC _ _
def Tf{l:oY}{c:oS}(k:vn l false c)(h:c.st∈FR "answer"):c.at_≠[]:=by
 have h:c.st="rings"\/c.st="waits":=by
  rcases c9.mp h with g|g
  .exact .inl g
  .exact .inr (dg.mp g)
 rcases k.sh with z|⟨_,z|z|⟨_,z⟩|z⟩
 .exact z.2.2.2.2.2 rfl
 .intro y;rw[y]at z;cases z.2.2.2.2
 all_goals(rw[z.1]at h;exact absurd h (by decide))
def IB{l:oY}{c:oS}(k:vn l false c)(h:c.st="held"):∃x,c.hd=some x:=by
 rcases k.sh with z|⟨_,z|z|⟨x,z⟩|z⟩
 .rw[h]at z;exact absurd z.1 (by decide)
 .rw[h]at z;exact absurd z.1 (by decide)
 .rw[h]at z;exact absurd z.1 (by decide)
 .exact⟨x,z.2.2.1⟩
 .rw[h]at z;exact absurd z.1 (by decide)
def Ja(G:Gl K mg a):Fq P w K mg base 4 a.bo (Jp a):=by
 refine fq G.bo.toDG qV (λr u=>⟨_,(oN (pj 4 qV (o9 (MS G) r G.bn (rA v0 U3)))
 (oN (pA (oZ u v4 (qA sd))
 (oO (oV rE))
 pb)
 (oN (pj 5 qV (pf v4 (o9 (qo G) r G.i (qR U1 oQ (pD qc rfl G.g pX (pR v4))))))
 (oN (pj 6 qV (o9 (IZ G) r G.bm (pR (pf (oU v0) v5))))
 (oN (pA (oZ u U2 oR)
 (oO (pj 6 qV (pZ sL rfl G.y su (pR (oU (pf (oU v0) v5))))))
 pb)
 (oN (pA (W3.b3 (xT (oZ u U2 oR) (xT (oZ u U2 oR) (xt (oZ u U2 oR)))))
 (oO (pj 6 qV (qA (pR (oU (pf (oU v0) v5))))))
 pb)
 (oN (pj 7 qV (pf v6 (o9 (qo G) r G.i (qR U1 oQ (pD qc rfl G.g pX (pR v6))))))
 (oN (pA (W3.b3 (xT (oZ u U2 oR) (xt (oZ u U2 oR))))
 (oN (pj 8 qV (pG v0 G.c.toCls G.R (yc G) r (pR v7)))
 (oO (oV (pz (pJ U2 (qR v7 v5 (PR (oZ u v8 rE) oQ v8)))))))
 pb)
 (oO (oV (pz (qR U2 v7 v5)))))))))))),?_⟩)
 rintro ds M Q ⟨A,V,l,c,wd,rfl,rd,wf,ha,ho,q⟩
 have hz:=dN;refine⟨A,V,l,FR wd,rfl,rd,λr M1 s1 lr=>?_⟩;refine⟨oK rfl,λr0 Y3=>?_⟩;have t2:=qa.new (c:=.lst []) Y3;have Yz:=t2.lst lr;refine i' (Rv Yz oW) ?_;have s2:=s1.trans t2;generalize oX M1 r0 (.lst [])=M2 at s2 Yz ⊢;clear t2 lr Y3 s1;refine qm (c:=((Kh V (FR wd)).map λn=>D.int (n:Nat)).isEmpty) (λ_=>⟨M2,.refl,(q M2 s2).1⟩) (λg=>?_);have gne:Kh V (FR wd)≠[]:=λz=>g (by rw[z];rfl);obtain⟨hp,i,hi,ei⟩:=tQ (λn:Nat=>D.int (n:Nat)) gne c 40692;obtain⟨cv,hc,hs⟩:=QT hi;have XZ:=rd.sub s2;obtain⟨k,ek,ca⟩:=XZ.call hc;have ca0:=ca;obtain⟨ad,md,h1,h2,h3,h4,_⟩:=ca0;have WS:=wf.ok i cv hc;refine i' Yz ⟨c,_,_,rfl,hp,i' Yz (i' ei ?_)⟩;refine oP XZ.bd.at_ (i' rfl (i' rfl (i' XZ.bd.ca (i' (qP ek) ?_))));refine⟨_,k,cv,rfl,ca,ha cv (qB hc),λr3 M3 s3 lr3=>?_⟩;have Wy:=s3 _ _ h1;have q3:=λM' (s:qa M3 M')=>q M' (s2.trans (s3.trans s));have Yi:=XZ.sub s3;have Yu:=s3.lst h3;clear q Yz s2 h1 h2 h3 h4 ca;rcases ho with rfl|rfl|rfl|rfl|rfl|rfl
 .
  refine oP Yi.bd.at_ (i' rfl (i' rfl (i' Yi.bd.ca (i' (qP ek) (oP Wy (i' rfl (i' Yu λr4 hr4=>?_)))))));obtain⟨VT,x,hx,ex⟩:=tQ D.str (Tf WS hs) c 742938285;refine i' oW ⟨c,_,_,rfl,VT,i' oW (i' ex ?_)⟩;exact⟨oK rfl,_,.refl,(q3 _ (.new hr4)).2 (.num "answer" x [(i:Nat)]) (.inl ⟨.inl rfl,rfl⟩)⟩
 .
  obtain⟨VT,x,hx,ex⟩:=tQ D.str (C9 WS (λz=>by rw[z]at hs;exact absurd hs (by decide))) c 742938285;refine i' lr3 ⟨c,_,_,rfl,VT,i' lr3 (i' ex ?_)⟩;exact⟨oK rfl,_,.refl,(q3 _ .refl).2 (.num "hang" x [(i:Nat)]) (.inl ⟨.inr (.inl rfl),rfl⟩)⟩
 .
  obtain⟨VT,x,hx,ex⟩:=tQ D.str (C9 WS (λz=>by rw[z]at hs;exact absurd hs (by decide))) c 742938285;refine i' lr3 ⟨c,_,_,rfl,VT,i' lr3 (i' ex ?_)⟩;exact⟨oK rfl,_,.refl,(q3 _ .refl).2 (.num "hold" x [(i:Nat)]) (.inl ⟨.inr (.inr (.inl rfl)),rfl⟩)⟩
 .
  obtain⟨y,hy⟩:=IB WS (dg.mp hs);refine oP Yi.bd.at_ (i' rfl (i' rfl (i' Yi.bd.ca (i' (qP ek) (oP Wy (i' rfl ⟨oK rfl,λr4 hr4=>?_⟩))))));rw[show FC cv.hd=.str y by rw[hy];rfl];obtain⟨VT,x,hx,ex⟩:=tQ D.str (fC y []) c 742938285;refine i' oW ⟨c,_,_,rfl,VT,i' oW (i' ex ?_)⟩;exact⟨oK rfl,_,.refl,(q3 _ (.new hr4)).2 (.num "back" x [(i:Nat)]) (.inl ⟨.inr (.inr (.inr rfl)),rfl⟩)⟩
 all_goals
  obtain⟨y,hy⟩:=IB WS (dg.mp hs);refine oP Yi.bd.at_ (i' rfl (i' rfl (i' Yi.bd.ca (i' (qP ek) (oP Wy (i' rfl ⟨oK rfl,λr4 hr4=>?_⟩))))));rw[show FC cv.hd=.str y by rw[hy];rfl];obtain⟨VT,x,hx,ex⟩:=tQ D.str (fC y []) c 742938285;refine i' oW ⟨c,_,_,rfl,VT,i' oW (i' ex ?_)⟩;have t4:=qa.new (c:=.lst [D.str y]) hr4;refine oP (t4 _ _ Yi.bd.at_) ⟨rfl,_,⟨rfl,rfl⟩,A,V,x,rfl,Yi.bd.sub t4,Yi.k,?_⟩;unfold zR;cases vi V x with
  | none=>first|exact⟨oK rfl,_,.refl,(q3 _ t4).2 (.num "hand" x [(i:Nat),(0:Nat)]) (.inr ⟨.inl rfl,rfl⟩)⟩|exact⟨oK rfl,_,.refl,(q3 _ t4).2 (.num "join" x [(i:Nat),(0:Nat)]) (.inr ⟨.inr rfl,rfl⟩)⟩
  | some j=>first|exact⟨oK rfl,_,.refl,(q3 _ t4).2 (.num "hand" x [(i:Nat),(j:Nat)]) (.inr ⟨.inl rfl,rfl⟩)⟩|exact⟨oK rfl,_,.refl,(q3 _ t4).2 (.num "join" x [(i:Nat),(j:Nat)]) (.inr ⟨.inr rfl,rfl⟩)⟩
def Ir:qN:=λds M Q=>HL λc o n own nm m=>ds=[.int c,.ref o,.ref n,.int ((m:Nat):Int)]/\oy M o=some (List.map D.str own)/\oy M n=some (List.map D.str nm)/\own.length<=100/\nm.length<=100/\m<=1000000/\∀M' (e:tN),qa M M'->e.m8->Q e.d M'
def K3(a:Ad):qN:=λds M Q=>RV λA V l c o n own nm=>ds=[.ref A.b,.int c,.ref o,.ref n]/\Rd a M A V l/\WF l V/\(∀k∈V.calls,k.at_.length<=100)/\oy M o=some (List.map D.str own)/\oy M n=some (List.map D.str nm)/\own≠[]/\nm≠[]/\own.length<=100/\nm.length<=100/\∀M' (e:tN),qa M M'->e.m8->Q e.d M'
def Ie{α:Type}(f:α->D){xs:List α}(h:xs≠[]){m:Int}(hm:m=(xs.length:Nat))(c k:Int):(0:Int)<m/\∃x∈xs,vM (xs.map f) (draw c k m)=some (f x):=by have:=tQ f h c k;rw[cR,<-hm]at this;exact this
def Ol{α:Type}(xs:List α)(x:α):xs++[x]≠[]:=by simp
noncomputable def GT:List Str:=["call","call","call","call","call","answer","answer","answer","answer","answer","hang","hang","hold","hold","hold","back","hand","join","turn","turn","turn"]
theorem Dl(d:D):∀n:Nat,(List.replicate n [d]).flatten=List.replicate n d
 | 0=>rfl
 | n+1=>by rw[eF,fM,Dl d n,eF];rfl
noncomputable def zz:Str:="zzzzzz"
noncomputable def LS(a b:Str)(k m:Int):List tN:=[.call a b,.num "answer" a [k],.num "hang" a [k],.num "hold" a [k],.num "back" a [k],.num "hand" a [k,m],.num "join" a [k,m],.turn,.sw true k,.sw false k]
def LR{a b:Str}{k m:Int}{e:tN}(h:e∈LS a b k m):e.m8:=by
 unfold LS at h;simp only[c9,dB,eU]at h;rcases h with rfl|rfl|rfl|rfl|rfl|rfl|rfl|rfl|rfl|rfl
 .trivial
 .exact .inl ⟨.inl rfl,rfl⟩
 .exact .inl ⟨.inr (.inl rfl),rfl⟩
 .exact .inl ⟨.inr (.inr (.inl rfl)),rfl⟩
 .exact .inl ⟨.inr (.inr (.inr rfl)),rfl⟩
 .exact .inr ⟨.inl rfl,rfl⟩
 .exact .inr ⟨.inr rfl,rfl⟩
 .trivial
 .trivial
 .trivial
def NJ(G:Gl K mg a):Fq P w K mg base 2 a.bp Ir:=by
 refine fq G.bp.toDG ui (λr u=>⟨_,(oN (pj 4 ui (pf (pH U2 (qA (pR oR))) (o9 (qo G) r G.i (qR v0 oQ (pH (pD qc rfl G.g pX (pR U2)) oQ)))))
 (oN (pj 5 ui (pf (pH U2 (qA (pR oR))) (o9 (qo G) r G.i (qR v0 oQ (pH (pD qc rfl G.g pX (pR U2)) oQ)))))
 (oN (pj 6 ui (pH (o9 (qo G) r G.i (qR v0 oQ (pH U3 oQ))) oQ))
 (oN (pj 7 ui (pH (o9 (qo G) r G.i (qR v0 oQ (pH U3 oQ))) oQ))
 (oN (pj 8 ui (qA (pJ (pz (qR oR v4 v5)) (pJ (pz (qR oR v4 v6)) (pJ (pz (qR oR v4 v6)) (qR (pz (qR oR v4 v6)) (pz (qR oR v4 v6)) (pz (pJ oR (qR v4 v6 v7)))))))))
 (oO (oV (pf (pH v8 (qA (pJ (pz (pJ oR (qR v4 v6 v7))) (qR (pz (pR oR)) (pz (rA oR v6)) (pz (rA oR v6)))))) (o9 (qo G) r G.i (qR v0 oQ oQ)))))))))),?_⟩)
 rintro ds M Q ⟨c,o,n,own,nm,m,rfl,ho,hn,ol,nl,ml,q⟩
 have hz:=dN;have add:∀{M1:Mp} {p:Addr} {xs:List Str} (f:Int) (nx:DK),qa M M1->oy M1 p=some (xs.map D.str)->xs.length<=100->(∀x M',qa M M'->nx (.str x) M')->∀r1,M1 r1=none->(oy (oX M1 r1 (.lst [D.str zz])) p).elim False λi=>(oy (oX M1 r1 (.lst [D.str zz])) r1).elim False λj=>i.length+j.length<=sizeLine/\∀r2,oX M1 r1 (.lst [D.str zz]) r2=none->(oy (oX (oX M1 r1 (.lst [D.str zz])) r2 (.lst (i++j))) p).elim False λys=>HC [.int c,.int f,.int ((ys.length:Nat)+1)] (oX (oX M1 r1 (.lst [D.str zz])) r2 (.lst (i++j))) λy M2=>match y with
  | .int n=>(oy M2 r2).elim False λzs=>(vM zs n).elim False λd=>nx d M2
  | _=>False:=λ{M1 p xs} f nx s hx lx VY r1 Wz=>by
  have t1:=qa.new (c:=.lst [D.str zz]) Wz;refine i' (t1.lst hx) (i' oW ⟨by rw[cR];show xs.length+1<=sizeLine;omega,λr2 Yf=>?_⟩);have t2:=qa.new (c:=.lst (xs.map D.str++[D.str zz])) Yf;obtain⟨hp,x,_,ex⟩:=Ie D.str (Ol xs zz) (m:=((xs.map D.str).length:Nat)+1) (by rw[cR,cU];rfl) c f;rw[dJ]at ex;exact i' ((t1.trans t2).lst hx) ⟨c,f,_,rfl,hp,i' oW (i' ex (VY x _ (s.trans (t1.trans t2))))⟩
 refine⟨oK rfl,add 16807 _ .refl hn nl λx M1 s1=>⟨oK rfl,add 39373 _ s1 (s1.lst hn) nl λy M2 s2=>?_⟩⟩;refine⟨c,_,_,rfl,by show(0:Int)<(m:Nat)+2;omega,⟨c,_,_,rfl,by show(0:Int)<(m:Nat)+2;omega,?_⟩⟩;generalize draw c 69621 ((m:Nat)+2) - 1=k0;refine⟨oK rfl,oK rfl,oK rfl,oK rfl,oK rfl,oK rfl,oK rfl,λr8 hr8=>⟨oK rfl,oK rfl,oK rfl,oK rfl,oK rfl,λr9 hr9=>?_⟩⟩;have t8:=qa.new (c:=.lst (((LS x y k0 (draw c 22695477 ((m:Nat)+2) - 1)).take 6).map tN.d)) hr8;have t9:=qa.new (c:=.lst (((LS x y k0 (draw c 22695477 ((m:Nat)+2) - 1)).drop 6).map tN.d)) hr9;refine i' (t9.lst oW) (i' oW ⟨by show 6+4<=sizeLine;omega,λr10 hr10=>?_⟩);obtain⟨hp,e,he,ee⟩:=Ie tN.d (xs:=LS x y k0 (draw c 22695477 ((m:Nat)+2) - 1)) (fC _ _) (m:=10) rfl c 1664525;exact⟨c,_,_,rfl,hp,i' oW (i' ee ⟨_,.refl,q _ e (s2.trans (t8.trans (t9.trans (.new hr10)))) (LR he)⟩)⟩
def KG(G:Gl K mg a):Fq P w K mg base 5 a.bq (K3 a):=by
 refine fq G.bq.toDG qW (λr u=>⟨_,(oN (pj 4 qW (pH (pH (pH (pH (pH (BN (qA (pR oR)) oQ) (BN (qA (pR oR)) oQ)) (BN (qA (pR oR)) oQ)) (BN (qA (pR oR)) oQ)) (qA (qR oR oR oR))) (BN (qA (pR oR)) oQ)))
 (oN (pj 4 qW (pf v4 (o9 (qo G) r G.i (qR U1 oQ (pD qc rfl G.g pX (pR v4))))))
 (oN (pj 5 qW (pz (pJ oR (qR oR oR oR))))
 (oN (pA (oZ u v4 oR)
 (oO (pj 5 qW (pz (rA oR oR))))
 pb)
 (oN (pA (oZ u v4 oR)
 (oO (pj 5 qW (pz (pR oR))))
 pb)
 (oN (pA (W3.b3 (xT (oZ u v4 oR) (xT (oZ u v4 oR) (xt (oZ u v4 oR)))))
 (oO (pj 5 qW (pz (pR oR))))
 pb)
 (oN (pA (oZ u v4 oR)
 (oO (oV (pz (pR oR))))
 pb)
 (oN (pA (oZ u (o9 (qo G) r G.i (qR U1 oQ oQ)) oQ)
 (oO (oV (o9 (NJ G) r G.bp (pJ U1 (qR U2 U3 (pD qc rfl G.g pX (pR (oU v0))))))))
 pb)
 (oN (pj 6 qW rE)
 (oN (pA (oZ u v4 oR)
 (oO (pj 6 qW (o9 (Ja G) r G.bo (pJ v0 (qR U1 v4 v5)))))
 pb)
 (oN (pA (oZ u v6 rE)
 (oN (pj 7 qW (pf U2 (o9 (qo G) r G.i (qR U1 oQ (pD qc rfl G.g pX (pR U2))))))
 (oO (pj 6 qW (pz (qR oR v7 (pf U3 (o9 (qo G) r G.i (qR U1 oQ (pD qc rfl G.g pX (pR U3))))))))))
 pb)
 (oO (oV v6))))))))))))),?_⟩)
 rintro ds M Q ⟨A,V,l,c,o,n,own,nm,rfl,rd,wf,ha,ho,hn,one,nne,ol,nl,q⟩
 have hz:=dN;refine R4 (t:=F0 _ _) (λδ M'=>qa M M'/\∃r,oy M' r=some (GT.map D.str)/\δ=[some (.ref A.b),some (.int c),some (.ref o),some (.ref n),some (.ref r),none,none,none]) (λnx h=>?_) ?_
 .have XJ:∀{N:Mp} {δ:uJ} (w0:Str) (m:Int) (nx:DK),qa M N->(0<=m/\m<=10)->(∀r N',qa M N'->qa N N'->oy N' r=some ((List.replicate m.toNat w0).map D.str)->nx (.ref r) N')->Sl (SU (uL (L3.c3 (.str w0)) xm)) (L3.c3 (.int m)) δ N nx:=λ{N δ} w0 m nx sn hm VY=>by refine⟨oK rfl,λr1 Wz=>?_⟩;refine i' oW ⟨⟨by omega,by omega,by show 1<=1000;decide⟩,λr2 Yf=>?_⟩;have t:=(qa.new (c:=.lst [D.str w0]) Wz).trans (qa.new (c:=.lst (List.replicate m.toNat [D.str w0]).flatten) Yf);refine VY r2 _ (sn.trans t) t (oW.trans (eQ some ?_));rw[List.map_replicate];exact Dl _ _
  have WW:∀{N:Mp} {p r:Addr} {xs ys:List Str} (nx:DK),qa M N->oy N p=some (xs.map D.str)->oy N r=some (ys.map D.str)->xs.length+ys.length<=100->(∀r N',qa M N'->oy N' r=some ((xs++ys).map D.str)->nx (.ref r) N')->T4 .Add (.ref p) (.ref r) N nx:=λ{N p r xs ys} nx sn hx hy hl VY=>by refine i' hx (i' hy ⟨by rw[cR,cR];omega,λr2 Yf=>?_⟩);refine VY r2 _ (sn.trans (.new Yf)) (oW.trans (eQ some ?_));rw[dJ]
  dsimp only[F0,o3];refine XJ "call" 5 _ .refl (by decide) λp1 N1 s1 _ l1=>XJ "answer" 5 _ s1 (by decide) λq2 N2 s2 t2 l2=>WW _ s2 (t2.lst l1) l2 (by decide) λp2 N3 s3 l3=>XJ "hang" 2 _ s3 (by decide) λq4 N4 s4 t4 l4=>WW _ s4 (t4.lst l3) l4 (by decide) λp5 N5 s5 l5=>XJ "hold" 3 _ s5 (by decide) λq6 N6 s6 t6 l6=>WW _ s6 (t6.lst l5) l6 (by decide) λp7 N7 s7 l7=>⟨oK rfl,λr8 hr8=>?_⟩;have t8:=qa.new (c:=.lst ((["back","hand","join"]:List Str).map D.str)) hr8;exact WW (ys:=["back","hand","join"]) _ (s7.trans t8) (t8.lst l7) oW (by decide) λp9 N9 s9 l9=>XJ "turn" 3 _ s9 (by decide) λq10 N10 s10 t10 l10=>WW _ s10 (t10.lst l9) l10 (by decide) λp11 N11 s11 l11=>h _ _ ⟨s11,p11,l11,rfl⟩
 rintro δ M1 ⟨s1,r,lr,rfl⟩
 have s1n:=s1.lst hn;have s1o:=s1.lst ho;obtain⟨hp,w0,hw,ew⟩:=tQ D.str (show GT≠[]from fC _ _) c 48271;refine i' lr ⟨c,_,_,rfl,hp,i' lr (i' ew ?_)⟩;obtain⟨Xm,x1,hx1,ex1⟩:=tQ D.str one c 16807;obtain⟨VT,x2,hx2,ex2⟩:=tQ D.str nne c 39373;have XH:=rd.sub s1;have lc:((A.cs.map λk=>D.ref k.p).length:Int)=(V.calls.length:Nat):=by rw[cR,rd.bd.len]
 clear lr hp ew;have hw:w0="call"\/w0="turn"\/P5 w0:=by unfold GT at hw;simp only[c9,dB,eU]at hw;unfold P5;rcases hw with h|h|h|h|h|h|h|h|h|h|h|h|h|h|h|h|h|h|h|h|h<;>simp[h]
 have VP:∀M' (e:tN),qa M1 M'->e.m8->∃VQ,qa VQ M'/\Q e.d VQ:=λM' e s f=>⟨M',.refl,q M' e (s1.trans s) f⟩;rcases hw with rfl|rfl|hw
 .refine⟨oK rfl,c,_,_,rfl,by decide,qm (c:=draw c 950706376 9==0) (λ_=>oP XH.bd.at_ (i' rfl (i' XH.bd.ca ?_))) (λ_=>?_)⟩
  .rw[lc];exact⟨c,o,n,own,nm,V.calls.length,rfl,s1o,s1n,ol,nl,rd.k,VP⟩
  exact i' s1o ⟨c,_,_,rfl,Xm,i' s1o (i' ex1 (i' s1n ⟨c,_,_,rfl,VT,i' s1n (i' ex2 ⟨oK rfl,VP M1 (.call x1 x2) .refl trivial⟩)⟩))⟩
 .exact⟨oK rfl,oK rfl,VP M1 .turn .refl trivial⟩
 have lany:Ir [.int c,.ref o,.ref n,.int ((V.calls.length:Nat):Int)] M1 λd M'=>∃VQ,qa VQ M'/\Q d VQ:=⟨c,o,n,own,nm,V.calls.length,rfl,s1o,s1n,ol,nl,rd.k,VP⟩;have hw':=hw;rcases hw with rfl|rfl|rfl|rfl|rfl|rfl
 all_goals
  first
   | refine⟨oK rfl,oK rfl,c,_,_,rfl,by decide,qm (c:=draw c 950706376 9==0) (λ_=>oP XH.bd.at_ (i' rfl (i' XH.bd.ca ?_))) (λ_=>⟨A,V,l,c,_,rfl,XH,wf,ha,hw',λM' s=>⟨?_,λe f=>?_⟩⟩)⟩
   | refine⟨oK rfl,c,_,_,rfl,by decide,qm (c:=draw c 950706376 9==0) (λ_=>oP XH.bd.at_ (i' rfl (i' XH.bd.ca ?_))) (λ_=>⟨A,V,l,c,_,rfl,XH,wf,ha,hw',λM' s=>⟨?_,λe f=>?_⟩⟩)⟩
  .rw[lc];exact lany
  .exact i' (s.lst s1o) ⟨c,_,_,rfl,Xm,i' (s.lst s1o) (i' ex1 (i' (s.lst s1n) ⟨c,_,_,rfl,VT,i' (s.lst s1n) (i' ex2 ⟨oK rfl,VP M' (.call x1 x2) s trivial⟩)⟩))⟩
  .cases e with
   | call y z=>exact VP M' (.call y z) s f
   | num v y ns=>exact VP M' (.num v y ns) s f
   | turn=>exact VP M' .turn s f
   | sw b i=>exact VP M' (.sw b i) s f
def JK{A A':sX}{M M':Mp}{x:Addr}{c:uo}(st:qD A M A' M')(h:x∉A.foot)(hx:M x=some c):x∉A'.foot:=λz=>by
 rcases st.2.1 x z with y|y
 .exact h y
 .rw[hx]at y;cases y
noncomputable def LW(A:sX)(M:Mp):Mp:=λx=>if x∈A.foot then none else M x
def D8{A:sX}{M:Mp}{x:Addr}{ds:List D}(h:oy M x=some ds)(n:x∉A.foot):oy (LW A M) x=some ds:=se (by unfold LW;rw[cW n];exact pS h)
structure Lp(a:Ad)(M0 N M:Mp)(b:Addr)(A:sX)(V:qe)(l:oY)(m:Nat):Prop where
 cu:ub a M0 M b A V l (1+m) (3+2200*m)
 wf:WF l V
 ps:V.ps.length<=3
 own:∀x c,N x=some c->M x=some c/\x∉A.foot
variable {N:Mp}{m:Nat}
def Lp.s(g:Lp a M0 N M b A V l m):qa N M:=λx c e=>(g.own x c e).1
def Lp.sub(g:Lp a M0 N M b A V l m)(s:qa M M'):Lp a M0 N M' b A V l m:=⟨g.cu.sub s,g.wf,g.ps,λx c e=>⟨s x c (g.own x c e).1,(g.own x c e).2⟩⟩
def Lp.mV(g:Lp a M0 N M b A V l m):Lp a M0 N M b A V l (m+1):=⟨g.cu.mono (by omega) (by omega),g.wf,g.ps,g.own⟩
def Lp.after{e:tN}(g:Lp a M0 N M b A V l m)(hm:m<=63)(f:e.m8)(hr:wG l V e=none)(cu:ub a M0 M' b A' (qr V (xp l V e)) l (1+m+1) (3+2200*m+40+33*(1+m)))(st:qD A M A' M'):Lp a M0 N M' b A' (qr V (xp l V e)) l (m+1):=⟨cu.mono (by omega) (by omega),Su g.cu.ok g.wf f hr,by rw[TF g.cu.ok g.wf f hr];exact g.ps,λx c h=>⟨st.1 x c (g.own x c h).2 (g.own x c h).1,JK st (g.own x c h).2 (g.own x c h).1⟩⟩
def Lp.rd(g:Lp a M0 N M b A V l m)(hm:m<=64):Rd a M A V l:=g.cu.rd (by omega) g.wf
def Lp.mk0(cu:ub a M0 M b A V l 1 3)(wf:WF l V)(ps:V.ps.length<=3):Lp a M0 (LW A M) M b A V l 0:=⟨cu,wf,ps,λx c e=>by
 unfold LW at e;split at e
 .cases e
 .rename_i h;exact⟨e,h⟩⟩
def Lp.start{a:Ad}{M0 M:Mp}{b p:Addr}{A:sX}{h:Int}{l:oY}(ok:rg l)(pl:sE a M0 p l)(hb:M0 b=none)(eb:A.b=b)(kp:rD b (oX M0 b (.ins a.c [])) M)(fr:∀x∈A.foot,x=b\/oX M0 b (.ins a.c []) x=none)(bd:pk a M A (V0 p h l [])):ub a M0 M b A (V0 p h l []) l 1 3/\WF l (V0 p h l [])/\(V0 p h l []).ps.length<=3:=by
 have t:=qa.new (c:=.ins a.c []) hb;refine⟨⟨bd,pl,λx c e=>kp x c (Pb e hb) (t x c e),λx hx=>?_,eb,⟨eZ _,eZ _,eZ _,Dj ok,λk hk=>by cases hk⟩,ok,cR ..⟩,Uu ok,Dj ok⟩;rcases fr x hx with z|z
 .rw[z];exact hb
 .exact t.none z
def Hk{ns:List Int}{m:Int}(h2:2<=m)(h:m<=100):2<=(uK ns m).mw.length:=by have:=(vZ (s:=cell ns 0) h2 h).2;show 2<=((List.range (rb (cell ns 0) m)).map _).length;rw[cR,eD];exact this
def QW(a:Ad):qN:=λds M Q=>Bj λns m=>ds=[.rl (List.map D.int ns),.int m]/\2<=m/\m<=8/\∀M0 M' A p h,qa M M0->ub a M0 M' A.b A (V0 p h (uK ns m) []) (uK ns m) 1 3->WF (uK ns m) (V0 p h (uK ns m) [])->(V0 p h (uK ns m) []).ps.length<=3->Q (.ref A.b) M'
def JA(a:Ad):qN:=λds M Q=>Cv λA V l=>ds=[.ref (sX.b A)]/\Rd a M A V l/\∀M' r ro rn,qa M M'->M ro=none->M rn=none->oy M' r=some [.ref ro,.ref rn]->oy M' ro=some (l.pn.map D.str)->oy M' rn=some (l.nm.map D.str)->Q (.ref r) M'
def RD(G:Gl K mg a):Fq P w K mg base 10 a.br (QW a):=by
 refine fq G.br.toDG vg (λr u=>⟨_,(oN (Gi (o9 (Mv G) r G.bl (rA v0 U1)) (uj (n:=3) rfl (pQ (qJ 2 vg) (pQ (qJ 3 vg) (pQ (qJ 4 vg) sr)))))
 (oO (oV (uP (Lx G) r G.c G.b5 G.aj.toDG (rA (uP (Ot G) r G.h G.b6 G.ak.toDG (qR U2 U3 v4)) (o9 (qo G) r G.i (qR (o9 (Kr G) r G.O (rA v0 oQ)) oQ oQ))))))),?_⟩)
 rintro ds M Q ⟨ns,m,rfl,h2,h8,q⟩
 have ok:rg (uK ns m):=Pj h2 h8;refine⟨ns,m,rfl,h2,h8,λr1 r2 r3 M1 s1 e1 e2 e3=>⟨rfl,?_⟩⟩;generalize uK ns m=l at e1 e2 e3 ok q;refine λp hp=>?_;have t2:=qa.new (c:=.ins a.h []) hp;refine⟨p,r1,r2,r3,l,rfl,pC,t2.lst e1,t2.lst e2,t2.lst e3,ok,λM2 kp pa _=>⟨rfl,?_⟩⟩;have s2:qa M1 M2:=λx c e=>kp x c (Pb e hp) (t2 x c e);refine⟨ns,0,rfl,_,_,_,rfl,by decide,λb hb=>?_⟩;have t5:=qa.new (c:=.ins a.c []) hb;have npb:p≠b:=λz=>by obtain⟨ph,gr,ws,W7,pr,gd,rs,i1,_⟩:=pa;rw[z,hb]at i1;cases i1
 refine⟨b,p,_,[],l,rfl,pC,pa.sub t5,ok,npb,(λx hx=>by cases hx),λM5 A eb kp fr bd=>⟨rfl,M5,.refl,?_⟩⟩;obtain⟨cu,wf,ps⟩:=Lp.start ok pa hb eb kp fr bd;subst eb;exact q M2 M5 A p _ (s1.trans s2) cu wf ps
def I9(G:Gl K mg a):Fq P w K mg base 1 a.bs (JA a):=by
 refine fq G.bs.toDG y8 (λr u=>⟨_,(oN (uf (i:=1) y8.nd rfl (Or.inl rfl) rfl (wC (ix:=[none]) (N':=["_law_phone"])) (qk (oU (oU v0))) (qg 0) rh (pf v0 oQ))
 (oO (oV (qA (rA U1 (pH U1 (ql rfl (wC (ix:=[none]) (N':=["_law_group"])) (qk (oU (oU v0))) (qg 0) rh (pf v0 oQ)))))))),?_⟩)
 rintro ds M Q ⟨A,V,l,rfl,rd,q⟩
 have hz:=dN;have p8:=rd.ok.p8;have g3:=rd.ok.g3;have pl:l.pn.length=l.mw.length:=cR ..;obtain⟨ph,gr,ws,W7,pr,gd,rs,i1,i2,i3,_⟩:=rd.pl;refine oP rd.bd.at_ (i' rfl (oP i1 (i' rfl (i' i2 (qH (f:=Ak) i2 _ [] _ (by rw[cR];simp only[dD];omega) (λd hd k hk=>?_) λro hro=>?_)))))
 .obtain⟨x,_,rfl⟩:=dz.mp hd;exact hk
 rw[dW,vP];have t3:=qa.new (c:=.lst ((l.mw.map (·.1)).map D.str)) hro;have lo:oy (oX M ro (.lst ((l.mw.map (·.1)).map D.str))) ro=some (l.pn.map D.str):=oW;show zm (oX M ro (.lst ((l.mw.map (·.1)).map D.str)) A.b) _;generalize oX M ro (.lst ((l.mw.map (·.1)).map D.str))=M3 at lo t3 ⊢;refine oP (t3 _ _ rd.bd.at_) (i' rfl (oP (t3 _ _ i1) (i' rfl (i' (t3.lst i3) (qH (f:=Ak) (t3.lst i3) _ [] _ (by rw[cR];simp only[dD];omega) (λd hd k hk=>?_) λp hp=>?_)))))
 .obtain⟨x,_,rfl⟩:=dz.mp hd;exact hk
 rw[dW,vY];have t:=qa.new (c:=.lst ((l.groups.map (·.1)).map D.str)) hp;refine i' (t.lst lo) (i' oW ⟨by rw[cR,cR,cR];omega,λrn hrn=>⟨oK rfl,λr hr=>?_⟩⟩);have t2:=t.trans (.new (c:=.lst (l.pn.map D.str++(l.groups.map (·.1)).map D.str)) hrn);have t3':=t2.trans (.new (c:=.lst [D.ref ro,.ref rn]) hr);refine⟨_,.refl,q _ r ro rn (t3.trans t3') hro ((t3.trans t).none hrn) oW (t3'.lst lo) ((qa.new hr).lst ?_)⟩;rw[oW,<-dJ];rfl
def Ro(a:Ad):qN:=λds M Q=>zZ λL k c x=>ds=[.ref (qS.p k),.str x]/\rq a M L k c/\Lv false c/\Q (.bl (c.hasB x)) M
def OG(a:Ad):qN:=λds M Q=>HL λA V l c r xs=>ds=[.ref (sX.b A),.str c,.ref r]/\Rd a M A V l/\WF l V/\oy M r=some (List.map D.str xs)/\xs.length<=100/\(∀x∈xs,x∈l.pn)/\∀q M',qa M M'->M q=none->oy M' q=some ((xs.filter λx=>!(x==c)&&qU l V x).map D.str)->Q (.ref q) M'
def Lb(a:Ad):qN:=λds M Q=>zZ λA V l c=>ds=[.ref (sX.b A),.str c]/\Rd a M A V l/\WF l V/\Q (.bl true) M
def JD{l:oY}(ok:rg l){v:tI}(hv:v∈l.mw):l.mO v.1=some v:=by
 obtain⟨u,hu⟩:=wj (dz.mpr ⟨v,hv,rfl⟩:v.1∈l.pn);rw[hu];unfold oY.mO at hu;have u1:u.1=v.1:=by simpa using iQ hu
 obtain⟨i,hi,ei⟩:=fE (fD hu);obtain⟨j,hj,ej⟩:=fE hv;have:=Ek (f:=λp:tI=>p.1) (fN.mp ok.nd).1 (by rw[cT hi,ei]) (by rw[cT hj,ej]) u1;subst this;rw[<-ei,<-ej]
def Eh{α:Type}{f:α->D}{xs:List α}{pre post:List D}{d:D}(e:pre++d::post=xs.map f):∃x,xs[pre.length]?=some x/\d=f x/\xs.take (pre.length+1)=xs.take pre.length++[x]:=by
 have h:(xs.map f)[pre.length]?=some d:=by rw[<-e];simp
 rw[dA]at h;cases hx:xs[pre.length]? with
 | none=>rw[hx]at h;cases h
 | some x=>rw[hx]at h;refine⟨x,rfl,(df h).symm,?_⟩;rw[gH,hx];rfl
def uk(M:Mp)(acc:List D)(xs:List (Str×List Str)):Prop:=acc.length=xs.length/\∀(i:Nat) x,xs[i]?=some x->∃p,acc[i]?=some (.tup [.str x.1,.ref p])/\oy M p=some (x.2.map D.str)
def uk.sub{M M':Mp}{acc:List D}{xs:List (Str×List Str)}(h:uk M acc xs)(s:qa M M'):uk M' acc xs:=⟨h.1,λi x e=>by
 obtain⟨p,e1,e2⟩:=h.2 i x e;exact⟨p,e1,s.lst e2⟩⟩
def uk.app{M:Mp}{a1 a2:List D}{x1 x2:List (Str×List Str)}(h1:uk M a1 x1)(h2:uk M a2 x2):uk M (a1++a2) (x1++x2):=⟨by rw[cU,cU,h1.1,h2.1],λi x e=>by
 by_cases hi:i<x1.length
 .rw[eI hi]at e;rw[eI (by rw[h1.1];exact hi)];exact h1.2 i x e
 .rw[eE (by omega)]at e;rw[eE (by rw[h1.1];omega),h1.1];exact h2.2 _ x e⟩
def uk.one{M:Mp}{z:Str}{p:Addr}{xs:List Str}(h:oy M p=some (xs.map D.str)):uk M [.tup [.str z,.ref p]] [(z,xs)]:=⟨rfl,λi x e=>by
 cases i with
 | zero=>cases e;exact⟨p,rfl,h⟩
 | succ=>cases e⟩
def NU{M:Mp}{p q:Addr}{ss:List Str}(h1:oy M p=some (ss.map D.str))(h2:oy M q=some (ss.map D.str)):yw M 9 (.ref p) (.ref q)=some true:=Jt h1 h2 λd hd=>by obtain⟨v,_,rfl⟩:=dz.mp hd;exact FP 7 _ rfl
def P'{M:Mp}{x:Addr}{ds:List D}(h:oy M x=some ds):Vp M (.ref x)=some (.type "list"):=by show G9 (M x)=_;rw[pS h];rfl
def HU{M M':Mp}{p:Addr}{c:uo}(hp:M p=none)(s:qa M M'):qa M (oX M' p c):=λx d e=>rD.put x d (Pb e hp) (s x d e)
def Qa(G:Gl K mg a):Fq P w K mg base 1 a.bu (Ro a):=by
 refine fq G.bu.toDG JE (λr u=>⟨_,(oN (pA (oZ u (oU v0) oR)
 (oO (oV (FZ (pN u (oU v0) U1) (rY (pN u U1 (oU v0))))))
 pb)
 (oN (pA (oZ u (oU v0) oR)
 (oO (oV (pN u (oU v0) U1)))
 pb)
 (oO (oV (pN u U1 (oU v0)))))),?_⟩)
 rintro ds M Q ⟨L,k,c,x,rfl,⟨ad,md,h1,h2,h3,h4,_⟩,st,q⟩
 unfold oS.hasB at q;refine oP h1 (i' rfl ?_);refine qm (c:=c.st=="rings") (λg=>?_) (λg=>?_)
 .rw[cY g]at q;refine oP h1 (i' rfl (qm (c:=c.cr==x) (λg2=>?_) (λg2=>?_)))
  .rw[show(x==c.cr)=true by rw[eq_of_beq g2];exact fg _]at q;exact⟨M,.refl,q⟩
  .rw[show(x==c.cr)=false from fX.mpr λz=>g2 (by rw[z];exact fg _),fF]at q;exact oP h1 (i' rfl (zO h3 ⟨M,.refl,q⟩))
 .rw[cW g]at q;refine oP h1 (i' rfl ?_);refine qm (c:=c.st=="waits") (λg2=>?_) (λg2=>?_)
  .rw[cY g2,show(x==c.cr)=(c.cr==x)from km ..]at q;exact oP h1 (i' rfl ⟨M,.refl,q⟩)
  .rw[cW g2]at q;refine oP h1 (i' rfl (zO h4 ⟨M,.refl,?_⟩));rcases st with⟨e,_⟩|⟨_,⟨e,_⟩|⟨e,_⟩|⟨_,e,_⟩|⟨e,e2,_⟩⟩
   .exact absurd (by rw[e];rfl) g
   .exact absurd (by rw[e];rfl) g2
   .rw[e]at q;exact q
   .rw[e]at q;exact q
   .rw[e2];rw[e,e2]at q;exact q
def Oe(G:Gl K mg a):Fq P w K mg base 2 a.bv (OG a):=by
 refine fq G.bv.toDG uU (λr u=>⟨_,(oN (pj 3 uU (qA sd))
 (oN (tZ eV rfl (qk (oU (oU v0))) (uj (n:=3) rfl (pQ (qJ 4 uU) (pQ (qJ 5 uU) (pQ (qJ 6 uU) sr))))
 (oO (pA (W3.b3 (xl (oZ u v4 U1) (wm (oZ u (pD qc rfl G.g pX (pR (ql rfl (wC (ix:=[none,some 4]) (N':=["_law_call","_law_phone"])) (qk (oU v0)) (qg 0) (uz (uu (o9 (Qa G) r G.bu (rA v0 U1)))) v0))) v5))))
 (oO (pq (qM U3 (pR v4))))
 pb)))
 (oO (oV (ql rfl (wC (ix:=[none,some 3]) (N':=["_law_phone","_law_due_here"])) (qk U2) (qg 0) (uz (oZ u v0 U1)) v0))))),?_⟩)
 rintro ds M Q ⟨A,V,l,c,r,xs,rfl,rd,wf,lr,hl,hx,q⟩
 have hzz:=dN;have p8:=rd.ok.p8;have Wj:=rd.k;obtain⟨ph,gr,ws,W7,pr,gd,rs,i1,i2,_⟩:=rd.pl;refine⟨oK rfl,λp hp=>?_⟩;have t:=qa.new (c:=.lst []) hp;have lp:oy (oX M p (.lst [])) p=some (([]:List Str).map D.str):=oW;generalize oX M p (.lst [])=M1 at t lp ⊢;dsimp only[sW];refine R4 (t:=SL _ _ _) (λδ M'=>qa M M'/\oy M' p=some ((l.pn.filter λx=>!(x==c)&&qU l V x).map D.str)/\∃y4 y5 y6,δ=[some (.ref A.b),some (.str c),some (.ref r),some (.ref p),y4,y5,y6]) (λnx h=>?_) ?_
 .refine oP (t _ _ rd.bd.at_) (i' rfl (oP (t _ _ i1) (i' rfl (i' (t.lst i2) ?_))));refine uM (l.mw.map qx) (λpre δ M'=>qa M M'/\oy M' p=some ((((l.mw.take pre.length).map (·.1)).filter λx=>!(x==c)&&qU l V x).map D.str)/\∃y4 y5 y6,δ=[some (.ref A.b),some (.str c),some (.ref r),some (.ref p),y4,y5,y6]) (λ_ _ M' j=>j.1.lst i2) _ [] _ _ rfl ⟨t,lp,none,none,none,rfl⟩ ?_ ?_
  rotate_left
  .rintro δ M' ⟨s,lp,y4,y5,y6,rfl⟩
   rw[cR,eW]at lp;exact h _ _ ⟨s,lp,_,_,_,rfl⟩
  rintro pre d post e δ M' ⟨sM,lp,y4,y5,y6,rfl⟩ nx2 VY
  have Wf:=rd.sub sM;obtain⟨v,ev,rfl,et⟩:=Eh e;have pl:pre.length<l.mw.length:=(cV.mp ev).1;rw[cU,dH,et,dJ,gA]at VY;have skip:∀M3,qa M' M3->(!(v.1==c)&&qU l V v.1)=false->nx2 [some (.ref A.b),some (.str c),some (.ref r),some (.ref p),some (.str v.1),some (.int v.2.1),some (.int v.2.2)] M3:=λM3 s3 h=>VY _ _ ⟨sM.trans s3,by
   rw[dR,hU,fS (by rw[h];decide),gk,eM];exact s3.lst lp,_,_,_,rfl⟩
  refine⟨rfl,?_⟩;refine qm (c:=!(v.1==c)) (λh2=>?_) (λh2=>skip _ .refl (by rw[dE.mpr h2];rfl));have ef:qU l V v.1=decide ((tY V v.1:Int)<v.2.1):=by unfold qU;rw[Fp (JD rd.ok (qB ev))]
  refine oP Wf.bd.at_ (i' rfl (i' Wf.bd.ca ?_));refine tK (A.cs.map λk=>D.ref k.p) (λpre acc δ M2=>M'=M2/\acc.length=((V.calls.take pre.length).filter (·.hasB v.1)).length/\∃y,δ=[y,some (.str v.1)]) (λ_ _ _ M' j=>by rw[<-j.1];exact Wf.bd.ca) _ [] [] _ _ rfl ?_ ⟨rfl,rfl,none,rfl⟩ ?_ ?_
  .rw[cR,rd.bd.len];simp only[dD];omega
  .rintro pre d post e acc δ _ ⟨rfl,ha,y,rfl⟩ k k2 hk WK
   obtain⟨ka,c0,e3,e2,rfl,hc,et⟩:=ED Wf.bd e;rw[cU,dH,et,gA]at hk WK;refine⟨_,ka,c0,v.1,rfl,hc,(wf.ok _ c0 e2).sh,?_⟩;refine qm (c:=c0.hasB v.1) (λg=>?_) (λg=>?_)
   .refine hk _ _ _ ⟨rfl,?_,_,rfl⟩;rw[cU,cU,ha,fR (by exact g)];rfl
   .refine WK _ _ ⟨rfl,?_,_,rfl⟩;rw[cU,ha,fS (by exact g)];rfl
  .rintro acc δ _ ⟨rfl,ha,y,rfl⟩ p2 VT
   rw[cR,rd.bd.len,eW]at ha;have ha:acc.length=tY V v.1:=ha;have t2:=qa.new (c:=.lst acc) VT;refine i' oW ?_;rw[ha];refine qm (c:=decide ((tY V v.1:Int)<v.2.1)) (λh3=>?_) (λh3=>skip _ t2 (by rw[ef,dE.mpr h3,Bool.and_false]));refine⟨by show(oy _ p).isSome=true;rw[t2.lst lp];rfl,i' (t2.lst lp) ⟨?_,?_⟩⟩
   .have:=fP (λx=>!(x==c)&&qU l V x) ((l.mw.take pre.length).map (·.1));rw[cR,fB]at this;rw[cR];omega
   .refine VY _ _ ⟨HU hp (sM.trans t2),?_,_,_,_,rfl⟩;rw[dR,hU,fR (by rw[h2,ef,h3];rfl),gk,dJ];exact oW
 clear lp t
 rintro δ M2 ⟨s2,lp,y4,y5,y6,rfl⟩
 refine i' (s2.lst lr) ?_;refine tK (xs.map D.str) (λpre acc δ M3=>M2=M3/\acc=((xs.take pre.length).filter λx=>!(x==c)&&qU l V x).map D.str/\∃y,δ=[y,some (.ref p)]) (λ_ _ _ M' j=>by rw[<-j.1];exact s2.lst lr) _ [] [] _ _ rfl ?_ ⟨rfl,rfl,none,rfl⟩ ?_ ?_
 .rw[cR];simp only[dD];omega
 .rintro pre d post e acc δ _ ⟨rfl,ha,y,rfl⟩ k k2 hk WK
  obtain⟨x,ex,rfl,et⟩:=Eh e;rw[cU,dH,et,gA]at hk WK;have eh:hasS (l.pn.filter λx=>!(x==c)&&qU l V x) x=(!(x==c)&&qU l V x):=by rw[fW,qv,fz];exact⟨λz=>z.2,λz=>⟨hx x (qB ex),z⟩⟩
  refine i' lp ⟨rfl,pW _,?_⟩;show if inD (.str x) ((l.pn.filter λx=>!(x==c)&&qU l V x).map D.str)=true then _ else _
  rw[show inD (.str x) ((l.pn.filter λx=>!(x==c)&&qU l V x).map D.str)=_ from(rM ..).trans eh];refine qm (c:=!(x==c)&&qU l V x) (λg=>?_) (λg=>?_)
  .refine hk _ _ _ ⟨rfl,?_,_,rfl⟩;rw[ha,fR (by exact g),gk,dJ];rfl
  .refine WK _ _ ⟨rfl,?_,_,rfl⟩;rw[ha,fS (by exact g),gk,eM]
 .rintro acc δ _ ⟨rfl,ha,y,rfl⟩ p2 VT
  rw[cR,eW]at ha;subst ha;refine⟨_,.refl,q p2 _ (s2.trans (.new VT)) ?_ oW⟩;cases z:M p2 with
  | none=>rfl
  | some c=>rw[s2 _ _ z]at VT;cases VT
def Fk(G:Gl K mg a):Fq P w K mg base 6 a.ah (Lb a):=by
 refine fq G.ah.toDG rL (λr u=>⟨_,(oN (uf (i:=2) rL.nd rfl (Or.inl rfl) rfl (wC (ix:=[none]) (N':=["_law_phone"])) (qk (oU (oU v0))) (qg 0) rh (pz (rA (pf v0 oQ) (qA (pR (pf v0 oQ))))))
 (oN (pj 2 rL (pH U2 (ql rfl (wC (ix:=[none]) (N':=["_law_group"])) (qk (oU (oU v0))) (qg 0) rh (pz (rA (pf v0 oQ) (pZ sL rfl G.y su (pR (pf v0 oQ))))))))
 (oN (tZ eV rfl (qk U2) (uj (n:=2) rfl (pQ (qJ 3 rL) (pQ (qJ 4 rL) sr)))
 (oN (pj 5 rL (o9 (Oe G) r G.bv (qR v0 U1 v4)))
 (oO (tZ eV rfl (uI rfl G.aa (pR oQ)) (qJ 6 rL)
 (oN (pj 7 rL (pG v0 G.c.toCls G.Q (wZ G) r (rA U1 U3)))
 (oN (pA (W3.b3 (xT (vT (uu (pD Jx rfl G.cA Ct (rA v7 (TB rfl G.y su))))) (xt (oZ u v7 v5))))
 (oO (oV wX))
 pb)
 (oO (pq (qM v7 (pR U1))))))))))
 (oO (oV wX))))),?_⟩)
 .rintro ds M Q ⟨A,V,l,c,rfl,rd,wf,q⟩
  have hzz:=dN;have p8:=rd.ok.p8;have g3:=rd.ok.g3;obtain⟨ph,gr,ws,W7,pr,gd,rs,i1,i2,i3,_⟩:=rd.pl;refine oP rd.bd.at_ (i' rfl (oP i1 (i' rfl (i' i2 ?_))));refine tK (l.mw.map qx) (λpre acc δ M'=>qa M M'/\uk M' acc ((l.mw.take pre.length).map λv=>(v.1,[v.1]))/\∃y,δ=[y]) (λ_ _ _ M' j=>j.1.lst i2) _ [] [] _ _ rfl ?_ ⟨.refl,⟨rfl,λi x e=>by cases e⟩,none,rfl⟩ ?_ ?_
  .rw[cR];simp only[dD];omega
  .rintro pre d post e acc δ M1 ⟨s1,ha,y,rfl⟩ k k2 hk WK
   obtain⟨v,ev,rfl,et⟩:=Eh e;rw[cU,dH,et,dJ]at hk;refine⟨oK rfl,λp hp=>⟨oK rfl,?_⟩⟩;exact hk _ _ _ ⟨s1.trans (.new hp),(ha.sub (.new hp)).app (uk.one (xs:=[v.1]) oW),_,rfl⟩
  rintro Xa δ M1 ⟨s1,ha,y,rfl⟩ p1 Xm
  rw[cR,eW]at ha;have t1:=qa.new (c:=.lst Xa) Xm;have l1:=@oW M1 p1 Xa;have s2:=s1.trans t1;have ha:=ha.sub t1;generalize oX M1 p1 (.lst Xa)=M2 at l1 s2 ha ⊢;clear t1 Xm;refine oP (s2 _ _ rd.bd.at_) (i' rfl (oP (s2 _ _ i1) (i' rfl (i' (s2.lst i3) ?_))));refine tK (l.groups.map qI) (λpre acc δ M'=>qa M2 M'/\uk M' acc ((l.groups.take pre.length).map λv=>(v.1,v.2.2))/\∃y,δ=[y]) (λ_ _ _ M' j=>(s2.trans j.1).lst i3) _ [] [] _ _ rfl ?_ ⟨.refl,⟨rfl,λi x e=>by cases e⟩,none,rfl⟩ ?_ ?_
  .rw[cR];simp only[dD];omega
  .rintro pre d post e acc δ M3 ⟨s3,hb,y,rfl⟩ k k2 hk WK
   obtain⟨v,ev,rfl,et⟩:=Eh e;rw[cU,dH,et,dJ]at hk;refine λp hp=>⟨oK rfl,?_⟩;exact hk _ _ _ ⟨s3.trans (.new hp),(hb.sub (.new hp)).app (uk.one (xs:=v.2.2) oW),_,rfl⟩
  rintro Xb δ M3 ⟨s3,hb,y,rfl⟩ p2 VT
  rw[cR,eW]at hb;have t2:=qa.new (c:=.lst Xb) VT;refine i' (t2.lst (s3.lst l1)) (i' oW ⟨?_,λr hr=>?_⟩)
  .rw[ha.1,hb.1,cR,cR];omega
  have t3:=t2.trans (.new (c:=.lst (Xa++Xb)) hr);have s4:=s2.trans (s3.trans t3);have Yj:=(ha.sub (s3.trans t3)).app (hb.sub t3);have lr:=@oW (oX M3 p2 (.lst Xb)) r (Xa++Xb);generalize oX (oX M3 p2 (.lst Xb)) r (.lst (Xa++Xb))=M4 at s4 Yj lr ⊢;generalize Xa++Xb=acc at Yj lr;clear ha hb t3 t2 VT l1 s3 s2 s1;have rd4:=rd.sub s4;refine i' lr ?_;refine uM acc (λpre δ M'=>qa M4 M'/\∃y3 y4 y5 y6 y7,δ=[some (.ref A.b),some (.str c),some (.ref r),y3,y4,y5,y6,y7]) (λ_ _ M' j=>j.1.lst lr) _ [] _ _ rfl ⟨.refl,none,none,none,none,none,rfl⟩ ?_ ?_
  rotate_left
  .rintro δ M' ⟨s5,y3,y4,y5,y6,y7,rfl⟩
   exact⟨M,s4.trans s5,q⟩
  rintro pre d post e δ M5 ⟨s5,y3,y4,y5,y6,y7,rfl⟩ nx VY
  have ed:acc[pre.length]?=some d:=by rw[<-e];simp
  have VX:pre.length<((l.mw.map λv=>(v.1,[v.1]))++(l.groups.map λv=>(v.1,v.2.2))).length:=by rw[<-Yj.1];exact(cV.mp ed).1
  obtain⟨p,ep,lp⟩:=Yj.2 pre.length _ (cT VX);have hx:=gN VX;generalize ((l.mw.map λv=>(v.1,[v.1]))++(l.groups.map λv=>(v.1,v.2.2)))[pre.length]=x at ep lp hx;obtain⟨z,xs⟩:=x;rw[ed]at ep;cases ep;have hzx:z∈l.nm/\l.mv z=xs:=by
   rcases dU.mp hx with h|h
   .obtain⟨v,hv,ez⟩:=dz.mp h;cases ez;have hz:v.1∈l.pn:=dz.mpr ⟨v,hv,rfl⟩;have hm:v.1∈l.nm:=fj _ hz;exact⟨hm,((rd.ok.of hm).2 hz).1⟩
   .obtain⟨v,hv,ez⟩:=dz.mp h;cases ez;refine⟨eA _ (dz.mpr ⟨v,hv,rfl⟩),?_⟩;unfold oY.mv oY.group;cases eg:l.groups.find? λg=>decide (g.1=v.1)with
    | none=>exact absurd (dQ rfl) (gz.mp eg v hv)
    | some u=>
     have u1:u.1=v.1:=by simpa using iQ eg
     obtain⟨i,hi,ei⟩:=fE (fD eg);obtain⟨j,hj,ej⟩:=fE hv;have:=Ek (f:=λp:tJ=>p.1) (fN.mp rd.ok.nd).2.1 (by rw[cT hi,ei]) (by rw[cT hj,ej]) u1;subst this;rw[<-ej,ei];rfl
  obtain⟨hz,rfl⟩:=hzx;have of:=(rd.ok.of hz).1;refine⟨rfl,?_⟩;dsimp only[sW,yt,CS];refine⟨A,V,l,c,p,l.mv z,rfl,rd4.sub s5,wf,s5.lst lp,dX of.2.1 (by decide),of.2.2.2,λdq M6 s6 _ lq=>?_⟩;have rd6:=rd4.sub (s5.trans s6);refine⟨rfl,⟨by decide,by decide⟩,?_⟩;refine uM ((List.range 2).map λi=>D.int (0+(i:Nat))) (λpre δ M'=>qa M6 M'/\∃y6 y7,δ=[some (.ref A.b),some (.str c),some (.ref r),some (.str z),some (.ref p),some (.ref dq),y6,y7]) (λ_ _ M' j=>trivial) _ [] _ _ rfl ⟨.refl,_,_,rfl⟩ ?_ ?_
  rotate_left
  .rintro δ M' ⟨s7,y6,y7,rfl⟩
   exact VY _ _ ⟨s5.trans (s6.trans s7),_,_,_,_,_,rfl⟩
  rintro pre d post e δ M7 ⟨s7,y6,y7,rfl⟩ nx2 hnx2
  have rd7:=rd6.sub s7;refine oP rd7.bd.at_ ⟨rfl,_,⟨rfl,rfl⟩,A,V,l,c,z,rfl,rd7,hz,λfq M8 s8 hfq lf=>?_⟩;refine i' (P' lf) ⟨λC z=>(by cases z),i' G.cz (JU ?_)⟩;refine i' (NU lf (s8.lst (s7.lst lq))) (JU ?_);refine⟨by show(oy _ fq).isSome=true;rw[lf];rfl,i' lf ⟨?_,?_⟩⟩
  .have:=fP (λx=>!(x==c)&&qU l V x) (l.mv z);have o2:=of.2.1;unfold tL;rw[cR];omega
  .exact hnx2 _ _ ⟨s7.trans (HU hfq s8),_,_,rfl⟩
seal L3.E3 L3.B3 L3.A3 L3.S3 L3.Hd
def Ka:qN:=λds M Q=>∃ns:List Int,ds=[.rl (ns.map D.int)]/\ns.length<=63/\Q (.bl true) M
def QV(G:Gl K mg a):Fq P w K mg base 17 a.ai Ka:=by
 refine fq G.ai.toDG BQ (λr u=>⟨_,(oN (pj 1 BQ (o9 (RD G) r G.br (rA v0 oQ)))
 (oN (Gi (o9 (I9 G) r G.bs (pR U1)) (OM (n:=2) rfl (pQ (qJ 2 BQ) (pQ (qJ 3 BQ) sr))))
 (oN (tZ eV rfl (qk (rO v0 (r6 oQ) (r6 oQ))) (qJ 4 BQ)
 (oN (pq (o9 (NY G) r G.bt (rA U1 (o9 (KG G) r G.bq (pJ U1 (qR v4 U2 U3))))))
 (oO (pA (vT (uu (o9 (Fk G) r G.ah (rA U1 (pf U2 (o9 (qo G) r G.i (qR v4 oQ (pD qc rfl G.g pX (pR U2)))))))))
 (oO (oV wX))
 pb))))
 (oO (oV (o9 (Fk G) r G.ah (rA U1 (pf U2 oQ)))))))),?_⟩)
 rintro ds M Q ⟨ns,rfl,hns,q⟩
 have hz:=dN;refine⟨ns,6,rfl,by decide,by decide,λM0 M1 A p h s0 cu wf ps=>?_⟩;have p2:2<=(uK ns 6).mw.length:=Hk (by decide) (by decide);generalize uK ns 6=l at cu wf ps p2;generalize V0 p h l []=V at cu wf ps;have p8:=cu.ok.p8;have g3:=cu.ok.g3;have pl:l.pn.length=l.mw.length:=cR ..;have nl:l.nm.length=l.mw.length+l.groups.length:=by unfold oY.nm oY.pn oY.gn;rw[cU,cR,cR]
 obtain⟨o0,or',eo⟩:∃o0 r,l.pn=o0::r:=fL λz=>by rw[z]at pl;simp only[dD]at pl;omega
 refine⟨A,V,l,rfl,cu.rd (by decide) wf,λM2 r ro rn s2 hro hrn lr lo ln=>i' lr ⟨rfl,?_⟩⟩;dsimp only[sW,yt,CS];have nro:=cu.bd.nB hro;have nrn:=cu.bd.nB hrn;refine λsl X9=>i' oW ?_;have t7:=qa.new (c:=.lst (L3.sZ (ns.map D.int) (some 1) (some 64))) X9;have l7:=@oW M2 sl (L3.sZ (ns.map D.int) (some 1) (some 64));have hL:(L3.sZ (ns.map D.int) (some 1) (some 64)).length<=63:=by unfold L3.sZ;rw[fB,gf,cR];omega
 have hLi:∀d∈L3.sZ (ns.map D.int) (some 1) (some 64),∃c,d=.int c:=λd hd=>by unfold L3.sZ at hd;obtain⟨c,_,rfl⟩:=dz.mp (iM (iL hd));exact⟨c,rfl⟩
 generalize L3.sZ (ns.map D.int) (some 1) (some 64)=L at t7 l7 hL hLi ⊢;have n7:sl∉A.foot:=(cu.sub s2).bd.nB X9;have lo:=t7.lst lo;have ln:=t7.lst ln;have s7:=s2.trans t7;generalize oX M2 sl (.lst L)=M3 at l7 lo ln s7 ⊢;have i9:=Lp.mk0 (cu.sub s7) wf ps;have l7:=D8 l7 n7;have lo:=D8 lo nro;have ln:=D8 ln nrn;generalize LW A M3=N at i9 l7 lo ln;have eb:A.b=A.b:=rfl;generalize hb:A.b=b at i9 ⊢;refine uM L (λpre δ M'=>(∃A V,Lp a M0 N M' b A V l pre.length)/\∃y4,δ=[some (.rl (ns.map D.int)),some (.ref b),some (.ref ro),some (.ref rn),y4]) (λ_ _ M' j=>by obtain⟨A,V,g⟩:=j.1;exact g.s.lst l7) _ [] _ _ rfl ⟨⟨A,V,i9⟩,none,rfl⟩ ?_ ?_
 .clear i9 n7 s7 t7 X9 eb cu wf ps hb lr nro nrn hro hrn
  rintro pre d post e δ M' ⟨⟨A,V,g⟩,y4,rfl⟩ nx2 VY
  have hx:L[pre.length]?=some d:=by rw[<-e];simp
  have pl5:pre.length<63:=dI (cV.mp hx).1 hL;obtain⟨c0,rfl⟩:=hLi d (qB hx);rw[cU,dH]at VY;dsimp only[sW,yt,CS];refine R4 (t:=PL _) (λδ M2=>(∃A V,Lp a M0 N M2 b A V l (pre.length+1))/\δ=[some (.rl (ns.map D.int)),some (.ref b),some (.ref ro),some (.ref rn),some (.int c0)]) (λnx h=>?_) ?_
  .have eb:=g.cu.b;subst eb;refine⟨A,V,l,_,ro,rn,l.pn,l.nm,rfl,g.rd (by omega),g.wf,λk hk=>(g.cu.sz.cs k hk).2.1,g.s.lst lo,g.s.lst ln,λz=>by rw[z]at pl;simp only[dD]at pl;omega,λz=>by rw[z]at nl;simp only[dD]at nl;omega,by omega,by omega,λM2 e s f=>?_⟩;have g:=g.sub s;exact⟨M0,A.b,A,V,l,_,_,e,rfl,g.cu,by omega,by omega,g.wf,f,λhr M3 A3 r c3 WB XX=>h _ _ ⟨⟨A3,_,(g.after (by omega) f hr c3 WB).sub (.new XX)⟩,rfl⟩,λ_ _=>h _ _ ⟨⟨A,V,g.mV⟩,rfl⟩⟩
  clear g
  rintro δ M2 ⟨⟨A2,V2,g⟩,rfl⟩
  have eb:=g.cu.b;subst eb;obtain⟨hp,x,_,ax⟩:=tQ D.str (xs:=l.pn) (by rw[eo];exact fC _ _) c0 1664525;refine i' (g.s.lst lo) ⟨_,_,_,rfl,hp,i' (g.s.lst lo) (i' ax ?_)⟩;exact⟨A2,V2,l,x,rfl,g.rd (by omega),g.wf,JU (VY _ _ ⟨⟨A2,V2,g⟩,_,rfl⟩)⟩
 .rintro δ M' ⟨⟨A2,V2,g⟩,y4,rfl⟩
  have eb:=g.cu.b;subst eb;refine i' (g.s.lst lo) (i' (by rw[eo];exact xS _ _) ?_);exact⟨A2,V2,l,o0,rfl,g.rd (by omega),g.wf,M,s0.trans g.cu.s0,q⟩
end Z
structure PySem.W.Fast:Prop where(tw9947747713943727769 tw9944818297203749860 tw9499011352310065301 tw843099167172806748 tw8426919707240611900 tw8032620250749739683 tw75180450190367873 tw6437528055094878537 tw6166183655510626060 tw6098947230560470678 tw5762048573695199708 tw493153814702546923 tw3862091311309385065 tw2951913211892937433 tw2593314599957393741 tw17803255787537679291 tw17802783851223500706 tw17486430681977309139 tw17458665223634452454 tw15932539549827944238 tw15877287958485781131 tw15647337606989426502 tw14949135568192137078 tw14774082592652251413 tw13854735181909480772 tw13401012183580204261 tw11890608635927717403 tw11461139137934297229 tw11266710413994593378 tw10797516205717647661 tw11412191856678846428 tw17499939577290385733 tw18321804891577203176 tw3837961429140712337 tw7905141305631102117 tw4986568582672575418 tw13208645776176803427 tw12718787948391384664 tw10094786696775880957 tw1124092293250300276 tw13758525366962749155 tw11519170430107862148 tw707357208496291852 tw11242801226606079586 tw10243438321343599907 tw16175651025604068086 tw3425987133618756101 tw17156828499639229853 tw108524080482844144 tw2816351865179554196 tw383818092424759350 tw2374806243473063212 tw17834313637389031203 tw2457728665543129944 tw2357197772446062230 tw833777772709668441 tw9637385612321816038 tw11740675511532052653 tw13117446952187202982 tw4198736859182057949 tw2206626679665981389 tw11393550937108650574 tw12383148760257046194 tw16617929751155396722 tw7732733162899733533 tw10204337615971854100 tw14872185444569085218 tw17959782486659595580 tw3316967462865663377 tw17871456648622011079 tw16162903128411758121 tw5471982991448398994 tw3963778278612243554 tw3816363995232437488 tw15165354669496544883 tw13377305592328221563 tw17090248289005271051 tw376108679313811528 tw17117749728667749002 tw14617836523729744343 tw18393972799675164024 tw9833311069755415027 tw16026303647050914099 tw6613175022076343741 tw14126056691694980305 tw14184635597795085008 tw5744105144718286221 tw8778012683524628775 tw4790684466692622211 tw12335503923005267109 tw18292345428241127539 tw7862841619532240409 tw12071302389182449502 tw12011968765235335457 tw15216160615921265411 tw5456141387479023982 tw14992885159921752353 tw16175027829571263298 tw272676606576541145 tw2984440502834957060 tw18216210808233271188 tw12818683133659361797 tw4721013002114297889 tw15641555853619051915 tw14029280126427285332 tw15889497822511358579 tw7065735946475502907 tw8474529580524320501 tw10026504083221935962 tw9182878238515307706 tw912228235957352760 tw11451751254754301552 tw4956475409832492064 tw5715806423586922078 tw16901272199629184877 tw11694298970034432697 tw1480158608208881178 tw13365439817894706114 tw7633504072235907025 tw9183903150849887330 tw10097671579225968322 tw16860487373933852615 tw18444337943397548195 tw212032938482539956 tw2385727837107626417 tw16543559035754184372 tw12800282143725984768 tw474174091730266442 tw8764986288693212763 tw1518578525432476534 tw14152695786609619373 tw5852269146413970849 tw10173744262706289863 tw1893238714768518373 tw2144649431918401691 tw10150179887873981588 tw11109805515084620162 tw13868972844835552706 tw16472463426456522874 tw15566441898345253467 tw4555098403352557247 tw13671641628067439795 tw1569893276971956391 tw16460765746100791884 tw15586747816076269066 tw5571763786555077452 tw8919888779346740388 tw15674289014198822928 tw110523098222898046 tw2554895293358397984 tw10712214173802143597 tw3700597949947804837 tw2782576022589595789 tw12171292500845402340 tw12527691167056796490 tw17658839203480089774 tw17199095462377569990 tw3814629215579357298 tw12074676463090282973 tw5914952082128555744 tw16394648307502575526 tw8919018032734057191 tw12622282784415060773 tw6918878799974915983 tw794999698148038510 tw16952742554997369571 tw2965135402798875060 tw2208203993851258900 tw10612074621289831689 tw8074364949426228056 tw8753812167517826262 tw3122771710221310749 tw12101274089751355657 tw10361992969111578620 tw5927533346513496765 tw9915965053862667055 tw12841352523365300982 tw10931976255224191112 tw1402575755197654745 tw9533384410576040686 tw12565929425651390655 tw15975972079479745213 tw11581921434493163995 tw8787080246323964892 tw11451966510526019221 tw15944542085101623412 tw8093570267527223683 tw16559354334400254657 tw4249479767805297672 tw12697234758490746816 tw12274502427351785370 tw9736223643374453268 tw13435150113691100437 tw8444893966711167416 tw13144899889984684933 tw2776390250117995863 tw12251935550829730483 tw13473322988988004286 tw957555860277597094 tw12785949359391808007 tw5320120194910343783 tw3925160750569552508 tw284373327999858750 tw2358341215250380349 tw7829814525215187488 tw9760922769318981613 tw5768583518281339902 tw8557420590290568361 tw16158322600159029729 tw7938936032699505267 tw9784978868236416454 tw8132947680702478489 tw8589838670275378408 tw10104774471700881243 tw10588445412286423233 tw9818574312565553583 tw7384208823020837460 tw12714249022361194450 tw12901604217070680389 tw3479548865740736368 tw13604442593198803785 tw7488556004086212704 tw17134394031219900193 tw3762718964748975172 tw4562173046778235074 tw15119715410371696101 tw6708932933343720585 tw2706496068944320210 tw14219349274221223732 tw11446080042115660569 tw11198933690338344044 tw16662862485696289323 tw10121537889761553286 tw4030413201135433379 tw12396763862154606686 tw8645604095984179062 tw18188432354273395189 tw9509730403169768398 tw5829328712045189208 tw10614781189414667030 tw9732237606525518667 tw6890145110872116379 tw10839467228828033788 tw12508248133394295648 tw15127555818886559763 tw3763515696043499363 tw9111220040442316854 tw8561871751704797960 tw716238562485495227 tw11570892584113453569 tw11041220010630973243 tw11015826268578787304 tw14126781173998126899 tw17255189625678605707 tw6621494037639986177 tw12408371086655423427 tw6645750116493733748 tw17371164902521945726 tw1338782562769070703 tw8964908745073541452 tw8580349441723875335 tw594276035663524649 tw984284690138096394 tw13357923221490379537 tw1439626686827567423 tw16577153417294555400 tw10537638733641987826 tw8040627443057596591 tw17695106639899711303 tw16878157384284764053 tw7828512012266311092 tw5591053283116561589 tw10842767299694766311 tw7212054051762813399 tw13762594815387639574 tw12315082834349996497 tw17622917984045733915 tw11529709442866073926 tw852014364449520853 tw12676159443036512690 tw14038039574724128607 tw8832775794959974569 tw15391649390560675204 tw9142156509853957578 tw1514825227690817039 tw15567301872624642681 tw12866020657964994639 tw3566079460140858540 tw1756063292464000860 tw4638606525467639846 tw11037663672361409258 tw17675084810072009357 tw14679658815700220265 tw9795344888343770394 tw4973238805844859431 tw13233353140626843541 tw2679582892093871672 tw17768349481755811868 tw16165071754815372541 tw1477491987253669488 tw17330791034738275643 tw11831195067848822886 tw10635288652747945650 tw12022883601358358312 tw11643400355198142269 tw116765472469956925 tw17178476100441521360 tw14954942453824856550 tw11081188467382213807 tw12452867885487056249 tw1296297755966516700 tw3148149595229336824 tw1383361759726716995 tw11856184842740058698 tw5692896207990899860 tw727017887344857159 tw1752844279182330406 tw14756817439115054134 tw2845102990753884861 tw8010051511194086011 tw15161716578416838984 tw1175496734713269127 tw8841677812151916710 tw2099177897182100518 tw6003441141547920582 tw17862654958573534004 tw8502900601069075748 tw13719609463332467741 tw13359289467508199143 tw15818591969828434530 tw12802358631548864688 tw2869057734204377078 tw12425293334338145402 tw15221920102816880208 tw7668982314188484987 tw5635808569935802543 tw14383793756169517105 tw7330193003788215060 tw5650749770694812921 tw8648213895358084368 tw10922390987450860162 tw4112792643909336315 tw6233162372908101955 tw6552773556732629796 tw5514330282289173726 tw8750792778770655075 tw2410872063458296938 tw8670746957891631188 tw5891991848192778198 tw6501032521344857583 tw5011548866261757517 tw10680215894796800172 tw3028063824094707737 tw13607479476055568113 tw16928675874352522213 tw17081032695270431451 tw17620986379162860146 tw13846111803416192428 tw14579166024026801801 tw8162142775034217094 tw5743453184151259910 tw4531183636987720173 tw13088546509920641368 tw8132293883840575545 tw9063658483337822902 tw17134538961444897425 tw5084680678120930713 tw3000092960899048847 tw11183897944171270473 tw1431620491103091805 tw10035646595125500508 tw2130921827639218235 tw15956017526252054916 tw14170196060893324383 tw14376363964160899247 tw9401125698190847716 tw9314356316218864005 tw9267163755254527399 tw15340616839946102586 tw5873968761939987421 tw10335672958402541443 tw9553229889224886545 tw7481786295211528626 tw7178905845643868871 tw16074093272847114741 tw14378192921484141579 tw4581867760222368378 tw7987313328295976736 tw4300300618255670852 tw8554148042777456396 tw8373283658723667026 tw3183630687938066488 tw15168398153318732269 tw13080459458016172207 tw13294051025828501415 tw3558268694869033808 tw14381262392738208553 tw12221757974036759802 tw998166976934432863 tw6173331018915681316 tw2908044146742256488 tw18344903470212906386 tw15775969603246792355 tw14629358797398471673 tw13804362721692174020 tw10232840128460206911 tw6819799445388034525 tw6632386902032382054 tw3196404466059757353 tw1722195193143279751 tw12843929390441847857 tw12442341192797434912 tw12235780627636213473 tw15965613568990772082 tw15680762458141161226 tw14599143869575160411 tw8605914135754956136 tw7538439852164599435 tw6917160760981148765 tw4410329301369645609 tw11627501607985582895 tw10490508144227462577 tw9627764250039031864 tw17562360173083553797 tw1614940368519040418 tw18036863670993373107 tw13267807079740499781 tw15655223342029529069 tw5129791839907943337 tw9004571973815495878 tw9447061569188221327 tw16556968147340232843 tw1801932743728549243 tw10794297088179575602 tw11012548302064813586 tw17708428998406718083 tw13673280956294865244 tw11933568565633975922 tw7740417469486334956 tw3027469896960496511 tw2468684227803890318 tw17584675799201666361 tw11586080249542140923 tw5280596173985146285 tw5794815014673539586 tw13693178214301621452 tw17800157651509529402 tw15612414589264372802 tw7832590352943794570 tw17370664291920228276 tw8512442308183487233 tw1509541525932321604 tw13231079295683694092 tw12933258626505606069 tw1148200843314462068 tw13543460070288570990 tw14194842966496820550 tw12764785772092680826 tw10622825984345361631 tw2900619120449072556 tw2683963850839685326 tw18285804679573040015 tw17111338404896984014 tw8641266379840665409 tw10382787798953438352 tw9744233380903364020 tw16423441718473595621 tw14983446264483747705 tw8985100955638870982 tw7415771231695829152 tw3360069265217718546 tw12702985485826767831 tw6483165735918168590 tw5171153399762799911 tw10798945972826448286 tw8055630608023867208 tw7277239478363797878 tw586946691900207 tw15258209254372863389 tw7597527026467142456 tw6633238402939437414 tw3196458444088631427 tw17046096198411649115 tw2312665223129741798 tw13406726199351239382 tw13149017262472326955 tw1643271996379233845 tw8377795706223545437 tw7160401083988250583 tw5392655455265639093 tw3655829421173979114 tw14323655458151079164 tw14137194640484783793 tw12746233521760339604 tw1071786166576076772 tw10627037236995582625 tw6047119883527858424 tw10844744189069315960 tw5163956233717465425 tw4315054057434363603 tw2645843873654986612 tw17937828848205312625 tw12405185634122223098 tw11790591709665844622 tw2970962468282879429 tw4990332656863671908 tw190403832463756797 tw17431730007725196229 tw3384272898133838189 tw12217940397140304310 tw4133753788500969960 tw4448842687978101049 tw6872918921625588350 tw6608404963251839415 tw12815088299856168702 tw9422329862331830608 tw827260793139428229 tw12113616259109693950 tw8519421814518856171 tw7679079807272029255 tw6359403347998655067 tw16866012772089447757 tw15314988921440368983 tw883228980756056464 tw14616755538546486738 tw5365007539135771400 tw6137422122326458584 tw4025791152819475737 tw9762868547792767780 tw10115208938374152334 tw5604975795013264223 tw4728116623158781487 tw3595596124596613180 tw1471787292658353499 tw17965910883304409210 tw10618771965926875162 tw9340162126439579428 tw7541379520334768534 tw4370074187872555954 tw11895023711237474686 tw9823171070614093463 tw1413526457903925093 tw17042194820298673647 tw109726746564234715 tw3317032723110563654 tw16220635520396520932 tw13105739643241040153 tw5512794227437529053 tw5400480663303013053 tw16811607791496439035 tw10142863485944404377 tw8830742749183831933 tw5995321523389179425 tw14155192032802819723 tw689623621475269954 tw12123033020538955499 tw10350219953115395604 tw2347995874215033957 tw5974848679087761401 tw203656964216586864 tw7926125052546273961 tw7924855742827123428 tw5660059172522894217 tw16233855440007584551 tw12522244346506716286 tw9925578120685155007 tw950824463893960254 tw9106858803826633494 tw8895467164967569354 tw7256001203564602585 tw6949916614471965125 tw5002597854846442003 tw2219751873724406327 tw11836850946989350365 tw11343411016982301028 tw10198133475003085049 tw2188052418649848017 tw13962299660247876185 tw5264209159772820008 tw2609070837920211400 tw8549244583099902323 tw8783395685597964838 tw7417342787820941371 tw3070675247883327823 tw14630015067116577289 tw14147644306720857841 tw8149978398310286531 tw8015729130115897054 tw576634987307651324 tw3251823910727196964 tw2002624014844298675 tw15885551765994097320 tw14510365184676792023 tw13423525368100015478 tw11158043110103901752 tw10705370185760679882 tw5284125500063462164 tw15803630622676269232 tw10885822837646216038 tw10174220799515263592 tw4664408189626106834 tw18445110583453323158 tw1681228514302700038 tw15927376353598621844 tw12339692103947322307 tw9627281996062351983 tw8620882550321267220 tw5493981977984738616 tw3841899828429923283 tw3317405828547230050 tw3144670944824615276 tw3040976783701141936 tw17900322282193259382 tw16696545064064172546 tw15290180097484592247 tw13998362045659493784 tw11087555913976022501 tw10112643421907286677 tw8639395155275342379 tw7518437414846895439 tw2108016827491962527 tw9272126535680643346 tw188735044170048732 tw18225689772390814961 tw9506304436736698118 tw9601364196129348460 tw5249475939085663558 tw12188418992803289801 tw11685644348209779058 tw4751153956148712192:True)
open PySem PySem.W PyProof.Rows L2 L3
def xZqN:Option Obj->Option Obj
|some ⟨_,_,.freed,_⟩=>none
|o=>o
def xZqP (h:Heap):List Nat->Nat->List Obj->List (Option Obj)
|[],_,_=>[]
|a::l,i,r=>bif i.ble a then xZqN (r.drop (a-i)).head?::xZqP h l a (r.drop (a-i)) else h.get? a::xZqP h l i r
theorem xZqQ (h:Heap):∀l i r,r=h.objs.toList.drop i->xZqP h l i r=l.map h.get?
|[],_,_,_=>rfl
|a::l,i,r,e=>by
 unfold xZqP;cases z:i.ble a with
 |false=>exact congrArg (h.get? a::·) (xZqQ h l i r e)
 |true=>
  have d:r.drop (a-i)=h.objs.toList.drop a:=by have:=Nat.le_of_ble_eq_true z;rw [e,List.drop_drop];congr 1;omega
  show xZqN (r.drop (a-i)).head?::xZqP h l a (r.drop (a-i))=_;rw [xZqQ h l a _ d,d,List.head?_drop,Array.getElem?_toList];rfl
def xZqH (K:Params->Frag) (as:List Addr) (e:∀P,as=(K P).map (·.1)) (_:Unit):Hook:=⟨_,λs=>xZqP s.heap as 0 s.heap.objs.toList,λw=>(K w.params).map λp=>some p.2,InK K,λw s x=>InK.of e w s ((xZqQ s.heap as 0 s.heap.objs.toList rfl).symm.trans x),InK.keeps⟩
local macro_rules|`(tactic|o_head ($f $k $a $e))=>`(tactic|o_head (xZqH $k $a $e ()))
set_option maxRecDepth 100000 in
set_option maxHeartbeats 0 in
theorem PySem.Challenge.cw_callboard_k22_where_it_could_ring_holds : PySem.Challenge.rw_callboard_k22_where_it_could_ring.Holds := by
 w_on;o_law;k_head;(case hw=>w_witness2)
 k_fill
 refine L3.Mq (l:=PySem.Challenge.rw_callboard_k22_where_it_could_ring) (sp:=Z.Ka) (k:=17) (x:="_law_script") rfl rfl ⟨rfl,by decide,by decide⟩ (λ_ _ Y=>Y) (λns hl=>⟨ns,rfl,hl,rfl⟩) ?F;case F=>
  intro w mg fa h KX G hmg;suffices h:∃a:Z.Ad,Z.Gl _ mg a/\∀(s:Shared) (u:Value),BindsTo s a.ai.d ⟨[u],[]⟩ [("_law_script",u)]by obtain⟨a,g,hb⟩:=h;have e:=hmg.symm.trans g.ai.mg;cases e;exact⟨a.ai.d,hb,λbase _ _=>g.ai.pe ▸ Z.QV g⟩
  refine'⟨⟨_,_,_,_,_,_,_,_,_,_,_,_,_,_,_,_,_,_,_,_,_,_,_,_,_,_,_,_,_,_,_,_,_,_,_,_,_,_,_,_,_,_,_,_,_,_,_,_,_,_,_,_,_,_,_,_,_,_,_,_,_,_,_,_,_,_,_,_,_,_,_,_,_,_,_,_,_,_,_,_,_,_,_,_,_,_,_,_,_,_,_,_,_,_,_,_,_,_,_,_,_,_,_,_,_,_,_,_,_,_,_,_,_,_,_,_,_,_,_,_,_,_,_,_,_,_,_,_,_,_,_⟩,⟨vJ KX G ..,vJ KX G ..,vJ KX G ..,vJ KX G ..,vJ KX G ..,vJ KX G ..,vJ KX G ..,vJ KX G ..,vJ KX G ..,vJ KX G ..,vJ KX G ..,vJ KX G ..,vJ KX G ..,PySem.W.mg_of KX G ?_,PySem.W.mg_of KX G ?_,pT KX G ..,pT KX G ..,pT KX G ..,pT KX G ..,pT KX G ..,pT KX G ..,pT KX G ..,pT KX G ..,pT KX G ..,pT KX G ..,pT KX G ..,pT KX G ..,pT KX G ..,pT KX G ..,pT KX G ..,pT KX G ..,pT KX G ..,pT KX G ..,pT KX G ..,pT KX G ..,pT KX G ..,pT KX G ..,pT KX G ..,pT KX G ..,pT KX G ..,pT KX G ..,pT KX G ..,pT KX G ..,pT KX G ..,pT KX G ..,pT KX G ..,pT KX G ..,pT KX G ..,pT KX G ..,pT KX G ..,pT KX G ..,pT KX G ..,pT KX G ..,pT KX G ..,pT KX G ..,pT KX G ..,pT KX G ..,pT KX G ..,pT KX G ..,pT KX G ..,pT KX G ..,pT KX G ..,pT KX G ..,pT KX G ..,pT KX G ..,pT KX G ..,pT KX G ..,pT KX G ..,pT KX G ..,pT KX G ..,pT KX G ..,pT KX G ..,pT KX G ..,pT KX G ..,pT KX G ..,pI ..,pI ..,pI ..,pI ..,pI ..,pI ..,pI ..,pI ..,pI ..,pI ..,pI ..,pI ..,pI ..,pI ..,pI ..,pI ..,pI ..,pI ..,pI ..,pI ..,pI ..,pI ..,pI ..,pI ..,pI ..,pI ..,pI ..,pI ..,pI ..,pI ..,pI ..,pI ..,pI ..,pI ..,pI ..,pI ..,pI ..,pI ..,pI ..,pI ..,pI ..,pI ..,pI ..,pI ..,pI ..,pI ..,pI ..,pI ..,pI ..,pI ..,pI ..,pI ..,pI ..,pI ..,pI ..,pI ..,MB ?_ ?_ ?_ ?_ ?_ ?_ ?_ ?_ ?_ ?_,Jq ?_ ?_ ?_,⟨SG ?_ ?_ ?_ ?_ ?_ ?_ ?_ ?_,?_,?_⟩,Nh ?_ ?_ ?_ ?_,⟨?_,?_,?_,?_⟩,⟨?_,?_,?_,?_⟩,⟨?_,?_,?_,?_⟩,⟨?_,?_,?_,?_⟩,⟨?_,?_,?_,?_⟩,⟨?_,?_,?_,?_⟩,⟨?_,?_,?_,?_⟩,⟨?_,?_,?_,?_⟩,⟨?_,?_,?_,?_⟩,⟨?_,?_,?_,?_⟩,⟨?_,?_,?_,?_⟩,⟨?_,?_,?_⟩,⟨?_,?_,?_⟩,⟨?_,?_,?_⟩,⟨?_,?_,?_⟩,⟨?_,?_,?_⟩,⟨?_,?_,?_⟩,⟨?_,?_,?_⟩,⟨?_,?_,?_⟩,⟨?_,?_,?_⟩,⟨?_,?_,?_⟩,⟨?_,?_,?_⟩,⟨?_,?_,?_⟩,⟨?_,?_,?_⟩,⟨?_,?_,?_⟩,⟨?_,?_,?_⟩,⟨?_,?_,?_⟩,⟨?_,?_,?_⟩,⟨?_,?_,?_⟩,⟨?_,?_,?_⟩,⟨?_,?_,?_⟩,⟨?_,?_,?_⟩,(pB ?_ (pB ?_ (pB ?_ (pB ?_ (pB ?_ (pB ?_ (pB ?_ (pB ?_ sH)))))))),(pB ?_ (pB ?_ (pB ?_ (pB ?_ (pB ?_ (pB ?_ sH)))))),(pB ?_ (pB ?_ (pB ?_ sH))),(pB ?_ (pB ?_ (pB ?_ sH))),(pB ?_ (pB ?_ (pB ?_ sH))),(pB ?_ (pB ?_ (pB ?_ (pB ?_ (pB ?_ sH))))),(pB ?_ (pB ?_ (pB ?_ sH))),(pB ?_ (pB ?_ (pB ?_ (pB ?_ sH)))),(pB ?_ (pB ?_ sH)),(pB ?_ (pB ?_ sH)),(pB ?_ (pB ?_ (pB ?_ (pB ?_ (pB ?_ (pB ?_ (pB ?_ (pB ?_ sH)))))))),J1,PySem.W.mg_none_of KX G ?_,PySem.W.mg_none_of KX G ?_,PySem.W.mg_none_of KX G ?_,PySem.W.mg_none_of KX G ?_,PySem.W.mg_none_of KX G ?_,PySem.W.mg_none_of KX G ?_,PySem.W.mg_none_of KX G ?_,PySem.W.mg_none_of KX G ?_,PySem.W.mg_none_of KX G ?_,PySem.W.mg_none_of KX G ?_,PySem.W.mg_none_of KX G ?_,PySem.W.mg_none_of KX G ?_,vq (PySem.W.mg_of KX G ?_),vq (PySem.W.mg_of KX G ?_),vq (PySem.W.mg_of KX G ?_),vq (PySem.W.mg_of KX G ?_),MT (PySem.W.mg_of KX G ?_) (tP (ss:=["all","turns"]) ?_ (.cons ⟨_,rfl⟩ (.cons ⟨_,rfl⟩ .nil)) (Nat.le_of_ble_eq_true rfl)),vq (PySem.W.mg_of KX G ?_),vq (PySem.W.mg_of KX G ?_),vq (PySem.W.mg_of KX G ?_),Qv (PySem.W.mg_of KX G ?_),NH (es:=[⟨_,.str "bar" _,.ref _⟩,⟨_,.str "shut" _,.ref _⟩,⟨_,.str "always" _,.ref _⟩,⟨_,.str "night" _,.ref _⟩,⟨_,.str "busy" _,.ref _⟩,⟨_,.str "silent" _,.ref _⟩,⟨_,.str "wait" _,.ref _⟩,⟨_,.str "breaks" _,.ref _⟩]) (PySem.W.mg_of KX G ?_) ?_ ?_ (.cons rfl ⟨_,rfl,(tP (ss:=["phone","names"]) ?_ (.cons ⟨_,rfl⟩ (.cons ⟨_,rfl⟩ .nil)) (Nat.le_of_ble_eq_true rfl))⟩ (.cons rfl ⟨_,rfl,(tP (ss:=["name","phones"]) ?_ (.cons ⟨_,rfl⟩ (.cons ⟨_,rfl⟩ .nil)) (Nat.le_of_ble_eq_true rfl))⟩ (.cons rfl ⟨_,rfl,(tP (ss:=["name","name"]) ?_ (.cons ⟨_,rfl⟩ (.cons ⟨_,rfl⟩ .nil)) (Nat.le_of_ble_eq_true rfl))⟩ (.cons rfl ⟨_,rfl,(tP (ss:=["name","name","hour","hour"]) ?_ (.cons ⟨_,rfl⟩ (.cons ⟨_,rfl⟩ (.cons ⟨_,rfl⟩ (.cons ⟨_,rfl⟩ .nil)))) (Nat.le_of_ble_eq_true rfl))⟩ (.cons rfl ⟨_,rfl,(tP (ss:=["name","name"]) ?_ (.cons ⟨_,rfl⟩ (.cons ⟨_,rfl⟩ .nil)) (Nat.le_of_ble_eq_true rfl))⟩ (.cons rfl ⟨_,rfl,(tP (ss:=["name","name","turns"]) ?_ (.cons ⟨_,rfl⟩ (.cons ⟨_,rfl⟩ (.cons ⟨_,rfl⟩ .nil))) (Nat.le_of_ble_eq_true rfl))⟩ (.cons rfl ⟨_,rfl,(tP (ss:=["phone"]) ?_ (.cons ⟨_,rfl⟩ .nil) (Nat.le_of_ble_eq_true rfl))⟩ (.cons rfl ⟨_,rfl,(tP (ss:=["phone"]) ?_ (.cons ⟨_,rfl⟩ .nil) (Nat.le_of_ble_eq_true rfl))⟩ .nil)))))))),vq (PySem.W.mg_of KX G ?_),vq (PySem.W.mg_of KX G ?_),vq (PySem.W.mg_of KX G ?_)⟩,λs u=>.of_eq rfl⟩
  all_goals try first|k_is|(intro _ _ _ _ _ _ us hl;rcases us with _|⟨_,_|⟨_,_|⟨_,_|⟨_,_|⟨_,_|⟨_,us⟩⟩⟩⟩⟩⟩<;>first|rfl|(exfalso;revert hl;simp;done))|rfl
