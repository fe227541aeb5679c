import PyProof.Rows.All
import Wide.All
import OpenK.AllK
import Wide.FinOn
import PyProof.EqAt
import PyProof.EqKinds
import PyProof.TupleCall
import PyProof.AttrMiss
import PyProof.IsiH_list
import PyProof.Rows.SetFrom
import KE.KDictOf
import KE.KTab
import PyProof.AutoListH
import KE.KSortTup
import KE.KItemsList
import KE.KEqDict
import KE.KIntText
import Lean
import PyProof.RulesRaise
import PyProof.RulesTry
import KE.KTryDeep
import KE.KTryMore
import KE.KTryOn
import KE.TryInHelper
import KE.TryLedger
import PyProof.ExcArgsOwn
import PyProof.ExcAttrAll.ValueError
import KE.KIsAll
import PyProof.ExcBaseAll.ValueError
import PyProof.InstStoreFacts
import PyProof.ExcInit
import PyProof.SeqI3
import PyProof.ConsumeWalk
import PySem.Challenge.RW_callboard_k25_the_log_is_told
set_option Elab.async false
set_option linter.all false
set_option maxRecDepth 100000
set_option maxHeartbeats 4000000
open List renaming length_map->cX,getElem?_eq_getElem->cZ,getElem?_eq_some_iff->c9,length_append->de,mem_cons->dv,size_toArray->dB,mem_singleton->dD,mem_map->dE,getElem?_map->dF,mem_cons_of_mem->dH,not_mem_nil->dJ,length_nil->dM,map_append->dQ,length_singleton->dS,mem_cons_self->dU,nodup_cons->dW,map_cons->dY,nil_append->d6,mem_append->eh,map_map->eA,length_cons->eD,all_eq_true->eG,length_range->eI,mem_append_right->eJ,lookup_cons->eK,replicate_succ->eL,nodup_nil->eM,getElem?_set_self->eO,getElem?_set_ne->eU,cons_ne_nil->eX,getElem?_append_right->eZ,all_cons->e9,append_nil->fh,getElem?_append_left->fi,take_length->fu,append_assoc->fz,mem_of_getElem?->fA,length_take->fC,length_pos_iff->fF,mem_append_left->fH,mem_filter->fL,find?_cons->fM,flatten_cons->fQ,foldl_cons->fX,filterMap_cons->fY,filter_sublist->fZ,any_cons->gc,getD_eq_getElem?_getD->gf,exists_cons_of_ne_nil->gg,length_drop->gh,mem_range->gi,length_modify->gj,mem_of_find?_eq_some->gk,nodup_append->gq,length_eq_zero_iff->gw,map_congr_left->gy,any_eq_true->gA,getElem?_eq_none->gG,length_filter_le->gH,take_add_one->gK,drop_eq_getElem_cons->gN,getLast?_eq_none_iff->gO,filter_cons->gQ,getElem_of_mem->gS,filter_map->gZ,find?_eq_none->g9,take_of_length_le->hJ,findIdx?_map->hW,getElem_mem->ig,length_set->il,getElem?_zip_eq_some->im,getLastD_eq_getLast?->io,contains_cons->iB,filter_cons_of_pos->iE,filter_cons_of_neg->iF,getElem?_cons_zero->iG,foldl_append->iI,findIdx?_eq_some_iff_getElem->iL,length_replicate->iP,getElem?_toArray->iQ,map_nil->iT,all_map->iV,set_set->iY,range_succ->iZ,filter_nil->ja,mem_of_mem_take->jb,mem_of_mem_drop->jc,mem_of_getLast?->jd,dropLast_subset->je,getElem?_modify->jf,drop_zero->jo,map_id->jq,filter_append->jv,sublist_append_right->jG,pairwise_iff_getElem->jI,getLast?_eq_getElem?->jJ,findIdx?_eq_none_iff->jK,drop_length->jS,any_map->jV,eq_of_mem_replicate->jW,getElem?_replicate->jX,of_mem_zip->j3,forIn_cons->j4,forIn_nil->kl,set_append_right->ky,map_drop->kM,getElem?_range->kO,filter_eq_self->kS,modify_eq_self->kT,mem_filterMap->kY,getElem_range->ly,set_cons_succ->lz,any_eq_false->lC,getElem_inj->lR,zipIdx_cons->l8,getElem_map->mh,zipIdx_nil->mq,any_append->mw,find?_some->my,map_take->mC,map_set->mI
open PySem renaming wpAny_bind->cY,wpAny_pure->dq,sizeLine_eq->dN,wpAny_mono->eB,wpAny_holding->eE,wpAny_field->ft,wpAny_truthy_bool->fv,wpAny_callSpecial?_slot->fO,wpAny_Call_Name_kw->fS,wpAny_call_entry->fT,wpAny_newObj_type->fU,codeAny_mono->gm,wpAny_seqItems->gz,wpAny_setField_rec->gD,wpAny_passesOwn->gF,wpAny_pyIter_list->gJ,mem_of_lookup->gR,wpAny_standAt->gT,wpAny_execs_nil->gU,codeAny_builtin->gX,wpAny_loadPart_at->hU,wpAny_setField->h9,wpAny_call->ib,codeAny_call_builtin->ie,wpAny_pyIter_tuple->iz,wpAny_onRaise->iM,plainObj_wpAny_Assign_Attribute->iR,wpAny_specialOf->iU,wpAny_updateSeq_pair->iW,isSubtype_type->jn,tupleKind_room_in1->jr,slot_dict_contains->jt,wpAny_sequenceKey->jz,call_meets->jE,wpAny_execs_cons->jM,wpAny_typeOf->jP,wpAny_comprehension_free->jR,codeAny_of_tree->j6,wpAny_pyNext_list_item->j9,wpAny_pyNext_list_end->kh,builtinLookup_eq_fast->km,weight_type_call_type->ko,getitemInPython_of_ne->kr,wpAny_rule->kA,wpAny_letTemporaryGo->kC,plainId_quiet->kH,wpAny_attempt->kI,wpAny_isSubtype_exc->kQ,concat_meets->k9,seqIndex_neg->lh,wpAny_assign_Name->lA,wpAny_Assign_Name->lB,slot_list_getitem->lE,slot_dict_getitem->lG,wpAny_pyIter_enum->lH,seqIndex_of->lM,wpAny_letGo->lN,wpAny_pyHash_str->lP,wpAny_eqBool_int->lQ,wpAny_lookBehind->lT,pastItsLine_dict->lU,noFill_tuple_add->lW,check_set_init_1->l0,wpAny_pyIter_zip->me,wpAny_Name->mi,typeIs_int->mj
def df:=@if_neg
def dh:=@if_pos
def dZ:=@decide_eq_true
def eC:=@decide_eq_true_eq
def eR:=@decide_eq_false
def eV:=@congrArg
def fg:=@or_false
def fk:=@beq_iff_eq
def fE:=@beq_self_eq_true
def fN:=@not_or
def fR:=@of_decide_eq_true
def gx:=@beq_eq_false_iff_ne
def jl:=@if_false
def jm:=@if_true
def lK:=@bne_self_eq_false
open PySem.Heap renaming get?_push_of_some->dg,lt_size->dA,get?_push_size->dI,size_push->fB,get?_update_self->fK,get?_update_other->gb,get?_none_of_le->gM,get?_push_ne->iJ,size_update->iO,get?_update_ne->jh
open Option.some renaming inj->dw,injEq->jB
open Nat renaming le_refl->dz,ne_of_lt->dG,lt_of_lt_of_le->dP,le_trans->d9,zero_le->eP,lt_irrefl->fj,lt_succ_self->fJ,lt_succ_of_lt->fV,le_succ->gB,ne_of_gt->gP,sub_self->ia,succ_le_succ->ii,lt_trans->iq,lt_of_le_of_lt->iD,le_add_right->iN,le_succ_of_le->jC,le_of_lt->jL,le_of_not_lt->jQ,mul_le_mul->kt,sub_zero->lq,min_eq_left->mx,le_of_eq->mE,succ_mul->mG,zero_add->mH,succ_pos->mJ
open Bool renaming false_ne_true->dC,eq_false_iff->dO,and_eq_true->dX,true_and->eN,false_and->eY,false_or->fP,eq_iff_iff->gp,not_eq_true'->gL,or_eq_true->gY,true_or->hZ,false_eq_true->iA,not_eq_false->jD,or_false->kG,or_true->lw,beq_comm->mB
open Ne renaming symm->dR
open Int renaming eq_ofNat_of_zero_le->eF,emod_lt_of_pos->eQ,emod_nonneg->eW,mul_le_mul_of_nonneg_left->jg,toNat_natCast->jy,emod_add_mul_ediv->kx,zero_add->mK
open PySem.PassesOwn renaming never->fm
open PySem.F renaming called_set->fD,slot_tuple_iterator_next->gI,slot_list_getattribute->ir,slot_zip_next->iX,args_tuple_iterator_next_1->jp,entry_tuple_iterator_next->ju,slot_dict_getitem->jF,args_tuple_add_2->jO,store_ValueError->jU,entry_tuple_add->jY,slot_dict_items->jZ,slot_tuple_add->kc,attrBase_ValueError->ku,excBase_ValueError->kD,entry_type_call->lF,args_zip_next_1->lJ,typeCall_set_1->lY,entry_set_init->lZ,entry_zip_next->ma,slot_int_rmul->mo
open PyProof.Rows renaming slot_tuple_getitem->fG,callWith_type1->fW,callWith_builtin1->gW,SetOf_congr->iw,setObjOf_fresh->js,subscriptTail_builtinR->ke,listUpdate_at->kK,entry_tuple_getitem->kN,args_tuple_getitem->lb,seqEpoch_at->lO,size_push'->mv
open PySem.W renaming kia_one->gu,callWith_K->iS,looks_findIn->jk,methodCall_KW->j7,plainGet_of->kE,looks_clsIn->kF,kitx_list->lL,cellsFrom_some->lV
open List.cons renaming inj->gv
open PyProof.Rows.F renaming plain_set_update_loop->gC,entry_set_update_loop->iu
open PySem.Around renaming under_plainId->ic,under_plain->lj
open Array renaming getElem?_setIfInBounds_self_of_lt->ij,length_toList->ik,toList_append->ji,size_setIfInBounds->jT,mem_toList_iff->kz,append_assoc->kX,find?_toList->kZ
open PySem.Calls renaming spliced_cons->ip,spliced_nil->iH,Name_function_global->jx,callWith_builtin->kg
open PySem.Code renaming quiet_builtin->iy
open List.Nodup renaming sublist->iC
open Option renaming map_eq_some_iff->iK,isSome_map->jA,isSome_iff_exists->jN,map_some->j5,getD_none->lX,bind_some->mf
open PySem.Paired renaming length->jw,snoc->mM
open Sum.inr renaming inj->j8
open PySem.Walks renaming list->kB
open PySem.Heap.SameBut renaming update->kP
open PySem.SeqAt.EqAt renaming int_str->kU,str_int->kW
open PySem.Obj renaming data_mapFields->lu
open PySem.Heap.Ns1 renaming of_empty->lD
open Eq renaming symm->mz
open PySem.W.Looks renaming here->mD
open Prod renaming ext->mF
open PySem.Heap.FunFrames renaming of_keeps->mL
open PySem.Moved renaming trans->mO
open PySem.Heap.IsSliceOf renaming new->mP
abbrev qw:=PySem.W.Frag
local macro_rules | `(tactic| walk_at "l") => `(tactic| (intro _ _ _ h; repeat (first | (obtain ⟨e, _⟩ := h; subst e; rfl; done) | (cases h; rename_i h))))
local macro_rules | `(tactic| walk_at "m") => `(tactic| (intro _ _ _ _ h; repeat (first | (obtain ⟨e, _⟩ := h; subst e; rfl; done) | (cases h; rename_i h))))
abbrev Vl:=PySem.Value
abbrev Sd:=PySem.Shared
abbrev Pg:=PySem.Program
abbrev Ar:=PySem.Around
abbrev Wo:=PySem.World
abbrev QQQ:=List PySem.Str
abbrev QQX:=PySem.Value->PySem.Shared->Prop
abbrev QQY:=List (PySem.Addr×PySem.Obj)
abbrev QQZ:=PySem.Str->Option PySem.Value
abbrev QXQ:=List PySem.Addr
section
open PySem PySem.Spec PyProof.Rows
namespace L2
def x5{α:Sort u}{β:Sort v}{p q r:α->β->Prop}{C:Prop}(h:∃a b,p a b/\q a b/\r a b)(f:∀a b,p a b->q a b->r a b->C):C:=by obtain⟨a,b,h1,h2,h3⟩:=h;exact f a b h1 h2 h3
abbrev rc:=Sum Int Str
def BB:rc->Vl->Bool
 | .inl k,v=>Value.isInt k v
 | .inr x,v=>Value.isStrOf x v
def Vo(w:Wo):rc->Int
 | .inl k=>hashInt k
 | .inr x=>hashStr w x
def sd:∀{k:rc} {v:Vl},BB k v=true->(∃i t,k=Sum.inl i/\v=Value.int i t)\/(∃x t,k=Sum.inr x/\v=Value.str x t)
 | .inl i,v,h=>by obtain⟨t,e⟩:=Value.isInt_shape (k:=i) (v:=v) h;exact .inl ⟨i,t,rfl,e⟩
 | .inr x,v,h=>by obtain⟨t,e⟩:=Value.isStrOf_shape (x:=x) (v:=v) h;exact .inr ⟨x,t,rfl,e⟩
def Ki(i:Int)(t:Tok):BB (.inl i) (.int i t)=true:=by simp[BB,Value.isInt]
def KN(x:Str)(t:Tok):BB (.inr x) (.str x t)=true:=by simp[BB,Value.isStrOf]
def Q0(a b:Int):decide ((Sum.inl a:rc)=Sum.inl b)=(a==b):=by
 by_cases e:a=b
 .subst e;simp
 .have h:¬(Sum.inl a:rc)=Sum.inl b:=λq=>e (Sum.inl.inj q);rw[eR h];exact(gx.mpr e).symm
def RK(a b:Str):decide ((Sum.inr a:rc)=Sum.inr b)=decide (a=b):=by
 by_cases e:a=b
 .subst e;simp
 .have h:¬(Sum.inr a:rc)=Sum.inr b:=λq=>e (j8 q);rw[eR h,eR e]
def Sb(a:Int)(b:Str):decide ((Sum.inl a:rc)=Sum.inr b)=false:=eR (λq=>nomatch q)
def Rw(a:Str)(b:Int):decide ((Sum.inr a:rc)=Sum.inl b)=false:=eR (λq=>nomatch q)
def rG(prog:Pg)(w:Wo):PySem.KeyKind prog w rc where
 is:=BB
 hash:=Vo w
 inj:=λv a b ha hb=>by
  rcases sd ha with⟨i,t,rfl,rfl⟩|⟨x,t,rfl,rfl⟩
  .rcases sd hb with⟨j,u,rfl,e⟩|⟨y,u,rfl,e⟩
   .injection e with e1 _;rw[e1]
   .exact nomatch e
  .rcases sd hb with⟨j,u,rfl,e⟩|⟨y,u,rfl,e⟩
   .exact nomatch e
   .injection e with e1 _;rw[e1]
 byValue:=λk v h=>by rcases sd h with⟨i,t,rfl,rfl⟩|⟨x,t,rfl,rfl⟩<;>rfl
 pyHash:=λhv h=>by
  rcases sd hv with⟨i,t,rfl,rfl⟩|⟨x,t,rfl,rfl⟩
  .exact wpAny_pyHash_int h
  .exact lP h
 eqBool:=λhu hv h=>by
  rcases sd hu with⟨i,t,rfl,rfl⟩|⟨x,t,rfl,rfl⟩
  .rcases sd hv with⟨j,u,rfl,rfl⟩|⟨y,u,rfl,rfl⟩
   .rw[Q0]at h;exact lQ h
   .rw[Sb]at h;exact kU i t y u _ _ _ _ h
  .rcases sd hv with⟨j,u,rfl,rfl⟩|⟨y,u,rfl,rfl⟩
   .rw[Rw]at h;exact kW x t j u _ _ _ _ h
   .rw[RK]at h;exact wpAny_eqBool_str h
 «strs»:=λk x t v h=>by
  rcases sd h with⟨i,u,rfl,e⟩|⟨y,u,rfl,e⟩
  .exact nomatch e
  .injection e with e1 _
   subst e1;cases v<;>rfl
def GQ(prog:Pg)(w:Wo)(i:Int)(t:Tok):(rG prog w).is (.inl i) (.int i t)=true:=Ki i t
def AD(prog:Pg)(w:Wo)(x:Str)(t:Tok):(rG prog w).is (.inr x) (.str x t)=true:=KN x t
inductive V where
 | mW|bl (b:Bool)|int (i:Int)|str (x:Str)|byt (b:Array UInt8)|flt (b:UInt64)|ref (a:Addr)|ty (n:String)
 deriving DecidableEq
def qN:V->Vl->Prop
 | .mW,u=>u=Value.none
 | .bl b,u=>u=Value.bool b
 | .int i,u=>∃t,u=Value.int i t
 | .str x,u=>∃t,u=Value.str x t
 | .byt b,u=>∃t,u=Value.bytes b t
 | .flt b,u=>∃t,u=Value.float b t
 | .ref a,u=>u=Value.ref a
 | .ty n,u=>u=Value.type n
abbrev qE:List V->List Vl->Prop:=Paired qN
def qE.length{xs:List V}{us:List Vl}(r:qE xs us):xs.length=us.length:=jw r
theorem qE.get:∀{xs:List V} {us:List Vl} {i:Nat} {x:V},qE xs us->xs[i]?=some x->∃u,us[i]?=some u/\qN x u
 | _,_,_,_,.nil,e=>by simp at e
 | _,_,0,_,.cons r _,e=>by simp at e;subst e;exact⟨_,rfl,r⟩
 | _,_,i+1,x,.cons _ t,e=>by obtain⟨u,h1,h2⟩:=qE.get (i:=i) (x:=x) t (by simpa using e);exact⟨u,by simpa using h1,h2⟩
theorem qE.set{x:V}{u:Vl}(r:qN x u):∀{xs:List V} {us:List Vl} (i:Nat),qE xs us->qE (xs.set i x) (us.set i u)
 | _,_,_,.nil=>.nil
 | _,_,0,.cons _ t=>.cons r t
 | _,_,i+1,.cons q t=>.cons q (qE.set r i t)
theorem qE.append:∀{xs ys:List V} {us ws:List Vl},qE xs us->qE ys ws->qE (xs++ys) (us++ws)
 | _,_,_,_,.nil,s=>s
 | _,_,_,_,.cons r t,s=>.cons r (qE.append t s)
theorem qE.take:∀{xs:List V} {us:List Vl} (n:Nat),qE xs us->qE (xs.take n) (us.take n)
 | _,_,0,_=>.nil
 | _,_,_+1,.nil=>.nil
 | _,_,n+1,.cons r t=>.cons r (qE.take n t)
theorem qE.drop:∀{xs:List V} {us:List Vl} (n:Nat),qE xs us->qE (xs.drop n) (us.drop n)
 | _,_,0,r=>r
 | _,_,_+1,.nil=>.nil
 | _,_,n+1,.cons _ t=>qE.drop n t
def yo:Option V->Option Vl->Prop
 | some v,some u=>qN v u
 | none,none=>True
 | _,_=>False
def KV{κ:Type}:List (κ×V)->List (κ×Vl)->Prop:=Paired λ(p:κ×V) (q:κ×Vl)=>p.1=q.1/\qN p.2 q.2
def kV:rc->V
 | .inl i=>.int i
 | .inr x=>.str x
inductive HO where
 | lst (xs:List V)
 | tup (xs:List V)
 | dK (kvs:List (rc×V))|dT (kvs:List (List rc×V))
 | set (S:Int->Bool) (n:Nat)
 | ins (C dx:Addr) (fs:List (Str×V))
 | own (x:Addr)
 | xd (fs:List (Str×V))
 | met (f x:Addr)
 | rng (lo hi:Int)
 | frz (o:Obj) (u:HO)
 | tbl (ps:Array Vl)
 | ext (φ:Heap->Prop)
abbrev Hp:=Addr->Option HO
def upd(H:Hp)(a:Addr)(o:HO):Hp:=λb=>if b=a then some o else H b
def qp{H:Hp}{a:Addr}{o:HO}:upd H a o a=some o:=by unfold upd;rw[dh rfl]
def qd{H:Hp}{a b:Addr}{o:HO}(h:b≠a):upd H a o b=H b:=by unfold upd;rw[df h]
def Qf{H:Hp}{a:Addr}{o u:HO}:upd (upd H a o) a u=upd H a u:=by funext b;unfold upd;split<;>rfl
def Tz{H:Hp}{a b:Addr}{o u:HO}(h:H a=some o)(h':H b=some u)(d:o≠u):a≠b:=by intro e;subst e;rw[h]at h';exact d (dw h')
def qT{H:Hp}{a b:Addr}{o:HO}(h:H a=some o)(h':H b=none):a≠b:=by intro e;subst e;rw[h]at h';cases h'
section
variable (P:Pg)(w:Wo)
def El(h:Heap)(a:Addr)(its:Array Vl):Prop:=∃o,h.get? a=some o/\o.cls=.type "tuple"/\(∃n,o.data=.seq its n)/\o.dict=none
def se(H:Hp)(h:Heap)(a:Addr):HO->Prop
 | .lst xs=>xs.length<=sizeLine/\∃(its:List Vl) (n:Nat),qE xs its/\h.get? a=some {cls:=.type "list",data:=.seq its.toArray n}
 | .tup xs=>xs.length<=sizeLine/\∃its:List Vl,qE xs its/\El h a its.toArray
 | .dK kvs=>kvs.length<=sizeLine/\(a==sysModules)=false/\∃vs,KV kvs vs/\h.DictOf (rG P w) a vs
 | .dT kvs=>kvs.length<=sizeLine/\(a==sysModules)=false/\∃xs:List (List rc×Addr×Vl),Paired (λ(p:List rc×V) (q:List rc×Addr×Vl)=>p.1=q.1/\H q.2.1=some (.tup (p.1.map kV))/\qN p.2 q.2.2) kvs xs/\
   ∃o es ep,h.get? a=some o/\o.ExactDict/\o.data=.dict es ep/\es.toList=xs.map (entryOfKey (tupleKind (rG P w)))/\(xs.map (·.1)).Nodup
 | .set S n=>h.SetOf (intKind P w) a S n
 | .ins C dx fs=>H dx=some (.own a)/\fs.length<=1000/\dx≠a/\h.get? a=some (W.instObj C dx)/\
   ∃mA,h.Ns1 dx mA/\(∀f,yo (fs.lookup f) (mA f))/\PySem.Within mA (fs.map (·.1))
 | .own _=>∃o,h.get? a=some o
 | .xd fs=>∃mA,h.Ns1 a mA/\∀f,yo (fs.lookup f) (mA f)
 | .rng lo hi=>∃t u v,h.get? a=some {cls:=.type "range",data:=.fields #[.int lo t,.int hi u,.int 1 v]}
 | .frz o u=>h.get? a=some o/\se H h a u
 | .tbl ps=>h.get? a=some {cls:=.none,data:=.fields ps}
 | .met f x=>h.get? a=some (W.methodObj (.ref f) (.ref x))
 | .ext φ=>φ h/\(∃o,h.get? a=some o)/\∀h1 h2:Heap,φ h1->(∀o,h1.get? a=some o->h2.get? a=some o)->φ h2
def yp(H:Hp)(h:Heap):Prop:=∀a o,H a=some o->se P w H h a o
end
variable {H H':Hp}{h h':Heap}
section
variable {P:Pg}{w:Wo}{a:Addr}{o:HO}
def El.is{its:Array Vl}(x:El h a its):IsTup h a its:=let⟨o,e,c,d,_⟩:=x;⟨o,e,c,d⟩
def El.new(h:Heap)(W4:Array Vl):El (h.push {cls:=.type "tuple",data:=.seq W4}) h.objs.size W4:=⟨_,dI _ rfl,rfl,⟨_,rfl⟩,rfl⟩
def se.lt(x:se P w H h a o):a<h.objs.size:=by
 cases o with
 | lst xs=>obtain⟨_,_,_,_,e⟩:=x;exact dA e
 | tup xs=>obtain⟨_,_,_,_,e,_⟩:=x;exact dA e
 | dK kvs=>obtain⟨_,_,_,_,o,_,_,e,_⟩:=x;exact dA e
 | dT kvs=>obtain⟨_,_,_,_,o,_,_,e,_⟩:=x;exact dA e
 | set S n=>obtain⟨o,_,_,_,e,_⟩:=x;exact dA e
 | ins C dx fs=>obtain⟨_,_,_,e,_⟩:=x;exact dA e
 | own y=>obtain⟨_,e⟩:=x;exact dA e
 | xd fs=>obtain⟨_,⟨_,_,_,e,_⟩,_⟩:=x;exact dA e
 | rng lo hi=>obtain⟨_,_,_,e⟩:=x;exact dA e
 | frz ob u=>obtain⟨e,_⟩:=x;exact dA e
 | tbl ps=>exact dA (show h.get? a=some _ from x)
 | met f y=>exact dA (show h.get? a=some _ from x)
 | ext φ=>obtain⟨_,⟨_,e⟩,_⟩:=x;exact dA e
theorem Paired.oO{α β:Type}{F G:α->β->Prop}:∀{l₁:List α} {l₂:List β},Paired F l₁ l₂->(∀a b,F a b->G a b)->Paired G l₁ l₂
 | _,_,.nil,_=>.nil
 | _,_,.cons r t,f=>.cons (f _ _ r) (Paired.oO t f)
def se.nE(x:se P w H h a o)(k:∀b u,(b=a\/H b=some (.own a))->h.get? b=some u->h'.get? b=some u) (ho:∀b,H b=some (.own a)->H' b=some (.own a)) (ht:∀b xs,H b=some (.tup xs)->H' b=some (.tup xs)):se P w H' h' a o:=by
 induction o with
 | lst xs=>obtain⟨z,its,n,r,e⟩:=x;exact⟨z,its,n,r,k _ _ (.inl rfl) e⟩
 | tup xs=>obtain⟨z,its,r,ob,e,c⟩:=x;exact⟨z,its,r,ob,k _ _ (.inl rfl) e,c⟩
 | dK kvs=>obtain⟨z,y,vs,r,ob,es,ep,e,c⟩:=x;exact⟨z,y,vs,r,ob,es,ep,k _ _ (.inl rfl) e,c⟩
 | dT kvs=>obtain⟨z,y,xs,r,ob,es,ep,e,c⟩:=x;exact⟨z,y,xs,Paired.oO r λp q z=>⟨z.1,ht _ _ z.2.1,z.2.2⟩,ob,es,ep,k _ _ (.inl rfl) e,c⟩
 | set S n=>obtain⟨ob,es,ep,t,e,c⟩:=x;exact⟨ob,es,ep,t,k _ _ (.inl rfl) e,c⟩
 | ins C dx fs=>obtain⟨d,z,ne,e,mA,⟨od,es,ep,e2,c⟩,r⟩:=x;exact⟨ho _ d,z,ne,k _ _ (.inl rfl) e,mA,⟨od,es,ep,k _ _ (.inr d) e2,c⟩,r⟩
 | own y=>obtain⟨ob,e⟩:=x;exact⟨ob,k _ _ (.inl rfl) e⟩
 | xd fs=>obtain⟨mA,⟨od,es,ep,e,c⟩,r⟩:=x;exact⟨mA,⟨od,es,ep,k _ _ (.inl rfl) e,c⟩,r⟩
 | rng lo hi=>obtain⟨t,u,v,e⟩:=x;exact⟨t,u,v,k _ _ (.inl rfl) e⟩
 | frz ob u ih=>obtain⟨e,q⟩:=x;exact⟨k _ _ (.inl rfl) e,ih q⟩
 | tbl ps=>have e:h.get? a=some {cls:=.none,data:=.fields ps}:=x;show h'.get? a=some {cls:=.none,data:=.fields ps};exact k a _ (.inl rfl) e
 | met f y=>have e:h.get? a=some (W.methodObj (.ref f) (.ref y)):=x;show h'.get? a=some (W.methodObj (.ref f) (.ref y));exact k a _ (.inl rfl) e
 | ext φ=>obtain⟨p,⟨o,e⟩,st⟩:=x;exact⟨st _ _ p λo q=>k _ _ (.inl rfl) q,⟨o,k _ _ (.inl rfl) e⟩,st⟩
def yp.lt(x:yp P w H h)(e:H a=some o):a<h.objs.size:=(x a o e).lt
def yp.fresh(x:yp P w H h)(e:h.objs.size<=a):H a=none:=by
 cases q:H a with
 | none=>rfl
 | some u=>exact absurd (dP (x.lt q) e) (fj _)
def yp.kept(x:yp P w H h)(k:∀b u,h.get? b=some u->h'.get? b=some u):yp P w H h':=λa o e=>(x a o e).nE (λb u _ q=>k b u q) (λ_ q=>q) λ_ _ q=>q
def yp.laid(x:yp P w H h)(k:∀b u,h.get? b=some u->h'.get? b=some u)(hp:h.objs.size<=a)(new:se P w (upd H a o) h' a o):yp P w (upd H a o) h':=λb u e=>by
 have hn:=x.fresh hp;by_cases hb:b=a
 .subst hb;rw[qp]at e;cases e;exact new
 .rw[qd hb]at e;exact(x b u e).nE (λc v _ q=>k c v q) (λc q=>by rw[qd (qT q hn)];exact q) λc xs q=>by rw[qd (qT q hn)];exact q
end
def Rd(H:Hp)(a:Addr)(u:HO):Prop:=H a=some u\/∃o,H a=some (.frz o u)
def Rd.ok{P:Pg}{w:Wo}{H:Hp}{h:Heap}{a:Addr}{u:HO}(r:Rd H a u)(x:yp P w H h):se P w H h a u:=by
 rcases r with r|⟨o,r⟩
 .exact x a u r
 .obtain⟨_,q⟩:=x a _ r;exact q
def Uy:Option HO->Prop
 | some (.lst _)=>True
 | some (.dK _)=>True
 | some (.dT _)=>True
 | some (.set _ _)=>True
 | some (.ins _ _ _)=>True
 | some (.ext _)=>True
 | _=>False
variable {o':HO}
section
variable {P:Pg}{w:Wo}{x e:Addr}
def yp.write(ok:yp P w H h)(mu:Uy (H x))(he:e=x\/H e=some (.own x))(k:∀b u,b≠e->h.get? b=some u->h'.get? b=some u)(heo:∃u,h'.get? e=some u) (new:se P w (upd H x o') h' x o'):yp P w (upd H x o') h':=λb u q=>by
 have nown:∀c y,H c=some (.own y)->c≠x:=λc y r z=>by subst z;rw[r]at mu;exact mu
 have ntup:∀c xs,H c=some (.tup xs)->c≠x:=λc xs r z=>by subst z;rw[r]at mu;exact mu
 by_cases hb:b=x
 .subst hb;rw[qp]at q;cases q;exact new
 .rw[qd hb]at q;by_cases hbe:b=e
  .have q':H b=some (.own x):=by
    rcases he with z|z
    .exact absurd (hbe.trans z) hb
    .rw[hbe];exact z
   rw[q]at q';cases q';obtain⟨v,hv⟩:=heo;exact⟨v,by rw[hbe];exact hv⟩
  .refine(ok b u q).nE (λc v hc r=>k c v ?_ r) (λc r=>by rw[qd (nown c b r)];exact r) λc xs r=>by rw[qd (ntup c xs r)];exact r
   rcases hc with rfl|hc
   .exact hbe
   .rintro rfl
    rcases he with z|z
    .exact nown c b hc z
    .rw[hc]at z;cases z;exact hb rfl
end
structure Un(fs ex:QXQ)(H H':Hp)(h h':Heap):Prop where
 keep:∀b o,h.get? b=some o->H b=none->b∉fs->b∉ex->h'.get? b=some o
 slot:∀b o,h.get? b=some o->H b=none->b∈fs->b∉ex->∃sl,h'.get? b=some {o with slots:=sl}
 free:∀b o,h.get? b=some o->H b=none->b∉ex->H' b=none
 there:∀b o,h.get? b=some o->b∉ex->∃o',h'.get? b=some o'
 nL:∀b xs,H b=some (.tup xs)->H' b=some (.tup xs)
 nH:∀b o u,H b=some (.frz o u)->H' b=some (.frz o u)
 nO:∀b ps,H b=some (.tbl ps)->∃more,H' b=some (.tbl (ps++more))
variable {ex ex':QXQ}{H1 H2:Hp}{h1 h2:Heap}
section
variable {fs fs':QXQ}{a x e:Addr}{o:HO}
def Un.any(u:Un fs ex H H1 h h1){b:Addr}{ob:Obj}(q:h.get? b=some ob)(n:H b=none)(hx:b∉ex):∃sl,h1.get? b=some {ob with slots:=sl}:=by
 by_cases hb:b∈fs
 .exact u.slot b ob q n hb hx
 .exact⟨ob.slots,u.keep b ob q n hb hx⟩
def Un.trans(a:Un fs ex H H1 h h1)(b:Un fs ex H1 H2 h1 h2):Un fs ex H H2 h h2 where
 keep:=λc ob q n hc hx=>b.keep c ob (a.keep c ob q n hc hx) (a.free c ob q n hx) hc hx
 slot:=λc ob q n hc hx=>by obtain⟨sl,e1⟩:=a.slot c ob q n hc hx;obtain⟨Yu,e2⟩:=b.slot c _ e1 (a.free c ob q n hx) hc hx;exact⟨Yu,e2⟩
 free:=λc ob q n hx=>by obtain⟨o',e1⟩:=a.there c ob q hx;exact b.free c o' e1 (a.free c ob q n hx) hx
 there:=λc ob q hx=>by obtain⟨o',e1⟩:=a.there c ob q hx;exact b.there c o' e1 hx
 nL:=λc xs q=>b.nL c xs (a.nL c xs q)
 nH:=λc ob xs q=>b.nH c ob xs (a.nH c ob xs q)
 nO:=λc ps q=>by obtain⟨m1,e1⟩:=a.nO c ps q;obtain⟨m2,e2⟩:=b.nO c _ e1;exact⟨m1++m2,by rw[e2,kX]⟩
def Un.kept(k:∀b u,h.get? b=some u->h'.get? b=some u):Un fs ex H H h h':=
 ⟨λb ob q _ _ _=>k b ob q,λb ob q _ _ _=>⟨ob.slots,k b ob q⟩,λ_ _ _ n _=>n,λb ob q _=>⟨ob,k b ob q⟩,λ_ _ q=>q,λ_ _ _ q=>q,λ_ ps q=>⟨#[],by rw[q];simp⟩⟩
def Un.refl:Un fs ex H H h h:=Un.kept λ_ _ q=>q
def Un.laid(k:∀b u,h.get? b=some u->h'.get? b=some u)(hp:h.objs.size<=a)(hn:H a=none):Un fs ex H (upd H a o) h h' where
 keep:=λb u q _ _ _=>k b u q
 slot:=λb u q _ _ _=>⟨u.slots,k b u q⟩
 free:=λb u q n _=>by rw[qd (dG (dP (dA q) hp))];exact n
 there:=λb u q _=>⟨u,k b u q⟩
 nL:=λb xs q=>by rw[qd (qT q hn)];exact q
 nH:=λb u xs q=>by rw[qd (qT q hn)];exact q
 nO:=λb ps q=>⟨#[],by rw[qd (qT q hn),q];simp⟩
def Un.write(mu:Uy (H x))(he:e=x\/H e=some (.own x))(k:∀b u,b≠e->h.get? b=some u->h'.get? b=some u)(heo:∃u,h'.get? e=some u):Un fs ex H (upd H x o) h h':=by
 have hx:∀b,H b=none->b≠x:=λb n z=>by subst z;rw[n]at mu;exact mu
 have hb:∀b,H b=none->b≠e:=λb n z=>by
  subst z;rcases he with r|r
  .exact hx b n r
  .rw[n]at r;cases r
 have hm:∀b u,H b=some u->¬Uy (some u)->b≠x:=λb u q nm z=>by subst z;rw[q]at mu;exact nm mu
 refine⟨λb u q n _ _=>k b u (hb b n) q,λb u q n _ _=>⟨u.slots,k b u (hb b n) q⟩,λb u q n _=>by rw[qd (hx b n)];exact n,λb u q _=>?_,λb xs q=>by rw[qd (hm b _ q λz=>z)];exact q,λb u xs q=>by rw[qd (hm b _ q λz=>z)];exact q,λb ps q=>⟨#[],by rw[qd (hm b _ q λz=>z),q];simp⟩⟩
 by_cases hbe:b=e
 .subst hbe;exact heo
 .exact⟨u,k b u hbe q⟩
end
def U'(h:Heap)(H:Hp):QXQ:=(List.range h.objs.size).filter λa=>(H a).isSome
def FC(h:Heap)(H:Hp):Heap:=W.hideAll h (U' h H)
def Kz(h:Heap)(H:Hp):(FC h H).objs.size=h.objs.size:=W.hideAll_size _ _
def Mr{h:Heap}{H:Hp}{b:Addr}{o:Obj}(e:h.get? b=some o)(n:H b=none):(FC h H).get? b=some o:=
 W.hideAll_get _ e λhm=>by have q:(H b).isSome=true:=(fL.mp hm).2;rw[n]at q;simp at q
def OE{h:Heap}{H:Hp}{b:Addr}{o:Obj}(e:(FC h H).get? b=some o):h.get? b=some o/\H b=none:=by
 have e':h.get? b=some o:=W.of_hideAll (U' h H) e;refine⟨e',?_⟩;cases q:H b with
 | none=>rfl
 | some x=>have hm:b∈U' h H:=fL.mpr ⟨gi.mpr (dA e'),by simp[q]⟩;have z:(FC h H).get? b=none:=W.hideAll_none (U' h H) hm;rw[z]at e;cases e
structure Mod(K:qw)(mg:QQZ)(base:Heap):Prop where
 oN:K.In base
 glob:base.Ns mainGlobals mg
 blt:∃mb,base.Ns builtinsNs mb/\∀x:Str,x≠"__name__"->mb x=bootBuiltins x
 nolimit:base.NoLimit
structure Cx where
 prog:Pg
 w:Wo
 K:qw
 mg:QQZ
 base:Heap
 A:Ar
 N:QQQ
 s₀:Sd
 H₀:Hp
 env:Env
 outer:List Env
 stack:List Env
 ex:QXQ
 fn:Str->Bool
 calm:Bool
 pn:QQY
 xe:QQX
abbrev Bj(X:Cx)(e:Expr)(es:List Expr):Prop:=starEach (e::es) X.env=(false,eval e X.env)::starEach es X.env
abbrev CS(X:Cx)(p:Pos)(es:List Expr):Prop:=(backTo p (starEach es X.env)).any (·.1)=false
abbrev yJ(x:Str):Prop:=(x==("__debug__":Str))=false
abbrev KQ(X:Cx)(x:Str):Prop:=X.fn x=true\/X.env.scope.names.lookup x=some .local
def wg(l:List Env):QXQ:=l.filterMap (·.frame)
abbrev Cx.fs(X:Cx):QXQ:=wg X.outer
def R8(sc:Scope)(x:Str):Prop:=sc.names.lookup x=some .local\/sc.names.lookup x=some .cell\/sc.names.lookup x=some .free
def KR(sc:Scope)(x:Str):Prop:=sc.names.lookup x=some .local\/sc.names.lookup x=some .cell
def Ux(env:Env)(h:Heap)(m:QQZ)(x:Str)(u:Vl):Prop:=
 (env.kindOf x=some .local/\m x=some u)\/((env.kindOf x=some .cell\/env.kindOf x=some .free)/\∃c,env.cells.lookup x=some c/\h.IsCell c (some u))
structure Cx.Ok(X:Cx):Prop where
 mod:Mod X.K X.mg X.base
 kind:X.env.scope.kind=.function
 glob:X.env.globals=mainGlobals
 blt:X.env.builtins=builtinsNs
 above:X.s₀.heap.objs.size<=X.env.locals
 inj:∀x y c,X.env.cells.lookup x=some c->X.env.cells.lookup y=some c->x=y
 has:∀x,(X.env.kindOf x=some .cell\/X.env.kindOf x=some .free)->∃c,X.env.cells.lookup x=some c
 oK:∀x c,X.fn x=true->X.env.cells.lookup x=some c->X.s₀.heap.objs.size<=c
 hd:X.calm=true->X.A.handled=none
 frames:X.A.frames=some X.stack
 oR:X.stack=X.outer\/(X.stack=X.env::X.outer/\X.env.frame=some X.env.locals)
 pk:∀b∈X.ex,b≠X.env.locals/\∀x c,X.env.cells.lookup x=some c->c≠b
 bs:∀b o,X.base.get? b=some o->X.s₀.heap.get? b=some o/\X.H₀ b=none
 oq:X.base.objs.size<=X.s₀.heap.objs.size
 nZ:∀b o,X.base.get? b=some o->b∉X.ex
 oj:∀b∈X.ex,b∉X.fs
 nM:X.s₀.heap.FunFrames X.base X.outer
 oB:∀b∈X.fs,X.H₀ b=none
structure Inv(X:Cx)(W2:QQY)(σ:List (Option V))(H:Hp)(s:Sd):Prop where
 ok:X.Ok
 os:s.os=X.s₀.os
 bare:AllBare s.gens
 base:Un X.fs X.ex X.H₀ H X.s₀.heap s.heap
 loc:∃m,s.heap.Ns X.env.locals m/\∀(i:Nat) (x:Str) (v:V),X.N[i]?=some x->σ[i]?=some (some v)->R8 X.env.scope x->∃u,qN v u/\Ux X.env s.heap m x u
 cell:∀x c,X.env.cells.lookup x=some c->∃v,s.heap.IsCell c v
 free:H X.env.locals=none
 nk:∀x c,X.env.cells.lookup x=some c->H c=none
 pin:∀p∈X.pn++W2,s.heap.get? p.1=some p.2/\H p.1=none/\p.1≠X.env.locals/\p.1∉X.fs/\∀v,p.2.data≠.cell v
 mZ:yp X.prog X.w H s.heap
 len:σ.length=X.N.length
variable {X:Cx}{W2:List (Addr × Obj)}{s:Sd}
section
variable {σ:List (Option V)}
def Cx.Ok.nofr(ok:X.Ok){b:Addr}{o:Obj}(e:X.base.get? b=some o):b∉X.fs:=λhb=>by have:=(ok.nM.mem hb).1;rw[e]at this;cases this
def Inv.bs(I:Inv X W2 σ H s):∀b o,X.base.get? b=some o->s.heap.get? b=some o/\H b=none:=λb o e=>⟨I.base.keep b o (I.ok.bs b o e).1 (I.ok.bs b o e).2 (I.ok.nofr e) (I.ok.nZ b o e),I.base.free b o (I.ok.bs b o e).1 (I.ok.bs b o e).2 (I.ok.nZ b o e)⟩
def Inv.bk(I:Inv X W2 σ H s):∀b o,X.base.get? b=some o->s.heap.get? b=some o:=λb o e=>(I.bs b o e).1
def Inv.mod(I:Inv X W2 σ H s):Mod X.K X.mg X.base:=I.ok.mod
def Inv.ny(I:Inv X W2 σ H s):X.K.In s.heap:=I.ok.mod.oN.keeps I.bk
def Inv.lt(I:Inv X W2 σ H s):X.env.locals<s.heap.objs.size:=let⟨_,hn,_⟩:=I.loc;hn.lt
def Inv.sz(I:Inv X W2 σ H s):X.s₀.heap.objs.size<=s.heap.objs.size:=d9 I.ok.above (jL I.lt)
def Inv.pb(I:Inv X W2 σ H s){a:Addr}(h:s.heap.objs.size<=a):a∉X.fs:=λhb=>by obtain⟨_,o,ho,_⟩:=I.ok.nM.mem hb;exact absurd (dP (dA ho) (d9 I.sz h)) (fj _)
def Inv.pq(I:Inv X W2 σ H s):∀x c,X.env.cells.lookup x=some c->c≠X.env.locals:=λx c e z=>by obtain⟨v,o,ho,hd⟩:=I.cell x c e;obtain⟨m,⟨o',es,ep,XI,hd',_⟩,_⟩:=I.loc;rw[z,XI]at ho;cases ho;rw[hd']at hd;cases hd
def Inv.nM(I:Inv X W2 σ H s):s.heap.FunFrames X.base X.outer:=by
 have all:∀(l:List Env),(∀b∈wg l,b∈X.fs)->X.s₀.heap.FunFrames X.base l->s.heap.FunFrames X.base l:=by
  intro l;induction l with
  | nil=>intro _ _;trivial
  | cons env r ih=>intro hs hl;obtain⟨hk,⟨L,o,hf,hn,ho,hd⟩,hr⟩:=hl;have hL:L∈X.fs:=hs L (by unfold wg;rw[fY,hf];exact dU);obtain⟨sl,e⟩:=I.base.slot L o ho (I.ok.oB L hL) hL λz=>I.ok.oj L z hL;exact⟨hk,⟨L,_,hf,hn,e,hd⟩,ih (λb hb=>hs b (by unfold wg;rw[fY,hf];exact dH _ hb)) hr⟩
 exact all X.outer (λ_ hb=>hb) I.ok.nM
def Inv.stack(I:Inv X W2 σ H s):s.heap.FunFrames X.base X.stack:=by
 rcases I.ok.oR with e|⟨e,hf⟩
 .rw[e];exact I.nM
 .rw[e];obtain⟨m,hn,_⟩:=I.loc;refine .cons (by rw[I.ok.kind];decide) hf hn ?_ I.nM;exact gM (d9 I.ok.oq I.ok.above)
def Inv.nI(I:Inv X W2 σ H s):∀b∈wg X.stack,b∈X.env.locals::X.fs:=λb hb=>by
 rcases I.ok.oR with e|⟨e,hf⟩
 .rw[e]at hb;exact dH _ hb
 .rw[e]at hb;unfold wg at hb;rw[fY,hf]at hb;exact hb
def Inv.nQ(I:Inv X W2 σ H s):∀b∈wg X.stack,H b=none:=λb hb=>by
 rcases dv.mp (I.nI b hb)with e|hb
 .rw[e];exact I.free
 .obtain⟨_,o,ho,_⟩:=I.ok.nM.mem hb;exact I.base.free b o ho (I.ok.oB b hb) λz=>I.ok.oj b z hb
def Inv.step{g':Array GenState}{t':Nat}{d':Drawn}{ch:QXQ}(I:Inv X W2 σ H s) (X4:∀b∈ch,(b∈X.ex\/X.s₀.heap.objs.size<=b)/\b≠X.env.locals/\(∀x c,X.env.cells.lookup x=some c->c≠b)/\∀p∈X.pn++W2,p.1≠b) (keep:∀b o,b≠X.env.locals->b∉X.fs->b∉ch->s.heap.get? b=some o->H b=none->h'.get? b=some o) (slot:∀b o,b≠X.env.locals->b∈X.fs->b∉ch->s.heap.get? b=some o->H b=none->∃sl,h'.get? b=some {o with slots:=sl}) (free:∀b o,b∉ch->s.heap.get? b=some o->H b=none->H' b=none)
  (there:∀b o,b∉ch->s.heap.get? b=some o->∃o',h'.get? b=some o')
  (nL:∀b xs,H b=some (.tup xs)->H' b=some (.tup xs)) (nH:∀b o u,H b=some (.frz o u)->H' b=some (.frz o u)) (nO:∀b ps,H b=some (.tbl ps)->∃more,H' b=some (.tbl (ps++more)))
  (ns:∀m,s.heap.Ns X.env.locals m->h'.Ns X.env.locals m) (mZ:yp X.prog X.w H' h') (hg:AllBare g'):
  Inv X W2 σ H' {s with heap:=h',gens:=g',drawn:=d',toks:=t'}:=by
 have neL:∀b o,X.s₀.heap.get? b=some o->b≠X.env.locals:=λb o e=>dG (dP (dA e) I.ok.above);have neC:∀b o,X.s₀.heap.get? b=some o->b∉X.ex->b∉ch:=λb o e hx hb=>by
  rcases(X4 b hb).1 with z|z
  .exact hx z
  .exact absurd (dP (dA e) z) (fj _)
 have Zt:∀x c,X.env.cells.lookup x=some c->∀v,s.heap.IsCell c v->h'.IsCell c v:=λx c e v ⟨o,ho,hd⟩=>by
  have nch:c∉ch:=λz=>(X4 c z).2.2.1 x c e rfl;by_cases hc:c∈X.fs
  .obtain⟨sl,q⟩:=slot c o (I.pq x c e) hc nch ho (I.nk x c e);exact⟨_,q,hd⟩
  .exact⟨o,keep c o (I.pq x c e) hc nch ho (I.nk x c e),hd⟩
 refine⟨I.ok,I.os,hg,⟨λb o e n hb hx=>?_,λb o e n hb hx=>?_,λb o e n hx=>?_,λb o e hx=>?_,λb xs e=>nL b xs (I.base.nL b xs e),λb o xs e=>nH b o xs (I.base.nH b o xs e),λb ps e=>?_⟩,?_,λx c e=>?_,?_,λx c e=>?_,λp hp=>?_,mZ,I.len⟩
 .exact keep b o (neL b o e) hb (neC b o e hx) (I.base.keep b o e n hb hx) (I.base.free b o e n hx)
 .obtain⟨sl,e1⟩:=I.base.slot b o e n hb hx;obtain⟨Yu,e2⟩:=slot b _ (neL b o e) hb (neC b o e hx) e1 (I.base.free b o e n hx);exact⟨Yu,e2⟩
 .obtain⟨o',e1⟩:=I.base.there b o e hx;exact free b o' (neC b o e hx) e1 (I.base.free b o e n hx)
 .obtain⟨o',e1⟩:=I.base.there b o e hx;exact there b o' (neC b o e hx) e1
 .obtain⟨m1,e1⟩:=I.base.nO b ps e;obtain⟨m2,e2⟩:=nO b _ e1;exact⟨m1++m2,by rw[e2,kX]⟩
 .obtain⟨m,hn,hl⟩:=I.loc;refine⟨m,ns m hn,λi x v e1 e2 e3=>?_⟩;obtain⟨u,r,l⟩:=hl i x v e1 e2 e3;refine⟨u,r,?_⟩;rcases l with l|⟨k,c,e,z⟩
  .exact .inl l
  .exact .inr ⟨k,c,e,Zt x c e _ z⟩
 .obtain⟨v,z⟩:=I.cell x c e;exact⟨v,Zt x c e v z⟩
 .obtain⟨m,⟨o,_,_,ho,_⟩,_⟩:=I.loc;exact free _ o (λz=>(X4 _ z).2.1 rfl) ho I.free
 .obtain⟨v,o,ho,hd⟩:=I.cell x c e;exact free c o (λz=>(X4 c z).2.2.1 x c e rfl) ho (I.nk x c e)
 .obtain⟨e,n,ne,nf,d⟩:=I.pin p hp;have nch:p.1∉ch:=λz=>(X4 p.1 z).2.2.2 p hp rfl;exact⟨keep p.1 p.2 ne nf nch e n,free p.1 p.2 nch e n,ne,nf,d⟩
def Inv.un{t':Nat}(I:Inv X W2 σ H s)(u:Un X.fs [] H H' s.heap h')(mZ:yp X.prog X.w H' h'):Inv X W2 σ H' {s with heap:=h',toks:=t'}:=by
 obtain⟨m,⟨o,es,ep,ho,r⟩,_⟩:=id I.loc;obtain⟨sl,hL⟩:=u.any ho I.free (by simp);exact I.step (g':=s.gens) (d':=s.drawn) (ch:=[]) (λ_ z=>nomatch z) (λb o _ hb _ e n=>u.keep b o e n hb (by simp)) (λb o _ hb _ e n=>u.slot b o e n hb (by simp)) (λb o _ e n=>u.free b o e n (by simp)) (λb o _ e=>u.there b o e (by simp)) u.nL u.nH u.nO (λm' hm=>by
  obtain⟨o',es',ep',XI,r'⟩:=hm;rw[ho]at XI;cases XI;exact⟨_,es',ep',hL,r'⟩) mZ I.bare
def Inv.call{g':Array GenState}{t':Nat}{d':Drawn}{ch:QXQ}(I:Inv X W2 σ H s)(u:Un (wg X.stack) ch H H' s.heap h')(mZ:yp X.prog X.w H' h')(hg:AllBare g') (X4:∀b∈ch,(b∈X.ex\/X.s₀.heap.objs.size<=b)/\b≠X.env.locals/\(∀x c,X.env.cells.lookup x=some c->c≠b)/\∀p∈X.pn++W2,p.1≠b):
  Inv X W2 σ H' {s with heap:=h',gens:=g',drawn:=d',toks:=t'}:=by
 obtain⟨m,⟨o,es,ep,ho,r⟩,_⟩:=id I.loc;obtain⟨sl,hL⟩:=u.any ho I.free λz=>(X4 _ z).2.1 rfl;exact I.step (ch:=ch) X4 (λb o hL hb hc e n=>u.keep b o e n (λz=>(dv.mp (I.nI b z)).elim hL hb) hc) (λb o _ _ hc e n=>u.any e n hc) (λb o hc e n=>u.free b o e n hc) (λb o hc e=>u.there b o e hc) u.nL u.nH u.nO (λm' hm=>by
  obtain⟨o',es',ep',XI,r'⟩:=hm;rw[ho]at XI;cases XI;exact⟨_,es',ep',hL,r'⟩) mZ hg
def Inv.turned{t':Nat}{it:Addr}(I:Inv X W2 σ H s)(k:∀b o,b≠it->s.heap.get? b=some o->h'.get? b=some o)(hn:H it=none)(hL:it≠X.env.locals) (h1:it∈X.ex\/X.s₀.heap.objs.size<=it) (h2:∀x c,X.env.cells.lookup x=some c->c≠it) (h3:∀p∈X.pn++W2,p.1≠it):Inv X W2 σ H {s with heap:=h',toks:=t'}:=by
 have nit:∀b u,H b=some u->b≠it:=λb u e z=>by rw[z,hn]at e;cases e
 refine I.step (g':=s.gens) (d':=s.drawn) (ch:=[it]) (λb hb=>?_) (λb o _ _ hc e _=>k b o (λz=>hc (by simp[z])) e) (λb o _ _ hc e _=>⟨o.slots,k b o (λz=>hc (by simp[z])) e⟩) (λ_ _ _ _ n=>n)
  (λb o hc e=>⟨o,k b o (λz=>hc (by simp[z])) e⟩) (λ_ _ e=>e) (λ_ _ _ e=>e) (λb ps e=>⟨#[],by rw[e];simp⟩) (λm hm=>?_) (λb u e=>?_) I.bare
 .have e:b=it:=by simpa using hb
  subst e;exact⟨h1,hL,h2,h3⟩
 .obtain⟨o,es,ep,ho,r⟩:=hm;exact⟨o,es,ep,k _ o (dR hL) ho,r⟩
 .refine(I.mZ b u e).nE (λc v hc q=>k c v ?_ q) (λ_ q=>q) λ_ _ q=>q;rcases hc with z|z
  .rw[z];exact nit b u e
  .exact nit c _ z
def Inv.tok(I:Inv X W2 σ H s)(t:Nat):Inv X W2 σ H {s with toks:=t}:=I.un (h':=s.heap) (t':=t) Un.refl I.mZ
def Inv.kept{t':Nat}(I:Inv X W2 σ H s)(k:∀b u,s.heap.get? b=some u->h'.get? b=some u):Inv X W2 σ H {s with heap:=h',toks:=t'}:=I.un (Un.kept k) (I.mZ.kept k)
def Inv.laid{a:Addr}{o:HO}{t':Nat}(I:Inv X W2 σ H s)(k:∀b u,s.heap.get? b=some u->h'.get? b=some u)(hp:s.heap.objs.size<=a)(new:se X.prog X.w (upd H a o) h' a o):
  Inv X W2 σ (upd H a o) {s with heap:=h',toks:=t'}:=I.un (Un.laid k hp (I.mZ.fresh hp)) (I.mZ.laid k hp new)
def Inv.write{x e:Addr}{o:HO}{t':Nat}(I:Inv X W2 σ H s)(mu:Uy (H x))(he:e=x\/H e=some (.own x))(k:∀b u,b≠e->s.heap.get? b=some u->h'.get? b=some u)(heo:∃u,h'.get? e=some u) (new:se X.prog X.w (upd H x o) h' x o):Inv X W2 σ (upd H x o) {s with heap:=h',toks:=t'}:=I.un (Un.write mu he k heo) (I.mZ.write mu he k heo new)
def Inv.nW{X5:QQY}(I:Inv X W2 σ H s)(h:∀p∈X5,s.heap.get? p.1=some p.2/\H p.1=none/\p.1≠X.env.locals/\p.1∉X.fs/\∀v,p.2.data≠.cell v):Inv X X5 σ H s:=
 ⟨I.ok,I.os,I.bare,I.base,I.loc,I.cell,I.free,I.nk,λp hp=>(eh.mp hp).elim (λz=>I.pin p (fH _ z)) (h p),I.mZ,I.len⟩
def Cz{N:QQQ}(hN:N.Nodup){i j:Nat}{x:Str}(a:N[i]?=some x)(b:N[j]?=some x):i=j:=by obtain⟨h1,e1⟩:=c9.mp a;obtain⟨h2,e2⟩:=c9.mp b;exact(lR hN).mp (e1.trans e2.symm)
def Eg{M:Model}{A:Ar}{E:QQX}{i:Nat}{x:Str}{v:V}{u:Vl}{Q:Unit->Sd->Prop}(I:Inv X W2 σ H s)(hN:X.N.Nodup)(hi:X.N[i]?=some x)(hx:KR X.env.scope x)(r:qN v u) (h:∀s',Inv X W2 (σ.set i (some v)) H s'->(∃a,Heap.SameBut a s.heap s'.heap/\(a=X.env.locals\/X.env.cells.lookup x=some a))->Q () s') (hf:KQ X x:=by first|exact .inl rfl|exact .inr rfl|assumption):wpAny M A (storeName X.env x u) Q E s:=by
 obtain⟨m,hn,hl⟩:=id I.loc;have ZO:(X.env.scope.kind==.class||(X.env.scope.kind==.module&&X.env.locals != X.env.globals))=false:=by rw[I.ok.kind];rfl
 have hiσ:i<σ.length:=by rw[I.len];exact(c9.mp hi).1
 have pq:=I.pq;have Xi:∀{a:Addr} {h':Heap},(∃o,s.heap.get? a=some o/\H a=none)->Heap.SameBut a s.heap h'->yp X.prog X.w H h':=λ{a h'} ha hs b ob e=>by
  obtain⟨_,_,XQ⟩:=ha;refine(I.mZ b ob e).nE (λc w' hc q=>(hs.2 c ?_).trans q) (λ_ q=>q) λ_ _ q=>q
  rintro rfl
  rcases hc with rfl|hc
  .rw[XQ]at e;cases e
  .rw[XQ]at hc;cases hc
 rcases hx with hk|hk
 .refine wpAny_storeName_local hk hn (λh' YC hs=>?_) ZO;obtain⟨oL,_,_,hoL,_⟩:=id hn;refine h _ ⟨I.ok,I.os,I.bare,⟨λb o e n hb hx=>?_,λb o e n hb hx=>?_,I.base.free,λb o e hx=>?_,I.base.nL,I.base.nH,I.base.nO⟩,⟨_,YC,λj y v' e1 e2 e3=>?_⟩,λy c e=>?_,I.free,I.nk,λp hp=>?_,Xi ⟨oL,hoL,I.free⟩ hs,by simpa using I.len⟩ ⟨_,hs,.inl rfl⟩
  .exact(hs.2 b (dG (dP (dA e) I.ok.above))).trans (I.base.keep b o e n hb hx)
  .obtain⟨sl,e1⟩:=I.base.slot b o e n hb hx;exact⟨sl,(hs.2 b (dG (dP (dA e) I.ok.above))).trans e1⟩
  .obtain⟨o',e1⟩:=I.base.there b o e hx;exact⟨o',(hs.2 b (dG (dP (dA e) I.ok.above))).trans e1⟩
  .by_cases hj:j=i
   .subst hj;rw[hi]at e1;cases e1;rw[eO hiσ]at e2;cases e2;exact⟨u,r,.inl ⟨hk,by simp⟩⟩
   .rw[eU (dR hj)]at e2;obtain⟨u',r',q⟩:=hl j y v' e1 e2 e3;refine⟨u',r',?_⟩;rcases q with⟨k,e⟩|⟨k,c,e,z⟩
    .refine .inl ⟨k,?_⟩;have:y≠x:=λe=>hj (Cz hN e1 (e ▸ hi));simp[this,e]
    .exact .inr ⟨k,c,e,z.sameBut hs (pq y c e)⟩
  .obtain⟨w',z⟩:=I.cell y c e;exact⟨w',z.sameBut hs (pq y c e)⟩
  .obtain⟨e,n,ne,nf,d⟩:=I.pin p hp;exact⟨(hs.2 p.1 ne).trans e,n,ne,nf,d⟩
 .have hfn:X.fn x=true:=by
   rcases hf with z|z
   .exact z
   .rw[z]at hk;cases hk
  obtain⟨c,hc⟩:=I.ok.has x (.inl hk);obtain⟨w',z⟩:=I.cell x c hc;refine wpAny_storeName_cell I.ok.kind hk hc z (λh' hc' hs=>?_);obtain⟨oc,hoc,hocd⟩:=id z;refine h {s with heap:=h'} ⟨I.ok,I.os,I.bare,⟨λb o e n hb hx=>?_,λb o e n hb hx=>?_,I.base.free,λb o e hx=>?_,I.base.nL,I.base.nH,I.base.nO⟩,⟨m,hn.sameBut hs (dR (pq x c hc)),λj y v' e1 e2 e3=>?_⟩,λy c' e=>?_,I.free,I.nk,λp hp=>?_,Xi ⟨oc,hoc,I.nk x c hc⟩ hs,by simpa using I.len⟩ ⟨c,hs,.inr hc⟩
  .exact(hs.2 b (dG (dP (dA e) (I.ok.oK x c hfn hc)))).trans (I.base.keep b o e n hb hx)
  .obtain⟨sl,e1⟩:=I.base.slot b o e n hb hx;exact⟨sl,(hs.2 b (dG (dP (dA e) (I.ok.oK x c hfn hc)))).trans e1⟩
  .obtain⟨o',e1⟩:=I.base.there b o e hx;exact⟨o',(hs.2 b (dG (dP (dA e) (I.ok.oK x c hfn hc)))).trans e1⟩
  .by_cases hj:j=i
   .subst hj;rw[hi]at e1;cases e1;rw[eO hiσ]at e2;cases e2;exact⟨u,r,.inr ⟨.inl hk,c,hc,hc'⟩⟩
   .rw[eU (dR hj)]at e2;obtain⟨u',r',q⟩:=hl j y v' e1 e2 e3;refine⟨u',r',?_⟩;rcases q with q|⟨k,c',e,z'⟩
    .exact .inl q
    .refine .inr ⟨k,c',e,z'.sameBut hs ?_⟩
     rintro rfl
     exact hj (Cz hN e1 (I.ok.inj _ _ _ e hc ▸ hi))
  .by_cases Zu:c'=c
   .subst Zu;exact⟨_,hc'⟩
   .obtain⟨w2,z2⟩:=I.cell y c' e;exact⟨w2,z2.sameBut hs Zu⟩
  .obtain⟨e,n,ne,nf,d⟩:=I.pin p hp;refine⟨(hs.2 p.1 ?_).trans e,n,ne,nf,d⟩;intro q;rw[q,hoc]at e;have q':oc=p.2:=dw e;exact d w' (by rw[<-q'];exact hocd)
def xF{M:Model}{A:Ar}{E:QQX}{i:Nat}{x:Str}{v:V}{u:Vl}{Q:Unit->Sd->Prop}(I:Inv X W2 σ H s)(hN:X.N.Nodup)(hi:X.N[i]?=some x)(hx:KR X.env.scope x)(r:qN v u) (h:∀s',Inv X W2 (σ.set i (some v)) H s'->Q () s') (hf:KQ X x:=by first|exact .inl rfl|exact .inr rfl|assumption):wpAny M A (storeName X.env x u) Q E s:=
 Eg I hN hi hx r (λs' I' _=>h s' I') hf
def Inv.oZ{s':Sd}{ch:QXQ}(I:Inv X W2 σ H s)(ho:s'.os=s.os)(u:Un (wg X.stack) ch H H' s.heap s'.heap)(mZ:yp X.prog X.w H' s'.heap)(hg:AllBare s'.gens) (X4:∀b∈ch,(b∈X.ex\/X.s₀.heap.objs.size<=b)/\b≠X.env.locals/\(∀x c,X.env.cells.lookup x=some c->c≠b)/\∀p∈X.pn++W2,p.1≠b):Inv X W2 σ H' s':=by
 obtain⟨h',g',d',t',o'⟩:=s';have e:o'=s.os:=ho;subst e;exact I.call (g':=g') (t':=t') (d':=d') u mZ hg X4
end
abbrev XK:=Vl->Option Addr->Hp->Prop
abbrev St:=List (Option V)
abbrev VK:=V->Hp->Prop
abbrev TE:=St->Hp->VK->Prop
abbrev TT:=St->Hp->(Bool->Hp->Prop)->Prop
abbrev TA:=St->Hp->(List V->Hp->Prop)->Prop
structure Ez where
 nx:St->Hp->Prop
 rt:VK
 bk:St->Hp->Prop:=λ_ _=>False
 ct:St->Hp->Prop:=λ_ _=>False
abbrev TS:=Ez->St->Hp->Prop
def EP(X:Cx)(W2:QQY)(σ:St)(Q:VK)(u:Vl)(s':Sd):Prop:=∃v H',Inv X W2 σ H' s'/\qN v u/\Q v H'
def TP(X:Cx)(W2:QQY)(σ:St)(Q:Bool->Hp->Prop)(b:Bool)(s':Sd):Prop:=∃H',Inv X W2 σ H' s'/\Q b H'
def AP(X:Cx)(W2:QQY)(σ:St)(Q:List V->Hp->Prop)(us:List Vl)(s':Sd):Prop:=∃vs H',Inv X W2 σ H' s'/\qE vs us/\Q vs H'
def SP(X:Cx)(W2:QQY)(D:Ez)(f:Flow)(s':Sd):Prop:=
 match f with
 | .next=>∃σ' H',Inv X W2 σ' H' s'/\D.nx σ' H'
 | .brk=>∃σ' H',Inv X W2 σ' H' s'/\D.bk σ' H'
 | .cont=>∃σ' H',Inv X W2 σ' H' s'/\D.ct σ' H'
 | .ret u=>∃v σ' H',Inv X W2 σ' H' s'/\qN v u/\D.rt v H'
def PE(X:Cx)(e:Expr)(t:TE):Prop:=
 ∀(W2:QQY) (s:Sd) (σ:St) (H:Hp) (Q:VK),Inv X W2 σ H s->t σ H Q->wpAny (model X.prog X.w) X.A (eval e X.env) (EP X W2 σ Q) X.xe s
def PT(X:Cx)(e:Expr)(t:TT):Prop:=
 ∀(W2:QQY) (s:Sd) (σ:St) (H:Hp) (Q:Bool->Hp->Prop),Inv X W2 σ H s->t σ H Q->wpAny (model X.prog X.w) X.A (isTrue e X.env (eval e X.env)) (TP X W2 σ Q) X.xe s
def PW(X:Cx)(e:Expr)(t:TT):Prop:=
 ∀(XB:Sem Vl) (W2:QQY) (s:Sd) (σ:St) (H:Hp) (Q:Bool->Hp->Prop),Inv X W2 σ H s->t σ H Q->wpAny (model X.prog X.w) X.A (isTrue e X.env XB) (TP X W2 σ Q) X.xe s
def PW.pt{X:Cx}{e:Expr}{t:TT}(h:PW X e t):PT X e t:=h _
def PA(X:Cx)(es:List Expr)(t:TA):Prop:=
 ∀(pos:Pos) (W2:QQY) (s:Sd) (σ:St) (H:Hp) (Q:List V->Hp->Prop),Inv X W2 σ H s->t σ H Q->wpAny (model X.prog X.w) X.A (spliced (backTo pos (starEach es X.env))) (AP X W2 σ Q) X.xe s
def PS(X:Cx)(st:Stmt)(t:TS):Prop:=
 ∀(W2:QQY) (s:Sd) (σ:St) (H:Hp) (D:Ez),Inv X W2 σ H s->t D σ H->wpAny (model X.prog X.w) X.A (exec st X.env) (SP X W2 D) X.xe s
def Cn(X:Cx)(st:List Stmt)(t:TS):Prop:=
 ∀(W2:QQY) (s:Sd) (σ:St) (H:Hp) (D:Ez),Inv X W2 σ H s->t D σ H->wpAny (model X.prog X.w) X.A (execs st X.env) (SP X W2 D) X.xe s
def sH{α:Type}{t:Sem α}{Q Q':α->Sd->Prop}{M:Model}{A:Ar}{E:QQX}{s:Sd}(h:wpAny M A t Q E s)(hQ:∀a s,Q a s->Q' a s):wpAny M A t Q' E s:=eB h hQ λ_ _ x=>x
variable {tA tB':TT}{ta tb:TE}{pos:Pos}
section
def EM(i:Nat):TE:=λσ H Q=>∃v,σ[i]?=some (some v)/\Q v H
def tC(v:V):TE:=λ_ H Q=>Q v H
def LN{i:Nat}{x:Str}{pos:Pos}(hN:X.N[i]?=some x)(hv:R8 X.env.scope x)(hd:yJ x:=by decide)(X6:(x==("__classdict__":Str))=false:=by decide):PE X (.Name x pos) (EM i):=by
 intro W2 s σ H Q I h;obtain⟨v,e,h⟩:=h;obtain⟨m,hn,hl⟩:=I.loc;obtain⟨u,r,l⟩:=hl i x v hN e hv;have W7:EP X W2 σ Q u s:=⟨v,H,I,r,h⟩;rcases l with⟨hk,hm⟩|⟨hk,c,hc,hcell⟩
 .exact mi (wpAny_loadName_local I.ok.kind hk hn hm W7) hd
 .rcases hk with hk|hk
  .exact mi (wpAny_loadName_cell I.ok.kind hk hc hcell W7) hd
  .exact mi (wpAny_loadName_free I.ok.kind hk hc hcell W7 X6) hd
def SC{i j pos}:PE X (.Constant (.int i) j pos) (tC (.int i)):=λ_ _ _ H _ I h=>wpAny_Constant_int ⟨.int i,H,I.tok _,⟨_,rfl⟩,h⟩
def Uh{b j pos}:PE X (.Constant (.bool b) j pos) (tC (.bl b)):=λ_ _ _ H _ I h=>Constant_bool ⟨.bl b,H,I,rfl,h⟩
def SQ{j pos}:PE X (.Constant .none j pos) (tC .mW):=λ_ _ _ H _ I h=>Constant_none ⟨.mW,H,I,rfl,h⟩
def SA{x j pos}:PE X (.Constant (.str x) j pos) (tC (.str x)):=λ_ _ _ H _ I h=>Calls.Constant_str ⟨.str x,H,I.tok _,⟨_,rfl⟩,h⟩
def Gl(X:Cx)(x:Str):Prop:=X.env.kindOf x=some .globalImplicit
def w9{E:QQX}{W2:QQY}{s:Sd}{σ:St}{H:Hp}{x:Str}{u:Vl}{pos:Pos}{Q:QQX}(I:Inv X W2 σ H s)(hg:Gl X x)(hm:X.mg x=some u)(h:Q u s) (hd:yJ x:=by decide):wpAny (model X.prog X.w) X.A (eval (.Name x pos) X.env) Q E s:=
 jx I.ok.kind hg (Calls.loadGlobal_global (by rw[I.ok.glob];exact I.mod.glob.keeps I.bk) hm h) hd
def wD{E:QQX}{W2:QQY}{s:Sd}{σ:St}{H:Hp}{x:Str}{u:Vl}{pos:Pos}{Q:QQX}(I:Inv X W2 σ H s)(hg:Gl X x)(hm:X.mg x=none)(hv:bootBuiltins x=some u)(h:Q u s) (hn:x≠"__name__":=by decide) (hd:yJ x:=by decide):wpAny (model X.prog X.w) X.A (eval (.Name x pos) X.env) Q E s:=by
 obtain⟨mb,h1,h2⟩:=I.mod.blt;exact jx I.ok.kind hg (Calls.loadGlobal_builtin (by rw[I.ok.glob];exact I.mod.glob.keeps I.bk) hm (by rw[I.ok.blt];exact h1.keeps I.bk) ((h2 x hn).trans hv) h) hd
def EE{x:Str}{v:V}{u:Vl}{pos:Pos}(hg:Gl X x)(hm:X.mg x=some u)(r:qN v u)(hd:yJ x:=by decide):PE X (.Name x pos) (tC v):=
 λ_ _ _ H _ I h=>w9 I hg hm ⟨v,H,I,r,h⟩ hd
def OF{x:Str}{v:V}{u:Vl}{pos:Pos}(hg:Gl X x)(hm:X.mg x=none)(hv:bootBuiltins x=some u)(r:qN v u)(hn:x≠"__name__":=by decide)(hd:yJ x:=by decide):PE X (.Name x pos) (tC v):=
 λ_ _ _ H _ I h=>wD I hg hm hv ⟨v,H,I,r,h⟩ hn hd
variable {a b:Expr}
def tB(t:TE):TT:=λσ H Q=>t σ H λx H1=>∃c,x=.bl c/\Q c H1
def RI{e:Expr}{t:TE}(h:PE X e t)(he:∀XB,isTrue e X.env XB=(do let v<-XB;standAt e.pos;holding [v] (truthy v)):=by intro _;rfl):PT X e (tB t):=by intro W2 s σ H Q I hw;refine isTrue_plain (sH (h W2 s σ H _ I hw) λv s1 zz=>x5 zz λx H1 I1 r1 q1=>?_) (he _);obtain⟨d,rfl,q⟩:=q1;cases r1;exact fv ⟨H1,I1,q⟩
variable {rest:List Expr}
def VN(t u:TT):TT:=λσ H Q=>t σ H λc H1=>if c=true then u σ H1 Q else Q false H1
def WM(t u:TT):TT:=λσ H Q=>t σ H λc H1=>if c=true then Q true H1 else u σ H1 Q
def VU(t:TT):TT:=λσ H Q=>t σ H λc H1=>Q (!c) H1
def O5(ha:PT X a tA):PW X (.BoolOp .And [a] pos) tA:=by
 intro wh W2 s σ H Q I h;refine isTrue_and (sH (ha W2 s σ H Q I h) λc s1 e=>?_);cases c with
 | true=>exact isTrue_and_nil e
 | false=>exact e
def Rh(ha:PT X a tA):PW X (.BoolOp .Or [a] pos) tA:=by
 intro wh W2 s σ H Q I h;refine isTrue_or (sH (ha W2 s σ H Q I h) λc s1 e=>?_);cases c with
 | false=>exact isTrue_or_nil e
 | true=>exact e
def Sw(ha:PT X a tA)(hb:PW X (.BoolOp .And (b::rest) pos) tB'):PW X (.BoolOp .And (a::b::rest) pos) (VN tA tB'):=by
 intro wh W2 s σ H Q I h;refine isTrue_and (sH (ha W2 s σ H _ I h) λc s1 ⟨H1,I1,q1⟩=>?_);cases c with
 | true=>exact hb wh W2 s1 σ H1 Q I1 q1
 | false=>exact⟨H1,I1,q1⟩
def TC(ha:PT X a tA)(hb:PW X (.BoolOp .Or (b::rest) pos) tB'):PW X (.BoolOp .Or (a::b::rest) pos) (WM tA tB'):=by
 intro wh W2 s σ H Q I h;refine isTrue_or (sH (ha W2 s σ H _ I h) λc s1 ⟨H1,I1,q1⟩=>?_);cases c with
 | true=>exact⟨H1,I1,q1⟩
 | false=>exact hb wh W2 s1 σ H1 Q I1 q1
def RL(ha:PT X a tA):PT X (.UnaryOp .Not a pos) (VU tA):=by intro W2 s σ H Q I h;exact isTrue_not (ha W2 s σ H (λc H1=>Q (!c) H1) I h)
def U8(ta tb:TE):TE:=λσ H Q=>ta σ H λx H1=>∃c,x=.bl c/\if c=true then tb σ H1 Q else Q (.bl false) H1
def VQ(ta tb:TE):TE:=λσ H Q=>ta σ H λx H1=>∃c,x=.bl c/\if c=true then Q (.bl true) H1 else tb σ H1 Q
def U5(ta:TE):TE:=λσ H Q=>ta σ H λx H1=>∃c,x=.bl c/\Q (.bl (!c)) H1
def S7{op}{t:TE}(h:PE X a t):PE X (.BoolOp op [a] pos) t:=λW2 s σ H Q I hw=>BoolOp_one (h W2 s σ H Q I hw)
def SU(ha:PE X a ta)(hb:PE X (.BoolOp .And (b::rest) pos) tb):PE X (.BoolOp .And (a::b::rest) pos) (U8 ta tb):=by
 intro W2 s σ H Q I h;refine BoolOp_and (sH (ha W2 s σ H _ I h) λv s1 zz=>x5 zz λx H1 I1 r1 q1=>?_);obtain⟨c,rfl,q1⟩:=q1;cases r1;refine fv ?_;cases c with
 | true=>exact hb W2 s1 σ H1 Q I1 q1
 | false=>exact⟨.bl false,H1,I1,rfl,q1⟩
def UL(ha:PE X a ta)(hb:PE X (.BoolOp .Or (b::rest) pos) tb):PE X (.BoolOp .Or (a::b::rest) pos) (VQ ta tb):=by
 intro W2 s σ H Q I h;refine BoolOp_or (sH (ha W2 s σ H _ I h) λv s1 zz=>x5 zz λx H1 I1 r1 q1=>?_);obtain⟨c,rfl,q1⟩:=q1;cases r1;refine fv ?_;cases c with
 | false=>exact hb W2 s1 σ H1 Q I1 q1
 | true=>exact⟨.bl true,H1,I1,rfl,q1⟩
def Ss(ha:PE X a ta):PE X (.UnaryOp .Not a pos) (U5 ta):=by intro W2 s σ H Q I h;refine UnaryOp_ (sH (ha W2 s σ H _ I h) λv s1 zz=>x5 zz λx H1 I1 r1 q1=>?_);obtain⟨c,rfl,q1⟩:=q1;cases r1;exact not_of (fv ⟨.bl (!c),H1,I1,rfl,q1⟩)
def WP(t:TT)(ta tb:TE):TE:=λσ H Q=>t σ H λc H1=>if c=true then ta σ H1 Q else tb σ H1 Q
def NF{c:Expr}(hc:PT X c tA)(ha:PE X a ta)(hb:PE X b tb):PE X (.IfExp c a b pos) (WP tA ta tb):=by
 intro W2 s σ H Q I h;refine wpAny_IfExp (sH (hc W2 s σ H _ I h) λd s1 ⟨H1,I1,q1⟩=>?_);cases d with
 | true=>exact ha W2 s1 σ H1 Q I1 q1
 | false=>exact hb W2 s1 σ H1 Q I1 q1
end
def yZ(K:qw)(H:Hp)(a:Addr)(xs:List V):Prop:=
 Rd H a (.lst xs)\/
  ∃(o:Obj) (its:Array Vl) (n:Nat),K.lookup a=some o/\o.cls=.type "list"/\o.dict=none/\o.data=.seq its n/\its.size<=sizeLine/\qE xs its.toList
def ve(K:qw)(H:Hp)(a:Addr)(xs:List V):Prop:=
 Rd H a (.tup xs)\/
  ∃(o:Obj) (its:Array Vl) (n:Nat),K.lookup a=some o/\o.cls=.type "tuple"/\o.dict=none/\o.data=.seq its n/\its.size<=sizeLine/\qE xs its.toList
def Wb:Vl->Option V
 | .none=>some .mW
 | .bool b=>some (.bl b)
 | .int i _=>some (.int i)
 | .str x _=>some (.str x)
 | .bytes b _=>some (.byt b)
 | .float b _=>some (.flt b)
 | .ref a=>some (.ref a)
 | .type n=>some (.ty n)
 | _=>none
def qN.abs{x:V}{u:Vl}(r:qN x u):Wb u=some x:=by
 cases x with
 | mW=>cases r;rfl
 | bl _=>cases r;rfl
 | int _=>obtain⟨t,rfl⟩:=r;rfl
 | str _=>obtain⟨t,rfl⟩:=r;rfl
 | byt _=>obtain⟨t,rfl⟩:=r;rfl
 | flt _=>obtain⟨t,rfl⟩:=r;rfl
 | ref _=>cases r;rfl
 | ty _=>cases r;rfl
def qN.inj{x y:V}{u:Vl}(r:qN x u)(q:qN y u):x=y:=dw (r.abs.symm.trans q.abs)
theorem qE.inj:∀{xs ys:List V} {us:List Vl},qE xs us->qE ys us->xs=ys
 | _,_,_,.nil,.nil=>rfl
 | _,_,_,.cons r t,.cons r' t'=>by rw[r.inj r',qE.inj t t']
variable {xs ys:List V}
section
variable {σ:St}{a:Addr}
def ve.of{K:qw}(h:H a=some (.tup xs)):ve K H a xs:=.inl (.inl h)
def Inv.list(I:Inv X W2 σ H s)(h:yZ X.K H a xs):∃its:List Vl,qE xs its/\PlainL s.heap a its.toArray/\xs.length<=sizeLine:=by
 rcases h with h|⟨o,its,n,hk,hc,hd,hs,hz,r⟩
 .obtain⟨z,its,n,r,e⟩:=h.ok I.mZ;exact⟨its,r,⟨_,n,e,rfl,rfl,rfl⟩,z⟩
 .refine⟨its.toList,r,⟨o,n,I.ny a o hk,hc,hd,by simpa using hs⟩,?_⟩;have e:=r.length;simp only[ik]at e;omega
def Inv.tuple(I:Inv X W2 σ H s)(h:ve X.K H a xs):∃its:List Vl,qE xs its/\IsTup s.heap a its.toArray/\xs.length<=sizeLine:=by
 rcases h with h|⟨o,its,n,hk,hc,hd,hs,hz,r⟩
 .obtain⟨z,its,r,p⟩:=h.ok I.mZ;exact⟨its,r,p.is,z⟩
 .refine⟨its.toList,r,⟨o,I.ny a o hk,hc,n,by simpa using hs⟩,?_⟩;have e:=r.length;simp only[ik]at e;omega
def Inv.n9(I:Inv X W2 σ H s)(h:yZ X.K H a xs)(h':yZ X.K H a ys):xs=ys:=by
 obtain⟨its,r,⟨o,n,e,_,_,d⟩,_⟩:=I.list h;obtain⟨its',r',⟨o',n',e',_,_,d'⟩,_⟩:=I.list h';rw[e]at e';cases e';rw[d]at d';injection d' with d1 _
 have:its=its':=by simpa using eV Array.toList d1
 subst this;exact r.inj r'
def Inv.nC(I:Inv X W2 σ H s)(h:ve X.K H a xs)(h':ve X.K H a ys):xs=ys:=by
 obtain⟨its,r,⟨o,e,_,n,d⟩,_⟩:=I.tuple h;obtain⟨its',r',⟨o',e',_,n',d'⟩,_⟩:=I.tuple h';rw[e]at e';cases e';rw[d]at d';injection d' with d1 _
 have:its=its':=by simpa using eV Array.toList d1
 subst this;exact r.inj r'
end
abbrev Cx.nV(X:Cx)(E:QQX):Cx:={X with xe:=E}
abbrev Cx.oQ(X:Cx):Cx:=X.nV λ_ _=>False
def Cx.Ok.nV{X:Cx}(ok:X.Ok)(E:QQX):(X.nV E).Ok:=
 ⟨ok.mod,ok.kind,ok.glob,ok.blt,ok.above,ok.inj,ok.has,ok.oK,ok.hd,ok.frames,ok.oR,ok.pk,ok.bs,ok.oq,ok.nZ,ok.oj,ok.nM,ok.oB⟩
def Cx.Ok.nB{X:Cx}{E:QQX}(ok:(X.nV E).Ok):X.Ok:=
 ⟨ok.mod,ok.kind,ok.glob,ok.blt,ok.above,ok.inj,ok.has,ok.oK,ok.hd,ok.frames,ok.oR,ok.pk,ok.bs,ok.oq,ok.nZ,ok.oj,ok.nM,ok.oB⟩
section
variable {σ:St}{E:QQX}
def Inv.nV(I:Inv X W2 σ H s)(E:QQX):Inv (X.nV E) W2 σ H s:=⟨I.ok.nV E,I.os,I.bare,I.base,I.loc,I.cell,I.free,I.nk,I.pin,I.mZ,I.len⟩
def Inv.nB(I:Inv (X.nV E) W2 σ H s):Inv X W2 σ H s:=⟨I.ok.nB,I.os,I.bare,I.base,I.loc,I.cell,I.free,I.nk,I.pin,I.mZ,I.len⟩
def SP.nB{D:Ez}{f:Flow}{s':Sd}(h:SP (X.nV E) W2 D f s'):SP X W2 D f s':=by
 cases f with
 | next=>obtain⟨σ',H',I,q⟩:=h;exact⟨σ',H',I.nB,q⟩
 | brk=>obtain⟨σ',H',I,q⟩:=h;exact⟨σ',H',I.nB,q⟩
 | cont=>obtain⟨σ',H',I,q⟩:=h;exact⟨σ',H',I.nB,q⟩
 | ret u=>obtain⟨v,σ',H',I,r,q⟩:=h;exact⟨v,σ',H',I.nB,r,q⟩
def Cn.oQ{st:List Stmt}{t:TS}(h:Cn X.oQ st t):Cn X st t:=λW2 s σ H D I hw=>eB (h W2 s σ H D (I.nV _) hw) (λ_ _ q=>q.nB) λ_ _ z=>False.elim z
end
variable {st:Stmt}{u:TS}{te:TE}
section
variable {rest:List Stmt}{t:TS}{e:Expr}
def UD:TS:=λD σ H=>D.nx σ H
def VX(t u:TS):TS:=λD σ H=>t {D with nx:=u D} σ H
def Pu:Cn X [] UD:=λ_ _ σ H _ I h=>gU ⟨σ,H,I,h⟩
def Mh(h1:PS X st t)(h2:Cn X rest u):Cn X (st::rest) (VX t u):=by
 intro W2 s σ H D I h;refine jM (sH (h1 W2 s σ H {D with nx:=u D} I h) λf s1 q=>?_);cases f with
 | next=>obtain⟨σ',H',I',q⟩:=q;exact h2 W2 s1 σ' H' D I' q
 | ret v=>exact q
 | brk=>exact q
 | cont=>exact q
def EK(h1:PS X st t):Cn X [st] t:=by
 intro W2 s σ H D I h;refine jM (sH (h1 W2 s σ H D I h) λf s1 q=>?_);cases f with
 | next=>exact gU q
 | ret v=>exact q
 | brk=>exact q
 | cont=>exact q
def Um:TS:=λD σ H=>D.ct σ H
def Gx:PS X (.Continue pos) Um:=λ_ _ σ H _ I h=>wpAny_Continue ⟨σ,H,I,h⟩
def Inv.quiet{W2:QQY}{σ:St}{H:Hp}{s:Sd}(I:Inv X W2 σ H s):interactive X.env=false:=by simp[interactive,I.ok.kind]
def US(te:TE):TS:=λD σ H=>te σ H λ_ H1=>D.nx σ H1
def PX(he:PE X e te)(hs:swapsWith e none pos.line X.env=pure false:=by rfl):PS X (.Expr e pos) (US te):=by intro W2 s σ H D I h;exact wpAny_Expr_any (sH (he W2 s σ H _ I h) λv s1 zz=>x5 zz λx H1 I1 r1 q1=>⟨σ,H1,I1,q1⟩) I.quiet hs
def Vy(te:TE):TS:=λD σ H=>te σ H D.rt
def RD(he:PE X e te):PS X (.Return (some e) pos) (Vy te):=by intro W2 s σ H D I h;exact wpAny_Return_some (sH (he W2 s σ H _ I h) λv s1 zz=>x5 zz λx H1 I1 r1 q1=>⟨x,σ,H1,I1,r1,q1⟩)
def V6(c:TT)(t u:TS):TS:=λD σ H=>c σ H λb H1=>if b=true then t D σ H1 else u D σ H1
def Ur{c:Expr}{a b:List Stmt}{tc:TT}(hc:PT X c tc)(ha:Cn X a t)(hb:Cn X b u):PS X (.If c a b pos) (V6 tc t u):=by
 intro W2 s σ H D I h;refine wpAny_If (sH (hc W2 s σ H _ I h) λd s1 ⟨H1,I1,q1⟩=>?_);cases d with
 | true=>exact ha W2 s1 σ H1 D I1 q1
 | false=>exact hb W2 s1 σ H1 D I1 q1
def RP:TS:=λ_ _ _=>False
def MU:PS X st RP:=λ_ _ _ _ _ _ h=>h.elim
end
abbrev TG:=V->St->Hp->(St->Hp->Prop)->Prop
abbrev OB:=List V->St->Hp->(St->Hp->Prop)->Prop
def PG(X:Cx)(Xx:Expr)(t:TG):Prop:=
 ∀(W2:QQY) (s:Sd) (σ:St) (H:Hp) (v:V) (u:Vl) (Q:St->Hp->Prop),Inv X W2 σ H s->qN v u->t v σ H Q->
  wpAny (model X.prog X.w) X.A (assign Xx X.env u) (λ_ s'=>∃σ' H',Inv X W2 σ' H' s'/\Q σ' H') X.xe s
def NW(X:Cx)(ts:List Expr)(t:OB):Prop:=
 ∀(W2:QQY) (s:Sd) (σ:St) (H:Hp) (vs:List V) (us:List Vl) (Q:St->Hp->Prop),Inv X W2 σ H s->qE vs us->t vs σ H Q->
  wpAny (model X.prog X.w) X.A (assignInOrder ((assignEach ts X.env).map (·.2)) us) (λ_ s'=>∃σ' H',Inv X W2 σ' H' s'/\Q σ' H') X.xe s
abbrev RW:=V->V->V->Hp->(Hp->Prop)->Prop
def UK(X:Cx)(t:RW):Prop:=
 ∀(W2:QQY) (s:Sd) (σ:St) (H:Hp) (o i v:V) (ov iv u:Vl) (Q:Hp->Prop),Inv X W2 σ H s->qN o ov->qN i iv->qN v u->t o i v H Q->
  wpAny (model X.prog X.w) X.A (setItem ov iv u) (λ_ s'=>∃H',Inv X W2 σ H' s'/\Q H') X.xe s
def Jv(i:Nat):TG:=λv σ H Q=>Q (σ.set i (some v)) H
def Ou{i:Nat}{x:Str}(hN:X.N.Nodup)(hi:X.N[i]?=some x)(hx:KR X.env.scope x)(hf:KQ X x:=by first|exact .inl rfl|exact .inr rfl|assumption):PG X (.Name x pos) (Jv i):=by intro W2 s σ H v u Q I r h;exact lA (xF I hN hi hx r (λs' I'=>⟨_,H,I',h⟩) hf)
def V7:OB:=λvs σ H Q=>vs=[]/\Q σ H
def Uc(t:TG)(u:OB):OB:=λvs σ H Q=>∃v r,vs=v::r/\t v σ H λσ' H'=>u r σ' H' Q
def OK:NW X [] V7:=by intro W2 s σ H vs us Q I r h;obtain⟨e,h⟩:=h;subst e;cases r;exact assignInOrder_nil ⟨σ,H,I,h⟩
def NO{e:Expr}{es:List Expr}{t:TG}{u:OB}(h1:PG X e t)(h2:NW X es u) (hs:(assignEach (e::es) X.env).map (·.2)=assign e X.env::(assignEach es X.env).map (·.2):=by rfl):NW X (e::es) (Uc t u):=by
 intro W2 s σ H vs us Q I r h;obtain⟨v,vr,e1,h⟩:=h;subst e1;cases r with
 | cons r rr=>rw[hs];refine assignInOrder_cons (sH (h1 W2 s σ H _ _ _ I r h) λ_ s1 ⟨σ1,H1,I1,q1⟩=>?_);exact h2 W2 s1 σ1 H1 _ _ Q I1 rr q1
def Ws(K:qw)(n:Nat)(t:OB):TG:=λv σ H Q=>∃a xs,v=.ref a/\ve K H a xs/\xs.length=n/\t xs σ H Q
def RG{es:List Expr}{k:Nat}{t:OB}{n:Nat}(hc:X.calm=true)(h:NW X es t) (hn:(assignEach es X.env).length=n:=by rfl) (Xp:(assignEach es X.env).findIdx? (·.1)=none:=by rfl):PG X (.Tuple es k pos) (Ws X.K n t):=by
 intro W2 s σ H v u Q I r hw;obtain⟨a,xs,e1,hq,hl,hw⟩:=hw;subst e1;cases r;obtain⟨its,rv,ht,hz⟩:=I.tuple hq;refine assign_Tuple_tuple (I.ok.hd hc) ht (by simp[hn,<-hl,rv.length]) Xp λh' hx=>?_;have I1:Inv X W2 σ H {s with heap:=h'}:=I.kept (t':=s.toks) λb o e=>hx b o (dG (dA e)) e;exact h W2 _ σ H xs _ Q I1 (by simpa using rv) hw
def Wd(to ti:TE)(t:RW):TG:=λv σ H Q=>to σ H λo H1=>ti σ H1 λi H2=>t o i v H2 λH3=>Q σ H3
def Rv{o i:Expr}{to ti:TE}{t:RW}(ho:PE X o to)(hi:PE X i ti)(hs:UK X t) (ha:∀v,assign (.Subscript o i pos) X.env v=(do
   let ov<-holding [v] (eval o X.env);let iv<-holding [v,ov] (eval i X.env)
   standAt pos
   holding [v,ov,iv] (setItem ov iv v)
   release [v,ov,iv] []):=by intro _;rfl):PG X (.Subscript o i pos) (Wd to ti t):=by
 intro W2 s σ H v u Q I r h;rw[ha];refine cY (eE (sH (ho W2 s σ H _ I h) λov s1 zz=>x5 zz λx H1 I1 r1 q1=>?_));refine cY (eE (sH (hi W2 s1 σ H1 _ I1 q1) λiv s2 zz=>x5 zz λy H2 I2 r2 q2=>?_));refine cY (gT (cY (eE (sH (hs W2 s2 σ H2 x y v ov iv u _ I2 r1 r2 r q2) λ_ s3 ⟨H3,I3,q3⟩=>?_))));exact wpAny_release ⟨σ,H3,I3,q3⟩
def Qb(te:TE)(g:TG):TS:=λD σ H=>te σ H λx H1=>g x σ H1 D.nx
def Rp{tg e:Expr}{te:TE}{g:TG}(he:PE X e te)(hg:PG X tg g)(hs:swapsWithSole [tg] e pos.line X.env=pure false:=by rfl)(hw:swappedStores [tg] e X.env=pure none:=by rfl)
  (h1:(assignEach [tg] X.env).map (·.2)=[assign tg X.env]:=by rfl):PS X (.Assign [tg] e pos) (Qb te g):=by
 intro W2 s σ H D I h;refine wpAny_Assign_stores (sH (he W2 s σ H _ I h) λv s1 zz=>x5 zz λx H1 I1 r1 q1=>?_) hs hw;rw[h1];exact sH (hg W2 s1 σ H1 x v _ I1 r1 q1) λ_ s2 q=>q
def Mj{i:Nat}{x:Str}{e:Expr}{te:TE}{Xb:Pos}(hN:X.N.Nodup)(hi:X.N[i]?=some x)(hx:KR X.env.scope x)(he:PE X e te)(hs:swapsWith e (some (.Name x Xb)) pos.line X.env=pure false:=by rfl)(hf:KQ X x:=by first|exact .inl rfl|exact .inr rfl|assumption):
  PS X (.Assign [.Name x Xb] e pos) (Qb te (Jv i)):=by
 intro W2 s σ H D I h;refine lB (sH (he W2 s σ H _ I h) λv s1 zz=>x5 zz λy H1 I1 r1 q1=>?_) hs;exact xF I1 hN hi hx r1 (λs2 I2=>⟨_,H1,I2,q1⟩) hf
def RE(c:TT)(tb:TS):TS:=λD σ H=>∃W:Nat->St->Hp->Prop,(∃m,W m σ H)/\∀m σ H,W m σ H->
 c σ H λb H1=>if b=true then ∃N:St->Hp->Prop,(∀σ' H',N σ' H'->∃m',m'<m/\W m' σ' H')/\tb {D with nx:=N,ct:=N,bk:=D.nx} σ H1 else D.nx σ H1
def Nu{c:Expr}{body:List Stmt}{tc:TT}{tb:TS}(hp:PassesOwn (model X.prog X.w) X.A X.env X.xe)(hc:PT X c tc)(hb:Cn X body tb):PS X (.While c body [] pos) (RE tc tb):=by
 intro W2 s σ H D I h;obtain⟨W,⟨m0,w0⟩,turn⟩:=h;refine wpAny_While (codeAny_whileLoop (λn s'=>∃σ' H',Inv X W2 σ' H' s'/\W n σ' H') ?_ m0 ⟨σ,H,I,w0⟩)
 rintro n s1 ⟨σ1,H1,I1,w1⟩
 refine gF hp (sH (hc W2 s1 σ1 H1 _ I1 (turn n σ1 H1 w1)) λb s2 ⟨H2,I2,q2⟩=>?_);cases b with
 | true=>
  obtain⟨N,hN,q2⟩:=q2;rw[dh rfl];refine gF hp (sH (hb W2 s2 σ1 H2 _ I2 q2) λf s3 q3=>?_);cases f with
  | next=>obtain⟨σ3,H3,I3,n3⟩:=q3;obtain⟨m',hm,w3⟩:=hN σ3 H3 n3;exact⟨m',hm,σ3,H3,I3,w3⟩
  | cont=>obtain⟨σ3,H3,I3,n3⟩:=q3;obtain⟨m',hm,w3⟩:=hN σ3 H3 n3;exact⟨m',hm,σ3,H3,I3,w3⟩
  | brk=>exact q3
  | ret v=>exact q3
 | false=>rw[df dC];exact gU ⟨σ1,H2,I2,q2⟩
structure It where
 go:Nat->Hp->Prop
 oU:Nat->Hp->V->Hp->Prop
 stop:Nat->Hp->Prop
def A9(X:Cx)(W2:QQY)(H:Hp)(b:Addr):Prop:=
 H b=none/\b≠X.env.locals/\b∉X.fs/\(b∈X.ex\/X.s₀.heap.objs.size<=b)/\(∀x c,X.env.cells.lookup x=some c->c≠b)/\∀p∈X.pn++W2,p.1≠b
def Inv.oi{X:Cx}{W2:QQY}{σ:St}{H H':Hp}{s:Sd}{b:Addr}(I:Inv X W2 σ H s)(hb:s.heap.objs.size<=b)(hn:H' b=none):A9 X W2 H' b:=by
 refine⟨hn,gP (dP I.lt hb),I.pb hb,.inr (d9 I.sz hb),λx c e z=>?_,λp hp z=>?_⟩
 .obtain⟨v,q⟩:=I.cell x c e;exact absurd (dP q.lt (by rw[z];exact hb)) (fj _)
 .exact absurd (dP (dA (I.pin p hp).1) (by rw[z];exact hb)) (fj _)
structure FV(P:Pg)(w:Wo)(K:qw)(tg:Expr)(J:It)(fp:QXQ)(it:Addr)(tn:Nat->Heap->Prop):Prop where
 mem:it∈fp
 obj:∀i h,tn i h->∀b∈fp,∃o,h.get? b=some o/\∀v,o.data≠.cell v
 keep:∀i h h',tn i h->(∀b∈fp,∀o,h.get? b=some o->h'.get? b=some o)->tn i h'
 item:∀(X:Cx),X.prog=P->X.w=w->X.K=K->X.calm=true->∀(i:Nat) (W2:QQY) (s:Sd) (σ:St) (H:Hp) (E:QQX),Inv X W2 σ H s->(∀b∈fp,A9 X W2 H b)->tn i s.heap->J.go i H->
  wpAny (model P w) X.A (pyNext (.ref it)) (λr s1=>∃u,r=some u/\
   wpAny (model P w) X.A (letOwnedTupleGo tg (.ref it) u) (λ_ s2=>∃x H',Inv X W2 σ H' s2/\qN x u/\J.oU i H x H'/\tn (i+1) s2.heap/\∀b∈fp,H' b=none) E s1) E s
 done:∀(X:Cx),X.prog=P->X.w=w->X.K=K->X.calm=true->∀(i:Nat) (W2:QQY) (s:Sd) (σ:St) (H:Hp) (E:QQX),Inv X W2 σ H s->(∀b∈fp,A9 X W2 H b)->tn i s.heap->J.stop i H->
  wpAny (model P w) X.A (pyNext (.ref it)) (λr s1=>r=none/\Inv X W2 σ H s1) E s
 self:∀(A:Ar) (i:Nat) (s:Sd) (Q:QQX) (E:QQX),tn i s.heap->Q (.ref it) s->wpAny (model P w) A (pyIter (.ref it)) Q E s
abbrev TI:=St->Hp->(It->Hp->Prop)->Prop
def WK(X:Cx)(W2:QQY)(σ:St)(tg:Expr)(R:It->Hp->Prop)(itv:Vl)(s2:Sd):Prop:=
 ∃(it:Addr) (fp:QXQ) (tn:Nat->Heap->Prop) (J:It) (H':Hp),itv=.ref it/\Inv X W2 σ H' s2/\FV X.prog X.w X.K tg J fp it tn/\tn 0 s2.heap/\(∀b∈fp,A9 X W2 H' b)/\R J H'
def PI(X:Cx)(tg iter:Expr)(wi:TI):Prop:=
 ∀(W2:QQY) (s:Sd) (σ:St) (H:Hp) (R:It->Hp->Prop),Inv X W2 σ H s->wi σ H R->
  wpAny (model X.prog X.w) X.A (eval iter X.env) (λv s1=>wpAny (model X.prog X.w) X.A (pyIter v) (WK X W2 σ tg R) X.xe s1) X.xe s
def Jt{M:Model}{A:Ar}{E:QQX}{s:Sd}{tg:Expr}{it:Addr}{u:Vl}{o:Obj}{n:String}{vs:Array Vl}{Q:Unit->Sd->Prop}(ho:s.heap.get? it=some o)(hc:o.cls=.type n)(hd:o.data=.fields vs) (hn:["enumerate","zip","dict_itemiterator","dict_reverseitemiterator","odict_iterator","itertools.zip_longest","itertools.pairwise"].contains n=false) (hQ:Q () s):wpAny M A (letOwnedTupleGo tg (.ref it) u) Q E s:=by
  unfold letOwnedTupleGo;cases tg<;>first
    | exact dq hQ
    | (cases u<;>first
        | exact dq hQ
        | (refine cY (wpAny_load ho ?_)
           rw[hc,hd];show wpAny M A (if (["enumerate","zip","dict_itemiterator","dict_reverseitemiterator","odict_iterator","itertools.zip_longest","itertools.pairwise"].contains n&&vs[0]?==some (rawInt _))=true then _ else _) Q E s;rw[df (by intro h;rw[hn,eY]at h;cases h)];exact dq hQ))
def Vd(K:qw)(a:Addr):It:=
 ⟨λi H=>∃xs x,yZ K H a xs/\xs[i]?=some x,λi H x H'=>H'=H/\∀xs,yZ K H a xs->xs[i]?=some x,λi H=>∃xs,yZ K H a xs/\xs.length<=i⟩
def VJ(K:qw)(a:Addr):It:=
 ⟨λi H=>∃xs x,ve K H a xs/\xs[i]?=some x,λi H x H'=>H'=H/\∀xs,ve K H a xs->xs[i]?=some x,λi H=>∃xs,ve K H a xs/\xs.length<=i⟩
def Va(lo:Int)(n:Nat):It:=⟨λi _=>i<n,λi H x H'=>H'=H/\x=.int (lo+i),λi _=>n<=i⟩
def JQ{P:Pg}{w:Wo}{K:qw}{tg:Expr}(a it:Addr):FV P w K tg (Vd K a) [it] it (λi h=>h.IsListIter it a i) where
 mem:=by simp
 obj:=λi h st b hb=>by
  have e:b=it:=by simpa using hb
  subst e;obtain⟨o,e,c,d⟩:=st;exact⟨o,e,λv z=>by rw[d]at z;cases z⟩
 keep:=λi h h' st k=>st.at λo e=>k it (by simp) o e
 item:=by intro X hP hw hK hc i W2 s σ H E I hf st hg;subst hP hw hK;obtain⟨xs,x,hq,hx⟩:=hg;obtain⟨its,rv,p,hz⟩:=I.list hq;obtain⟨u,hu,ru⟩:=rv.get hx;obtain⟨f0,f1,f2,f3,f4,f5⟩:=hf it (by simp);refine j9 st p.isList (x:=u) (by simpa using hu) λh' XU sb=>?_;have I1:Inv X W2 σ H {s with heap:=h'}:=I.turned (t':=s.toks) (λb o hb e=>(sb.2 b hb).trans e) f0 f1 f3 f4 f5;obtain⟨o,e,c,d⟩:=id XU;exact⟨u,rfl,Jt (s:={s with heap:=h'}) e c d (by decide) ⟨x,H,I1,ru,⟨rfl,λys hy=>by rw[I.n9 hy hq];exact hx⟩,XU,λb hb=>(hf b hb).1⟩⟩
 done:=by intro X hP hw hK hc i W2 s σ H E I hf st hg;subst hP hw hK;obtain⟨xs,hq,hx⟩:=hg;obtain⟨its,rv,p,hz⟩:=I.list hq;obtain⟨f0,f1,f2,f3,f4,f5⟩:=hf it (by simp);have hl:=rv.length;exact kh (I.ok.hd hc) st p.isList (by simp;omega) λh' eb=>⟨rfl,I.turned (t':=s.toks) (λb o hb e=>eb b o hb e) f0 f1 f3 f4 f5⟩
 self:=λ_ _ _ _ _ st h=>wpAny_pyIter_listiter st h
def HB{P:Pg}{w:Wo}{K:qw}{tg:Expr}(a it:Addr):FV P w K tg (VJ K a) [it] it (λi h=>h.IsTupleIter it a i) where
 mem:=by simp
 obj:=λi h st b hb=>by
  have e:b=it:=by simpa using hb
  subst e;obtain⟨o,e,c,d⟩:=st;exact⟨o,e,λv z=>by rw[d]at z;cases z⟩
 keep:=λi h h' st k=>st.at λo e=>k it (by simp) o e
 item:=by intro X hP hw hK hc i W2 s σ H E I hf st hg;subst hP hw hK;obtain⟨xs,x,hq,hx⟩:=hg;obtain⟨its,rv,p,hz⟩:=I.tuple hq;obtain⟨u,hu,ru⟩:=rv.get hx;obtain⟨f0,f1,f2,f3,f4,f5⟩:=hf it (by simp);refine wpAny_pyNext_tuple_item st (show s.heap.IsTuple a its.toArray from p) (x:=u) (by simpa using hu) λh' XU sb=>?_;have I1:Inv X W2 σ H {s with heap:=h'}:=I.turned (t':=s.toks) (λb o hb e=>(sb.2 b hb).trans e) f0 f1 f3 f4 f5;obtain⟨o,e,c,d⟩:=id XU;exact⟨u,rfl,Jt (s:={s with heap:=h'}) e c d (by decide) ⟨x,H,I1,ru,⟨rfl,λys hy=>by rw[I.nC hy hq];exact hx⟩,XU,λb hb=>(hf b hb).1⟩⟩
 done:=by intro X hP hw hK hc i W2 s σ H E I hf st hg;subst hP hw hK;obtain⟨xs,hq,hx⟩:=hg;obtain⟨its,rv,p,hz⟩:=I.tuple hq;obtain⟨f0,f1,f2,f3,f4,f5⟩:=hf it (by simp);have hl:=rv.length;exact wpAny_pyNext_tuple_end (I.ok.hd hc) st (show s.heap.IsTuple a its.toArray from p) (by simp;omega) λh' eb=>⟨rfl,I.turned (t':=s.toks) (λb o hb e=>eb b o hb e) f0 f1 f3 f4 f5⟩
 self:=λ_ _ _ _ _ st h=>wpAny_pyIter_tupleiter st h
def Ic{P:Pg}{w:Wo}{K:qw}{tg:Expr}(it:Addr)(lo:Int)(n:Nat):FV P w K tg (Va lo n) [it] it (λi h=>IsRangeIter h it (lo+(i:Nat)*1) ((n:Int) - (i:Nat)) 1) where
 mem:=by simp
 obj:=λi h st b hb=>by
  have e:b=it:=by simpa using hb
  subst e;exact⟨_,st,λv z=>by
   have z':Data.fields _=Data.cell v:=z;cases z'⟩
 keep:=λi h h' st k=>k it (by simp) _ st
 item:=by intro X hP hw hK hc i W2 s σ H E I hf st hg;subst hP hw hK;obtain⟨f0,f1,f2,f3,f4,f5⟩:=hf it (by simp);have W:=Walks.range (prog:=X.prog) (w:=X.w) (I.ok.hd hc) it lo 1 n;refine W.item i s _ _ hg st λv h' tk hv XU kk=>?_;obtain⟨t,rfl⟩:=hv;have I1:Inv X W2 σ H {s with heap:=h',toks:=tk}:=I.turned (λb o hb e=>kk b o (by simpa using hb) e) f0 f1 f3 f4 f5;refine⟨_,rfl,Jt (s:={s with heap:=h',toks:=tk}) (n:="range_iterator") XU rfl rfl (by decide) ⟨.int (lo+i),H,I1,⟨t,?_⟩,⟨rfl,rfl⟩,XU,λb hb=>(hf b hb).1⟩⟩;rw[Int.mul_one]
 done:=by intro X hP hw hK hc i W2 s σ H E I hf st hg;subst hP hw hK;obtain⟨f0,f1,f2,f3,f4,f5⟩:=hf it (by simp);exact wpAny_pyNext_range_end (I.ok.hd hc) st (by have:n<=i:=hg;omega) λh' eb=>⟨rfl,I.turned (t':=s.toks) (λb o hb e=>eb b o hb e) f0 f1 f3 f4 f5⟩
 self:=λ_ _ _ _ _ st h=>wpAny_pyIter_rangeiter st h
variable {tg:Expr}
def NE{W2:QQY}{σ:St}{H:Hp}{s:Sd}{R:It->Hp->Prop}{E:QQX}{lo hi:Int}{t u v:Tok}{tk:Nat}(I:Inv X W2 σ H s)(h1:-(2 ^ 62)<=lo)(h2:lo<2 ^ 62)(h3:-(2 ^ 62)<=hi)(h4:hi<2 ^ 62) (q:R (Va lo (hi - lo).toNat) H):wpAny (model X.prog X.w) X.A (pyIter (.ref s.heap.objs.size)) (WK X W2 σ tg R) E {s with heap:=s.heap.push {cls:=.type "range",data:=.fields #[.int lo t,.int hi u,.int 1 v]},toks:=tk}:=by
 refine wpAny_pyIter_range (IsRange.new ..) (small_one h1 h2 h3 h4) ?_;have I1:Inv X W2 σ H {s with heap:=s.heap.push {cls:=.type "range",data:=.fields #[.int lo t,.int hi u,.int 1 v]},toks:=tk}:=I.kept λb o e=>dg _ e;refine⟨(s.heap.push {cls:=.type "range",data:=.fields #[.int lo t,.int hi u,.int 1 v]}).objs.size,[(s.heap.push {cls:=.type "range",data:=.fields #[.int lo t,.int hi u,.int 1 v]}).objs.size],_,_,H,rfl,I1.kept (t':=tk) λb o e=>dg _ e,Ic _ lo (hi - lo).toNat,?_,λb hb=>?_,q⟩
 .have e1:lo+((0:Nat):Int)*1=lo:=by simp
  have e2:(((hi - lo).toNat:Nat):Int) - ((0:Nat):Int)=Builtin.Range.rangeSize lo hi 1:=by rw[rangeSize_one];split<;>omega
  show IsRangeIter _ _ (lo+((0:Nat):Int)*1) ((((hi - lo).toNat:Nat):Int) - ((0:Nat):Int)) 1;rw[e1,e2];exact dI _ rfl
 .have e:b=(s.heap.push {cls:=.type "range",data:=.fields #[.int lo t,.int hi u,.int 1 v]}).objs.size:=by simpa using hb
  subst e;exact I1.oi (dz _) (I1.mZ.fresh (dz _))
def UZ(ta:TA):TI:=λσ H R=>ta σ H λvs H1=>∃j:Int,vs=[.int j]/\-(2 ^ 62)<=j/\j<2 ^ 62/\R (Va 0 j.toNat) H1
def KA{a:Expr}{ta:TA}{p pos:Pos}(hg:Gl X "range")(hm:X.mg "range"=none)(ha:PA X [a] ta)(hs:starEach [a] X.env=[(false,eval a X.env)]:=by rfl):PI X tg (.Call (.Name "range" p) [a] [] pos) (UZ ta):=by
 intro W2 s σ H R I h;refine Call_ (wD I hg hm boot_range (fW (sH (ha pos W2 s σ H _ I h) λus s1 zz=>x5 zz λvs H1 I1 r1 q1=>?_) hs rfl));obtain⟨j,e,q1,q2,q⟩:=q1;subst e;cases r1 with
 | cons r rr=>cases rr;obtain⟨t,rfl⟩:=r;exact call_range_1 (NE I1 (by omega) (by omega) q1 q2 (by simpa using q))
def Vm(wi:TI)(g:TG)(tb:TS):TS:=λD σ H=>wi σ H λJ H1=>∃W:Nat->Nat->St->Hp->Prop,(∃m,W 0 m σ H1)/\∀i m σ H,W i m σ H->
 (J.stop i H/\D.nx σ H)\/(J.go i H/\∃N:St->Hp->Prop,(∀σ' H',N σ' H'->∃m',m'<m/\W (i+1) m' σ' H')/\∀x H',J.oU i H x H'->g x σ H' λσ2 H2=>tb {D with nx:=N,ct:=N,bk:=D.nx} σ2 H2)
def BP(fp:QXQ)(h:Heap):QQY:=fp.filterMap λb=>(h.get? b).map λo=>(b,o)
def vA{fp:QXQ}{h:Heap}{b:Addr}{o:Obj}(hb:b∈fp)(e:h.get? b=some o):(b,o)∈BP fp h:=kY.mpr ⟨b,hb,by rw[e];rfl⟩
def KM{fp:QXQ}{h:Heap}{p:Addr×Obj}(hp:p∈BP fp h):p.1∈fp/\h.get? p.1=some p.2:=by
 obtain⟨b,hb,e⟩:=kY.mp hp;cases q:h.get? b with
 | none=>rw[q]at e;cases e
 | some o=>rw[q]at e;have e':(b,o)=p:=dw e;subst e';exact⟨hb,q⟩
def Inv.pinned{W2:QQY}{σ:St}{H:Hp}{s:Sd}{fp:QXQ}(I:Inv X W2 σ H s)(hf:∀b∈fp,A9 X W2 H b)(ho:∀b∈fp,∃o,s.heap.get? b=some o/\∀v,o.data≠.cell v):Inv X (W2++BP fp s.heap) σ H s:=
 I.nW λp hp=>(eh.mp hp).elim (λz=>I.pin p (eJ _ z)) λz=>by obtain⟨hb,e⟩:=KM z;obtain⟨f0,f1,f2,_⟩:=hf p.1 hb;obtain⟨o,e',d⟩:=ho p.1 hb;rw[e]at e';cases e';exact⟨e,f0,f1,f2,d⟩
def Inv.nu{W2 pl:QQY}{σ:St}{H:Hp}{s:Sd}(I:Inv X (W2++pl) σ H s):Inv X W2 σ H s:=I.nW λp hp=>I.pin p (eJ _ (fH _ hp))
def Si{iter:Expr}{body:List Stmt}{wi:TI}{g:TG}{tb:TS}{pos:Pos}(hp:PassesOwn (model X.prog X.w) X.A X.env X.xe)(hc:X.calm=true)(hi:PI X tg iter wi)(hg:PG X tg g)(hb:Cn X body tb) (hs:∀x,foldedSetIterable iter X.env x=pure x:=by intro _;rfl):PS X (.For tg iter body [] pos) (Vm wi g tb):=by
 intro W2 s σ H D I h;refine wpAny_For (sH (hi W2 s σ H _ I h) λv s1 h1=>sH h1 λitv s2 h2=>?_) hs;obtain⟨it,fp,tn,J,H2,e,I2,T,Xs,f2,W,⟨m0,w0⟩,turn⟩:=h2;subst e;have Yi:∀{H':Hp},(∀b∈fp,H' b=none)->∀b∈fp,A9 X W2 H' b:=λhn b hb=>⟨hn b hb,(f2 b hb).2⟩;refine codeAny_forLoop_any (λn s'=>∃i σ' H',Inv X W2 σ' H' s'/\tn i s'.heap/\(∀b∈fp,H' b=none)/\W i n σ' H') ?_ m0 ⟨0,σ,H2,I2,Xs,λb hb=>(f2 b hb).1,w0⟩
 rintro n s3 ⟨i,σ3,H3,I3,XC,fr3,w3⟩
 rcases turn i n σ3 H3 w3 with⟨stop,qn⟩|⟨go,N,hN,step⟩
 .refine gF hp (sH (T.done X rfl rfl rfl hc i W2 s3 σ3 H3 X.xe I3 (Yi fr3) XC stop) λr s4 ⟨hr,I4⟩=>?_);subst hr;exact gU ⟨σ3,H3,I4,qn⟩
 .refine gF hp (sH (T.item X rfl rfl rfl hc i W2 s3 σ3 H3 X.xe I3 (Yi fr3) XC go) λr s4 ⟨u,hr,h4⟩=>?_);subst hr;refine gF hp (sH h4 λ_ s5 zz=>?_);obtain⟨x,H5,I5,r5,y5,Zv,fr5⟩:=zz;have I5':=I5.pinned (Yi fr5) (T.obj _ _ Zv);refine gF hp (sH (hg _ s5 σ3 H5 x u _ I5' r5 (step x H5 y5)) λ_ s6 ⟨σ6,H6,I6,q6⟩=>?_);refine gF hp (sH (hb _ s6 σ6 H6 _ I6 q6) λf s7 q7=>?_);have again:∀{σ7:St} {H7:Hp},Inv X (W2++BP fp s5.heap) σ7 H7 s7->N σ7 H7->∃m,m<n/\∃i σ' H',Inv X W2 σ' H' s7/\tn i s7.heap/\(∀b∈fp,H' b=none)/\W i m σ' H':=λ{σ7 H7} I7 n7=>by obtain⟨m',hm,w7⟩:=hN σ7 H7 n7;refine⟨m',hm,i+1,σ7,H7,I7.nu,T.keep _ _ _ Zv λb hb o e=>(I7.pin (b,o) (eJ _ (eJ _ (vA hb e)))).1,λb hb=>?_,w7⟩;obtain⟨o,e,d⟩:=T.obj _ _ Zv b hb;exact(I7.pin (b,o) (eJ _ (eJ _ (vA hb e)))).2.1
  cases f with
  | next=>obtain⟨σ7,H7,I7,n7⟩:=q7;exact again I7 n7
  | cont=>obtain⟨σ7,H7,I7,n7⟩:=q7;exact again I7 n7
  | brk=>obtain⟨σ7,H7,I7,q7⟩:=q7;exact⟨σ7,H7,I7.nu,q7⟩
  | ret v=>obtain⟨x7,σ7,H7,I7,r7,q7⟩:=q7;exact⟨x7,σ7,H7,I7.nu,r7,q7⟩
abbrev R2:=V->V->Hp->VK->Prop
def xJ(X:Cx)(f:Vl->Vl->Sem Vl)(r:R2):Prop:=
 ∀(W2:QQY) (s:Sd) (σ:St) (H:Hp) (x y:V) (v u:Vl) (Q:VK),Inv X W2 σ H s->qN x v->qN y u->r x y H Q->
  wpAny (model X.prog X.w) X.A (f v u) (EP X W2 σ Q) X.xe s
def Wn(X:Cx)(f:Vl->Sem Vl)(r:V->Hp->VK->Prop):Prop:=
 ∀(W2:QQY) (s:Sd) (σ:St) (H:Hp) (x:V) (v:Vl) (Q:VK),Inv X W2 σ H s->qN x v->r x H Q->
  wpAny (model X.prog X.w) X.A (f v) (EP X W2 σ Q) X.xe s
def zp(X:Cx)(f:Vl)(r:List V->Hp->VK->Prop):Prop:=
 ∀(W2:QQY) (s:Sd) (σ:St) (H:Hp) (xs:List V) (us:List Vl) (Q:VK),Inv X W2 σ H s->qE xs us->r xs H Q->
  wpAny (model X.prog X.w) X.A (call f us) (EP X W2 σ Q) X.xe s
def TH(r:R2)(ta tb:TE):TE:=λσ H Q=>ta σ H λx H1=>tb σ H1 λy H2=>r x y H2 Q
def W0(r:V->Hp->VK->Prop)(ta:TE):TE:=λσ H Q=>ta σ H λx H1=>r x H1 Q
def rI(C:Int->Int->Prop)(g:Int->Int->V):R2:=λx y H Q=>∃i j,x=.int i/\y=.int j/\C i j/\Q (g i j) H
def QM(g:Int->Int->V):R2:=λx y H Q=>∃i j,x=.int i/\y=.int j/\Q (g i j) H
def rU(g:Int->V):V->Hp->VK->Prop:=λx H Q=>∃i,x=.int i/\Q (g i) H
variable {tc:TE}
section
variable {a b c:Expr}
def RZ(ha:PE X a ta)(hb:PE X b tb){W2:QQY}{s:Sd}{σ:St}{H:Hp}{R:V->V->Hp->Prop}(I:Inv X W2 σ H s) (h:ta σ H λx H1=>tb σ H1 λy H2=>R x y H2) {Q:QQX} {f:Vl->Vl->Sem Vl} (hf:∀v u s2 x y H2,Inv X W2 σ H2 s2->qN x v->qN y u->R x y H2->wpAny (model X.prog X.w) X.A (f v u) Q X.xe s2):
  wpAny (model X.prog X.w) X.A (eval a X.env) (λv s₁=>wpAny (model X.prog X.w) X.A (eval b X.env) (λu s₂=>wpAny (model X.prog X.w) X.A (f v u) Q X.xe s₂) X.xe s₁) X.xe s:=by
 refine sH (ha W2 s σ H _ I h) λv s1 zz=>x5 zz λx H1 I1 r1 q1=>?_;refine sH (hb W2 s1 σ H1 _ I1 q1) λu s2 zz=>x5 zz λy H2 I2 r2 q2=>?_;exact hf v u s2 x y H2 I2 r1 r2 q2
def QG{op:Operator}{r:R2}(ho:xJ X (binaryOp op) r)(ha:PE X a ta)(hb:PE X b tb):PE X (.BinOp a op b pos) (TH r ta tb):=by intro W2 s σ H Q I h;exact wpAny_BinOp (RZ ha hb I h λv u s2 x y H2 I2 rx ry q=>ho W2 s2 σ H2 x y v u Q I2 rx ry q)
def TV{op:UnaryOp}{r:V->Hp->VK->Prop}(ho:Wn X (unaryOp op) r)(ha:PE X a ta):PE X (.UnaryOp op a pos) (W0 r ta):=by intro W2 s σ H Q I h;exact UnaryOp_ (sH (ha W2 s σ H _ I h) λv s1 zz=>x5 zz λx H1 I1 r1 q1=>ho W2 s1 σ H1 x v Q I1 r1 q1)
def V4{f:Vl->Vl->Sem Vl}{C:Int->Int->Prop}{g:Int->Int->Int} (rule:∀(i j:Int) (t u:Tok) (s:Sd) (Q:QQX) (E:QQX),C i j->Q (.int (g i j) s.toks) {s with toks:=s.toks+1}->wpAny (model X.prog X.w) X.A (f (.int i t) (.int j u)) Q E s):
  xJ X f (rI C λi j=>.int (g i j)):=by
 intro W2 s σ H x y v u Q I rx ry h;obtain⟨i,j,rfl,rfl,hc,q⟩:=h;obtain⟨t,rfl⟩:=rx;obtain⟨t',rfl⟩:=ry;exact rule i j t t' s _ _ hc ⟨.int (g i j),H,I.tok _,⟨_,rfl⟩,q⟩
def Ue{f:Vl->Vl->Sem Vl}{g:Int->Int->Int} (rule:∀(i j:Int) (t u:Tok) (s:Sd) (Q:QQX) (E:QQX),Q (.int (g i j) s.toks) {s with toks:=s.toks+1}->wpAny (model X.prog X.w) X.A (f (.int i t) (.int j u)) Q E s):
  xJ X f (QM λi j=>.int (g i j)):=by
 intro W2 s σ H x y v u Q I rx ry h;obtain⟨i,j,rfl,rfl,q⟩:=h;obtain⟨t,rfl⟩:=rx;obtain⟨t',rfl⟩:=ry;exact rule i j t t' s _ _ ⟨.int (g i j),H,I.tok _,⟨_,rfl⟩,q⟩
def PV{f:Vl->Vl->Sem Vl}{g:Int->Int->Bool} (rule:∀(i j:Int) (t u:Tok) (s:Sd) (Q:QQX) (E:QQX),Q (.bool (g i j)) s->wpAny (model X.prog X.w) X.A (f (.int i t) (.int j u)) Q E s):
  xJ X f (QM λi j=>.bl (g i j)):=by
 intro W2 s σ H x y v u Q I rx ry h;obtain⟨i,j,rfl,rfl,q⟩:=h;obtain⟨t,rfl⟩:=rx;obtain⟨t',rfl⟩:=ry;exact rule i j t t' s _ _ ⟨.bl (g i j),H,I,rfl,q⟩
def UW(i j:Int):Prop:=0<j/\j<1073741824
def Dv(i j:Int):Prop:=(-(2 ^ 64)<i/\i<2 ^ 64)\/(-(2 ^ 64)<j/\j<2 ^ 64)
def Dv.ok{i j:Int}(h:Dv i j):IntMulOk i j:=by
 rcases h with⟨h1,h2⟩|⟨h1,h2⟩
 .exact .of_left (intBits_le_64 h1 h2)
 .exact .of_right (intBits_le_64 h1 h2)
def Su:xJ X (binaryOp .Add) (QM λi j=>.int (i+j)):=Ue λ_ _ _ _ _ _ _ q=>add_int q
def Q4:xJ X (binaryOp .Sub) (QM λi j=>.int (i - j)):=Ue λ_ _ _ _ _ _ _ q=>sub_int q
def S9:xJ X (binaryOp .Mult) (rI Dv λi j=>.int (i*j)):=V4 λ_ _ _ _ _ _ _ hc q=>mul_int q hc.ok
def Ol:xJ X (binaryOp .FloorDiv) (rI UW λi j=>.int (i / j)):=V4 λi j _ _ _ _ _ hc q=>by have h1:(0:Int)<j:=hc.1;have h2:j<1073741824:=hc.2;exact floordiv_int (by omega) (by rw[Int.fdiv_eq_ediv_of_nonneg i (by omega)];exact q) (.inl (PyProof.noPylong_small (by omega)))
def Sk:xJ X (binaryOp .Mod) (rI (λ_ j=>0<j) λi j=>.int (i % j)):=V4 λi j _ _ _ _ _ hc q=>by have h1:(0:Int)<j:=hc;exact mod_int' (by omega) (by rw[Int.fmod_eq_emod_of_nonneg i (by omega)];exact q)
def WQ{f:Vl->Sem Vl}{g:Int->Int} (rule:∀(i:Int) (t:Tok) (s:Sd) (Q:QQX) (E:QQX),Q (.int (g i) s.toks) {s with toks:=s.toks+1}->wpAny (model X.prog X.w) X.A (f (.int i t)) Q E s):
  Wn X f (rU λi=>.int (g i)):=by
 intro W2 s σ H x v Q I rx h;obtain⟨i,rfl,q⟩:=h;obtain⟨t,rfl⟩:=rx;exact rule i t s _ _ ⟨.int (g i),H,I.tok _,⟨_,rfl⟩,q⟩
def Q9:Wn X (unaryOp .USub) (rU λi=>.int (-i)):=WQ λ_ _ _ _ _ q=>neg_int q
end
section
variable {a b c:Expr}
def Hh{W2:QQY}{σ:St}{H:Hp}{s:Sd}{Q:VK}{k k':Bool}(I:Inv X W2 σ H s)(q:Q (.bl k) H)(e:k=k'):EP X W2 σ Q (.bool k') s:=by subst e;exact⟨.bl k,H,I,rfl,q⟩
def Uw:xJ X (compareOp .Lt) (QM λi j=>.bl (decide (i<j))):=PV λ_ _ _ _ _ _ _ q=>lt_int q
def UP:xJ X (compareOp .LtE) (QM λi j=>.bl (decide (i<=j))):=PV λ_ _ _ _ _ _ _ q=>le_int q
def Tv:xJ X (compareOp .Gt) (QM λi j=>.bl (decide (j<i))):=PV λ_ _ _ _ _ _ _ q=>gt_int q
def UX:xJ X (compareOp .GtE) (QM λi j=>.bl (decide (j<=i))):=PV λ_ _ _ _ _ _ _ q=>ge_int q
def J9:xJ X (compareOp .In) (λx y H Q=>∃i j,x=.str i/\y=.str j/\Q (.bl (!(Builtin.Str.occurrences j i 0 j.length 1).isEmpty)) H):=by intro W2 s σ H x y v u Q I rx ry h;obtain⟨i,j,rfl,rfl,q⟩:=h;obtain⟨t,rfl⟩:=rx;obtain⟨t',rfl⟩:=ry;exact in_str (Hh I q rfl)
def Sx:xJ X (compareOp .Is) (λx y H Q=>y=.mW/\Q (.bl (decide (x=.mW))) H):=by
 intro W2 s σ H x y v u Q I rx ry h;obtain⟨rfl,q⟩:=h;cases ry;refine is_none_gen (Hh I q ?_);cases x<;>first
  | (cases rx;rfl)
  | (obtain⟨t,rfl⟩:=rx;rfl)
def OL:xJ X (compareOp .IsNot) (λx y H Q=>y=.mW/\Q (.bl (!decide (x=.mW))) H):=by
 intro W2 s σ H x y v u Q I rx ry h;obtain⟨rfl,q⟩:=h;cases ry;refine isnot_none_gen (Hh I q ?_);cases x<;>first
  | (cases rx;rfl)
  | (obtain⟨t,rfl⟩:=rx;rfl)
def HD(b:Expr){op:CmpOp}(h:op≠.In:=by decide)(h2:op≠.NotIn:=by decide):behindInMarks op b=false:=by
 have e1:(op==CmpOp.In)=false:=by cases op<;>first|rfl|exact absurd rfl h
 have e2:(op==CmpOp.NotIn)=false:=by cases op<;>first|rfl|exact absurd rfl h2
 cases b<;>simp[behindInMarks,e1,e2]
def IZ{op:CmpOp}{r:R2}(ho:xJ X (compareOp op) r)(ha:PE X a ta)(hb:PE X b tb)(hm:behindInMarks op b=false):PE X (.Compare a [op] [b] pos) (TH r ta tb):=by intro W2 s σ H Q I h;exact wpAny_Compare1 (RZ ha hb I h λv u s2 x y H2 I2 rx ry q=>ho W2 s2 σ H2 x y v u Q I2 rx ry q) hm
def QD(t:TE):TT:=λσ H Q=>t σ H λx H'=>∃k,x=.bl k/\Q k H'
def JJ{op:CmpOp}{r:R2}(ho:xJ X (compareOp op) r)(ha:PE X a ta)(hb:PE X b tb)(hm:behindInMarks op b=false):PT X (.Compare a [op] [b] pos) (QD (TH r ta tb)):=by
 intro W2 s σ H Q I h;refine wpAny_isTrue_Compare1 (sH (ha W2 s σ H _ I h) λv s1 zz=>x5 zz λx H1 I1 r1 q1=>sH (hb W2 s1 σ H1 _ I1 q1) λu s2 zz=>x5 zz λy H2 I2 r2 q2=>
  sH (ho W2 s2 σ H2 x y v u _ I2 r1 r2 q2) λc s3 zz=>?_) hm
 obtain⟨z,H3,I3,r3,k,e,q3⟩:=zz;subst e;cases r3;exact fv ⟨H3,I3,q3⟩
def NP(r r':R2)(ta tb tc:TE):TE:=λσ H Q=>ta σ H λx H1=>tb σ H1 λy H2=>r x y H2 λz H3=>∃k,z=.bl k/\
 (if k=true then tc σ H3 λw' H4=>r' y w' H4 Q else Q (.bl false) H3)
def Lr{op XW:CmpOp}{r r':R2}(ho:xJ X (compareOp op) r)(XI:xJ X (compareOp XW) r')(ha:PE X a ta)(hb:PE X b tb)(hc:PE X c tc) (hm:lastMarks [op,XW] [b,c]=false:=by with_unfolding_all rfl):PE X (.Compare a [op,XW] [b,c] pos) (NP r r' ta tb tc):=by
 intro W2 s σ H Q I h;refine Compare_chain (sH (ha W2 s σ H _ I h) λv s1 zz=>x5 zz λx H1 I1 r1 q1=>chain_link (sH (hb W2 s1 σ H1 _ I1 q1) λu s2 zz=>x5 zz λy H2 I2 r2 q2=>
  sH (ho W2 s2 σ H2 x y v u _ I2 r1 r2 q2) λd s3 zz=>?_)) hm
 obtain⟨z,H3,I3,r3,k,e,q3⟩:=zz;subst e;cases r3;refine fv ?_;cases k with
 | false=>exact ite_ff ⟨.bl false,H3,I3,rfl,q3⟩
 | true=>exact ite_tt (chain_last (sH (hc W2 s3 σ H3 _ I3 q3) λw' s4 zz=>x5 zz λz' H4 I4 r4 q4=>XI W2 s4 σ H4 y z' u w' Q I4 r2 r4 q4))
def Lj{op XW:CmpOp}{r r':R2}(ho:xJ X (compareOp op) r)(XI:xJ X (compareOp XW) r')(ha:PE X a ta)(hb:PE X b tb)(hc:PE X c tc) (hm:lastMarks [op,XW] [b,c]=false:=by with_unfolding_all rfl):PT X (.Compare a [op,XW] [b,c] pos) (QD (NP r r' ta tb tc)):=by
 intro W2 s σ H Q I h;refine isTrue_chain (sH (ha W2 s σ H _ I h) λv s1 zz=>x5 zz λx H1 I1 r1 q1=>test_link (sH (hb W2 s1 σ H1 _ I1 q1) λu s2 zz=>x5 zz λy H2 I2 r2 q2=>
  sH (ho W2 s2 σ H2 x y v u _ I2 r1 r2 q2) λd s3 zz=>?_)) hm
 obtain⟨z,H3,I3,r3,k,e,q3⟩:=zz;subst e;cases r3;refine fv ?_;cases k with
 | false=>obtain⟨k',e',q'⟩:=q3;cases e';exact ite_ff ⟨H3,I3,q'⟩
 | true=>refine ite_tt (test_last (sH (hc W2 s3 σ H3 _ I3 q3) λw' s4 zz=>x5 zz λz' H4 I4 r4 q4=>sH (XI W2 s4 σ H4 y z' u w' _ I4 r2 r4 q4) λd' s5 zz=>?_));obtain⟨z2,H5,I5,r5,k2,e2,q5⟩:=zz;subst e2;cases r5;exact fv ⟨H5,I5,q5⟩
def yz:(sizeLine:Nat)<2 ^ 63:=by rw[dN];decide
def HV:xJ X (binaryOp .Add) (λx y H Q=>∃i j,x=.str i/\y=.str j/\i.length+j.length<=sizeLine/\Q (.str (i++j)) H):=by intro W2 s σ H x y v u Q I rx ry h;obtain⟨i,j,rfl,rfl,hz,q⟩:=h;obtain⟨t,rfl⟩:=rx;obtain⟨t',rfl⟩:=ry;exact add_str (λt' tk=>⟨.str (i++j),H,I.tok _,⟨_,rfl⟩,q⟩) hz
def yu{x:V}{us:List Vl}(r:qE [x] us):∃u,us=[u]/\qN x u:=by
 cases r with
 | cons r1 r2=>cases r2;exact⟨_,rfl,r1⟩
def Mv{x y:V}{us:List Vl}(r:qE [x,y] us):∃u w',us=[u,w']/\qN x u/\qN y w':=by
 cases r with
 | cons r1 r2=>
  cases r2 with
  | cons r3 r4=>cases r4;exact⟨_,_,rfl,r1,r3⟩
def Kj(hc:X.calm=true):zp X (.builtin "min") (λxs H Q=>∃i j,xs=[.int i,.int j]/\Q (.int (if j<i then j else i)) H):=by
 intro W2 s σ H xs us Q I r h;obtain⟨i,j,rfl,q⟩:=h;obtain⟨u,w',rfl,⟨t,rfl⟩,⟨t',rfl⟩⟩:=Mv r;refine min_two_ints (I.ok.hd hc) λh' tk k=>⟨_,H,I.kept k,?_,q⟩;by_cases hj:j<i
 .rw[dh hj,dh hj];exact⟨_,rfl⟩
 .rw[df hj,df hj];exact⟨_,rfl⟩
end
structure Iu(h:Heap)(x dx C:Addr)(mA:QQZ):Prop where
 obj:h.get? x=some (W.instObj C dx)
 ns:h.Ns1 dx mA
 ne:dx≠x
def J7{h:Heap}{dx:Addr}{mA:QQZ}(n:h.Ns1 dx mA):∃od,h.get? dx=some od/\∀name,W.lookIn name od=some (mA name):=by
 obtain⟨o,es,ep,ho,hd,hk,_,hm⟩:=n;refine⟨o,ho,λname=>?_⟩;have e:=hm name;unfold nsFind findBy at e;rw[<-kZ]at e;unfold W.lookIn;rw[hd];dsimp only;split
 .rename_i y q;rw[q]at e;exact eV some e
 .rename_i q;rw[q]at e;have a:es.toList.any (·.refKey)=false:=by rw[lC];intro y hy;obtain⟨z,t,hkey⟩:=hk y (kz.mp hy);simp[DictEntry.refKey,hkey]
  have a':¬es.toList.any (·.refKey)=true:=by rw[a];exact dC
  rw[df a'];exact eV some e
def Iu.look{h:Heap}{x dx C:Addr}{mA:QQZ}(I:Iu h x dx C mA):∃od,W.InstAt h x (W.instObj C dx) C (some od)/\∀name,W.lookIn name od=some (mA name):=
 let⟨od,ho,hl⟩:=J7 I.ns
 ⟨od,⟨I.obj,rfl,rfl,ho⟩,hl⟩
variable {prog:Pg}{A:Ar}{K:qw}{dx C:Addr}{mA:QQZ}{name:Str}
section
variable {w:Wo}{E:QQX}{x f:Addr}{v:Vl}
def OO{ZP:Bool}{Q:QQX}(X:K.In s.heap)(I:Iu s.heap x dx C mA)(hg:W.plainGet K C name=true)(hh:W.hasDictIn K C=true) (ha:W.findIn K (.ref C) name=some none) (hv:mA name=some v) (hv':W.handedIn v=true) (h:Q v {s with toks:=s.toks+1}):
  wpAny (model prog w) A (getAttr (.ref x) name ZP) Q E s:=by
 obtain⟨od,J,hl⟩:=I.look;exact W.get_value X J (kE hg).1 (W.findObj_own hh ha rfl (by rw[hl,hv])) hv' h
def Mw{pl:Sem Bool}{Q:Vl×List Vl->Sd->Prop}(X:K.In s.heap)(I:Iu s.heap x dx C mA)(hg:W.plainGet K C name=true) (hf:W.findIn K (.ref C) name=some (some (.ref f))) (ht:W.isFn K (.ref f)=true) (hv:mA name=none) (h:Q (.ref f,[.ref x]) s):
  wpAny (model prog w) A (getMethod (.ref x) name pl) Q E s:=by
 obtain⟨od,J,hl⟩:=I.look;exact W.method_fn X J (kE hg).1 (kE hg).2 hf (fk.mp ht) (by show(W.lookIn name od).map (·.isSome)=some false;rw[hl,hv];rfl) h
def Qc{ns:QQQ}{Q:Unit->Sd->Prop}(X:K.In s.heap)(I:Iu s.heap x dx C mA) (hs:W.findIn K (.ref C) "__setattr__"=some (some (.builtin "object.__setattr__"))) (hp:W.plainOver K C=true) (ht:W.takerIn K C name=some none) (hh:W.hasDictIn K C=true) (hw:PySem.Within mA ns) (hsz:ns.length<=sizeLine) (h:∀h',Iu h' x dx C (λy=>if y=name then some v else mA y)->Heap.SameBut dx s.heap h'->Q () {s with heap:=h',toks:=s.toks+2}):
  wpAny (model prog w) A (setAttr (.ref x) name v) Q E s:=by
 obtain⟨od,J,hl⟩:=I.look;refine W.set_plain X J hs (W.osa_open (s:={s with toks:=s.toks+1}) (r:=none) X J hp ht λb=>?_);obtain⟨cd,hc,hd'⟩:=W.any_some hh;have hx:s.heap.get? x=some ⟨.ref C,some dx,.plain,#[]⟩:=I.obj;refine cY (dq (cY (cY (wpAny_loadPart hx (cY (mD (s:={s with toks:=s.toks+1}) (kF X hc) ?_))))));rw[hd'];refine dq (a:=some dx) (cY (dq (cY ?_)));refine wpAny_nsSet1 (s:={s with toks:=s.toks+1}) I.ns λh' ZQ YI=>?_;obtain⟨oD,esD,epD,hoD,CU,hcD⟩:=ZQ.count (PySem.Within.cons name v hw);refine cY (lT hoD (by rw[CU];exact lU (d9 hcD (by rw[eD];omega))) ?_);exact dq (h _ ⟨(YI.2 _ (dR I.ne)).trans I.obj,ZQ,I.ne⟩ YI)
def Mf{R:Result->Sd->Prop}{vs:List Vl}{kw:List (Str×Vl)}(X:K.In s.heap)(hm:W.makesIn K C=true) (hi:W.findIn K (.ref C) "__init__"=some (some (.ref f))) (hf:W.typeIn K (.ref f)=some (.type "function")) (h:codeAny (model prog w) (A.under (.builtin "type.__call__" ⟨.ref C::vs,kw⟩)) (.call (.ref f) ⟨.ref (s.heap.objs.size+1)::vs,kw⟩) (W.InitBack (s.heap.objs.size+1) R) {s with heap:=(s.heap.push W.emptyDict).push (W.instObj C s.heap.objs.size)}):
  codeAny (model prog w) A (.call (.ref C) ⟨vs,kw⟩) R s:=by
 obtain⟨hh,g,d,t,os⟩:=s;exact W.make_core (W.makes_of X hm) (jk X hi) (λself=>W.bind_fn X self hf) (.inl rfl) h
end
def vC(f:Str)(v:V):List (Str×V)->List (Str×V)
 | []=>[(f,v)]
 | (g,x)::r=>if g=f then(g,v)::r else(g,x)::vC f v r
theorem Az(f g:Str)(v:V):∀fs:List (Str×V),(vC f v fs).lookup g=if g=f then some v else fs.lookup g
 | []=>by
  show List.lookup g [(f,v)]=_;by_cases h:g=f
  .have hb:(g==f)=true:=fk.mpr h;simp only[List.lookup,hb,dh h]
  .have hb:(g==f)=false:=gx.mpr h;simp only[List.lookup,hb,df h]
 | (k,x)::r=>by
  have ih:=Az f g v r;rw[show vC f v ((k,x)::r)=(if k=f then(k,v)::r else(k,x)::vC f v r)from rfl];by_cases hk:k=f
  .rw[dh hk];by_cases h:g=k
   .have hb:(g==k)=true:=fk.mpr h;simp only[List.lookup,hb,dh (h.trans hk)]
   .have hb:(g==k)=false:=gx.mpr h;simp only[List.lookup,hb,df (λe:g=f=>h (e.trans hk.symm))]
  .rw[df hk];by_cases h:g=k
   .have hb:(g==k)=true:=fk.mpr h;simp only[List.lookup,hb,df (λe:g=f=>hk (h.symm.trans e))]
   .have hb:(g==k)=false:=gx.mpr h;simp only[List.lookup,hb];exact ih
theorem An(f:Str)(v:V):∀fs:List (Str×V),f∈(vC f v fs).map (·.1)/\∀g,g∈fs.map (·.1)->g∈(vC f v fs).map (·.1)
 | []=>⟨by simp[vC],λg h=>by simp at h⟩
 | (k,x)::r=>by
  obtain⟨i1,i2⟩:=An f v r;rw[show vC f v ((k,x)::r)=(if k=f then(k,v)::r else(k,x)::vC f v r)from rfl];by_cases hk:k=f
  .rw[dh hk];subst hk;exact⟨by simp,λg h=>by simpa using h⟩
  .rw[df hk];refine⟨?_,λg h=>?_⟩
   .rw[dY];exact dH _ i1
   .rw[dY]at h ⊢;rcases dv.mp h with e|e
    .exact dv.mpr (.inl e)
    .exact dH _ (i2 g e)
theorem AB(f:Str)(v:V):∀fs:List (Str×V),(vC f v fs).length<=fs.length+1
 | []=>by simp[vC]
 | (k,x)::r=>by
  have ih:=AB f v r;rw[show vC f v ((k,x)::r)=(if k=f then(k,v)::r else(k,x)::vC f v r)from rfl];by_cases hk:k=f
  .rw[dh hk,eD,eD];omega
  .rw[df hk,eD,eD];omega
def yo.some_of{v:V}{o:Option Vl}(r:yo (some v) o):∃u,o=some u/\qN v u:=by
 cases o with
 | none=>exact(show False from r).elim
 | some u=>exact⟨u,rfl,r⟩
def yo.none_of{o:Option Vl}(r:yo none o):o=none:=by
 cases o with
 | none=>rfl
 | some u=>exact(show False from r).elim
def Ks{v:V}{u:Vl}(r:qN v u):W.handedIn u=true:=by
 cases v with
 | mW=>cases(show u=Value.none from r);rfl
 | bl b=>cases(show u=Value.bool b from r);rfl
 | int i=>obtain⟨t,e⟩:=(show ∃t,u=Value.int i t from r);cases e;rfl
 | str x=>obtain⟨t,e⟩:=(show ∃t,u=Value.str x t from r);cases e;rfl
 | byt b=>obtain⟨t,e⟩:=(show ∃t,u=Value.bytes b t from r);cases e;rfl
 | flt b=>obtain⟨t,e⟩:=(show ∃t,u=Value.float b t from r);cases e;rfl
 | ref a=>cases(show u=Value.ref a from r);rfl
 | ty n=>cases(show u=Value.type n from r);rfl
section
variable {P:Pg}{w:Wo}{a:Addr}{fs fs':List (Str × V)}
def Bh(mZ:yp P w H h)(e:H a=some (.ins C dx fs)):∃mA,Iu h a dx C mA/\(∀f,yo (fs.lookup f) (mA f))/\PySem.Within mA (fs.map (·.1))/\fs.length<=1000/\H dx=some (.own a):=by obtain⟨d,z,ne,ob,mA,n,r,q⟩:=(show se P w H h a (.ins C dx fs)from mZ a _ e);exact⟨mA,⟨ob,n,ne⟩,r,q,z,d⟩
end
structure Cls(K:qw)(C:Addr):Prop where
 pg:W.plainGet K C Str.empty=true
 hd:W.hasDictIn K C=true
 po:W.plainOver K C=true
 sa:W.findIn K (.ref C) "__setattr__"=some (some (.builtin "object.__setattr__"))
def Cls.get{K:qw}{C:Addr}(c:Cls K C)(f:Str):W.plainGet K C f=true:=c.pg
def uj(K:qw)(C:Addr)(f:Str):Prop:=W.findIn K (.ref C) f=some none
def uj.o9{K:qw}{C:Addr}{f:Str}(n:uj K C f):W.takerIn K C f=some none:=by unfold W.takerIn;rw[show W.findIn K (.ref C) f=some none from n];rfl
structure W1(K:qw)(C:Addr)(f:Str)(v:V)(u:Vl):Prop where
 at_:W.findIn K (.ref C) f=some (some u)
 rel:qN v u
 get:W.specialIn K u "__get__"=some none
 cp:W.copiedNames.contains f=false
structure vE(K:qw)(C:Addr)(m:Str)(f:Addr):Prop where
 at_:W.findIn K (.ref C) m=some (some (.ref f))
 fn:W.isFn K (.ref f)=true
 kp:W.keepIn K (.ref f)=true
section
variable {σ:St}{a:Addr}{fs:List (Str × V)}{f:Str}{v:V}{E:QQX}
def CP{b:Bool}{Q:QQX}(I:Inv X W2 σ H s)(e:H a=some (.ins C dx fs))(c:Cls X.K C)(n:uj X.K C f)(l:fs.lookup f=some v) (h:∀u s',Inv X W2 σ H s'->qN v u->Q u s'):wpAny (model X.prog X.w) A (getAttr (.ref a) f b) Q E s:=by
 obtain⟨mA,O,r,_,_,_⟩:=Bh I.mZ e;obtain⟨u,hu,ru⟩:=yo.some_of (v:=v) (o:=mA f) (by rw[<-l];exact r f);exact OO I.ny O (c.get f) c.hd n hu (Ks ru) (h u _ (I.tok _) ru)
def BO{m:Str}{g:Addr}{pl:Sem Bool}{Q:Vl×List Vl->Sd->Prop}(I:Inv X W2 σ H s)(e:H a=some (.ins C dx fs))(c:Cls X.K C)(k:vE X.K C m g)(l:fs.lookup m=none) (h:Q (.ref g,[.ref a]) s):wpAny (model X.prog X.w) A (getMethod (.ref a) m pl) Q E s:=by
 obtain⟨mA,O,r,_,_,_⟩:=Bh I.mZ e;have hn:mA m=none:=yo.none_of (by rw[<-l];exact r m);exact Mw I.ny O (c.get m) k.at_ k.fn hn h
def Bx{y:V}{u:Vl}{Q:Unit->Sd->Prop}(I:Inv X W2 σ H s)(e:H a=some (.ins C dx fs))(c:Cls X.K C)(n:uj X.K C f)(hl:fs.length<1000)(ry:qN y u) (h:∀s',Inv X W2 σ (upd H a (.ins C dx (vC f y fs))) s'->Q () s'):wpAny (model X.prog X.w) A (setAttr (.ref a) f u) Q E s:=by
 obtain⟨mA,O,r,wi,_,ho⟩:=Bh I.mZ e;have hz:(fs.map (·.1)).length<=sizeLine:=by rw[cX,dN];omega
 refine Qc I.ny O c.sa c.po n.o9 c.hd wi hz λh' O' sb=>h _ ?_;have hd:∃o,h'.get? dx=some o:=let⟨o,_,_,e',_⟩:=O'.ns;⟨o,e'⟩;refine I.write (x:=a) (e:=dx) (by rw[e];exact True.intro) (.inr ho) (λb q hb z=>(sb.2 b hb).trans z) hd ?_;refine⟨by rw[qd O.ne];exact ho,?_,O.ne,O'.obj,_,O'.ns,λg=>?_,λg hg=>?_⟩
 .have:=AB f y fs;omega
 .show yo ((vC f y fs).lookup g) (if g=f then some u else mA g);rw[Az];by_cases q:g=f
  .rw[dh q,dh q];exact ry
  .rw[df q,df q];exact r g
 .by_cases q:g=f
  .rw[q];exact(An f y fs).1
  .refine(An f y fs).2 g (wi g λz=>hg ?_);show(if g=f then some u else mA g)=none;rw[df q];exact z
def Inv.made(I:Inv X W2 σ H s):Inv X W2 σ (upd (upd H s.heap.objs.size (.own (s.heap.objs.size+1))) (s.heap.objs.size+1) (.ins C s.heap.objs.size [])) {s with heap:=(s.heap.push W.emptyDict).push (W.instObj C s.heap.objs.size)}:=by
 have e1:(s.heap.push W.emptyDict).get? s.heap.objs.size=some W.emptyDict:=dI s.heap rfl;have e2:((s.heap.push W.emptyDict).push (W.instObj C s.heap.objs.size)).get? (s.heap.objs.size+1)=some (W.instObj C s.heap.objs.size):=by
  have:=dI (s.heap.push W.emptyDict) (o:=W.instObj C s.heap.objs.size) rfl
  rwa [fB]at this
 have e3:(s.heap.push W.emptyDict).Ns s.heap.objs.size (λ_=>none):=⟨W.emptyDict,#[],_,e1,rfl,(λe he=>absurd he (by simp)),λ_=>rfl⟩;have I1:=I.laid (a:=s.heap.objs.size) (o:=.own (s.heap.objs.size+1)) (h':=s.heap.push W.emptyDict) (t':=s.toks) (λb u q=>dg _ q) (dz _) ⟨_,e1⟩;refine I1.laid (a:=s.heap.objs.size+1) (o:=.ins C s.heap.objs.size []) (t':=s.toks) (λb u q=>dg _ q) (mE (fB _ _)) ?_;have ne:s.heap.objs.size≠s.heap.objs.size+1:=dG (fJ _);refine⟨by rw[qd ne,qp],eP _,ne,e2,λ_=>none,(lD e3).at λo q=>dg _ q,λ_=>True.intro,λy hy=>absurd rfl hy⟩
def Ji{prog:Pg}{w:Wo}{env:Env}{e:Expr}{f:Str}{pos:Pos}{s:Sd}{Q:QQX}(hb:attributeBase e f env (eval e env)=eval e env) (h:wpAny (model prog w) A (eval e env) (λo s₁=>wpAny (model prog w) A (getAttr o f true) Q E s₁) E s):wpAny (model prog w) A (eval (.Attribute e f pos) env) Q E s:=
 Attribute_any_ h (by rw[arm_eval_Attribute,hb])
end
def VH(K:qw)(ta:TE)(f:Str):TE:=λσ H Q=>ta σ H λx H1=>∃a C dx fs v,x=.ref a/\H1 a=some (.ins C dx fs)/\Cls K C/\uj K C f/\fs.lookup f=some v/\Q v H1
def VE(K:qw)(ta tv:TE)(f:Str):TS:=λD σ H=>tv σ H λy H1=>ta σ H1 λx H2=>∃a C dx fs,x=.ref a/\H2 a=some (.ins C dx fs)/\Cls K C/\uj K C f/\fs.length<1000/\
 D.nx σ (upd H2 a (.ins C dx (vC f y fs)))
def QB(X:Cx)(op:Operator)(rd:V->V->Hp->VK->Prop):Prop:=
 ∀(W2:QQY) (s:Sd) (σ:St) (H:Hp) (x y:V) (u v:Vl) (Q:VK),Inv X W2 σ H s->qN x u->qN y v->rd x y H Q->wpAny (model X.prog X.w) X.A (inplaceOp op u v) (EP X W2 σ Q) X.xe s
def PC(K:qw)(ta tv:TE)(rd:V->V->Hp->VK->Prop)(f:Str):TS:=λD σ H=>ta σ H λx H1=>∃a C dx fs v,x=.ref a/\H1 a=some (.ins C dx fs)/\Cls K C/\uj K C f/\fs.lookup f=some v/\
 tv σ H1 λy H2=>rd v y H2 λz H3=>∃ZR fs',H3 a=some (.ins C ZR fs')/\fs'.length<1000/\D.nx σ (upd H3 a (.ins C ZR (vC f z fs')))
variable {value:Expr}{Xb Zc:Pos}{tv:TE}
section
variable {o e:Expr}{f:Str}
def S6(he:PE X e ta)(hb:attributeBase e f X.env (eval e X.env)=eval e X.env):PE X (.Attribute e f pos) (VH X.K ta f):=by intro W2 s σ H Q I h;refine Ji hb (sH (he W2 s σ H _ I h) λu s1 zz=>?_);obtain⟨x,H1,I1,rx,a,C,dx,fs,v,ex,ea,c,n,l,q⟩:=zz;subst ex;obtain rfl:u=Value.ref a:=rx;exact CP I1 ea c n l λu' s2 I2 ru=>⟨v,H1,I2,ru,q⟩
def Rj(ha:PE X o ta)(hv:PE X value tv)(hs:swapsWith value (some (.Attribute o f Xb)) pos.line X.env=pure false):PS X (.Assign [.Attribute o f Xb] value pos) (VE X.K ta tv f):=by intro W2 s σ H D I h;refine iR (sH (hv W2 s σ H _ I h) λu s1 zz=>x5 zz λy H1 I1 ry q=>sH (ha W2 s1 σ H1 _ I1 q) λov s2 zz=>?_) hs;obtain⟨x,H2,I2,rx,a,C,dx,fs,ex,ea,c,n,l,q2⟩:=zz;subst ex;obtain rfl:ov=Value.ref a:=rx;exact Bx I2 ea c n l ry λs3 I3=>⟨σ,_,I3,q2⟩
def Kr{op:Operator}{rd:V->V->Hp->VK->Prop}(ha:PE X o ta)(hv:PE X value tv)(hop:QB X op rd):PS X (.AugAssign (.Attribute o f Zc) op value pos) (PC X.K ta tv rd f):=by intro W2 s σ H D I h;refine wpAny_AugAssign_AttributeAny (sH (ha W2 s σ H _ I h) λov s1 zz=>?_);obtain⟨x,H1,I1,rx,a,C,dx,fs,v,ex,ea,c,n,l,q⟩:=zz;subst ex;obtain rfl:ov=Value.ref a:=rx;refine CP I1 ea c n l λu s2 I2 ru=>sH (hv W2 s2 σ H1 _ I2 q) λw3 s3 zz=>x5 zz λy H2 I3 ry q3=>sH (hop W2 s3 σ H2 v y u w3 _ I3 ru ry q3) λw4 s4 zz=>?_;obtain⟨z,H3,I4,rz,ZR,fs',ea',l',q4⟩:=zz;exact Bx I4 ea' c n l' rz λs5 I5=>⟨σ,_,I5,q4⟩
def Vw:V->V->Hp->VK->Prop:=λx y H Q=>∃i j,x=.int i/\y=.int j/\Q (.int (i+j)) H
def Wj:V->V->Hp->VK->Prop:=λx y H Q=>∃i j,x=.int i/\y=.int j/\Q (.int (i - j)) H
def RQ:QB X .Add Vw:=by
 rintro W2 s σ H x y u v Q I rx ry ⟨i,j,rfl,rfl,q⟩
 obtain⟨t,rfl⟩:=(show ∃t,u=Value.int i t from rx);obtain⟨t',rfl⟩:=(show ∃t',v=Value.int j t' from ry);exact PyProof.Rows.iadd_int ⟨.int (i+j),H,I.tok _,⟨_,rfl⟩,q⟩
def RA:QB X .Sub Wj:=by
 rintro W2 s σ H x y u v Q I rx ry ⟨i,j,rfl,rfl,q⟩
 obtain⟨t,rfl⟩:=(show ∃t,u=Value.int i t from rx);obtain⟨t',rfl⟩:=(show ∃t',v=Value.int j t' from ry);exact PyProof.Rows.isub_int ⟨.int (i - j),H,I.tok _,⟨_,rfl⟩,q⟩
end
variable {Q:QQX}
section
variable {σ:St}{E:QQX}{c:Vl}{b:Bool}
inductive A8(K:qw)(H:Hp):V->Vl->Prop where
 | mW:A8 K H .mW (.type "NoneType")
 | bl (x:Bool):A8 K H (.bl x) (.type "bool")
 | int (i:Int):A8 K H (.int i) (.type "int")
 | str (x:Str):A8 K H (.str x) (.type "str")
 | flt (x:UInt64):A8 K H (.flt x) (.type "float")
 | lst {a:Addr} {xs:List V} (e:H a=some (.lst xs)):A8 K H (.ref a) (.type "list")
 | frz {a:Addr} {o:Obj} {xs:List V} (e:H a=some (.frz o (.lst xs))):A8 K H (.ref a) (.type "list")
 | tup {a:Addr} {xs:List V} (e:H a=some (.tup xs)):A8 K H (.ref a) (.type "tuple")
 | dK {a:Addr} {kvs:List (rc×V)} (e:H a=some (.dK kvs)):A8 K H (.ref a) (.type "dict")
 | dT {a:Addr} {kvs:List (List rc×V)} (e:H a=some (.dT kvs)):A8 K H (.ref a) (.type "dict")
 | ins {a C dx:Addr} {fs:List (Str×V)} (e:H a=some (.ins C dx fs)) (cl:Cls K C) (ha:W.findIn K (.ref C) "__class__"=some (some (.builtin "object.__class__")))
   (hn:W.specialIn K (.builtin "object.__class__") "__get__"=some (some (.builtin "getset_descriptor.__get__"))) (htk:W.takesIn K (.builtin "object.__class__")=some true)
   (hm:W.mroIn K C (.type "object")=some true):A8 K H (.ref a) (.ref C)
def uK{x:V}{u t:Vl}(I:Inv X W2 σ H s)(rx:qN x u)(ty:A8 X.K H x t)(e:W.kitOne X.K t c=some b)(h:∀tk,Q (.bool b) {s with toks:=tk}):
  wpAny (model X.prog X.w) A (call (.builtin "isinstance") [u,c]) Q E s:=by
 cases ty with
 | mW=>cases(show u=Value.none from rx);exact gu W.kitx_none I.ny True.intro e (λz=>nomatch z) h
 | bl y=>cases(show u=Value.bool y from rx);exact gu W.kitx_bool I.ny True.intro e (λz=>nomatch z) h
 | int i=>obtain⟨t,q⟩:=(show ∃t,u=Value.int i t from rx);cases q;exact gu W.kitx_int I.ny True.intro e (λz=>nomatch z) h
 | str y=>obtain⟨t,q⟩:=(show ∃t,u=Value.str y t from rx);cases q;exact gu W.kitx_str I.ny True.intro e (λz=>nomatch z) h
 | flt y=>obtain⟨t,q⟩:=(show ∃t,u=Value.float y t from rx);cases q;exact gu W.kitx_float I.ny True.intro e (λz=>nomatch z) h
 | @lst a xs ea=>cases(show u=Value.ref a from rx);obtain⟨_,_,n,_,h1⟩:=(show se X.prog X.w H s.heap a (.lst xs)from I.mZ a _ ea);exact gu lL I.ny ⟨_,h1,rfl⟩ e (λz=>nomatch z) h
 | @frz a ob xs ea=>cases(show u=Value.ref a from rx);obtain⟨_,_,_,n,_,h1⟩:=(show se X.prog X.w H s.heap a (.frz ob (.lst xs))from I.mZ a _ ea);exact gu lL I.ny ⟨_,h1,rfl⟩ e (λz=>nomatch z) h
 | @tup a xs ea=>cases(show u=Value.ref a from rx);obtain⟨_,_,_,p⟩:=(show se X.prog X.w H s.heap a (.tup xs)from I.mZ a _ ea);obtain⟨o,h1,h2,_⟩:=p;exact gu W.kitx_tuple I.ny ⟨o,h1,h2⟩ e (λz=>nomatch z) h
 | @dK a kvs ea=>cases(show u=Value.ref a from rx);obtain⟨_,_,vs,_,p⟩:=(show se X.prog X.w H s.heap a (.dK kvs)from I.mZ a _ ea);obtain⟨o,es,ep,h1,h2,_⟩:=p;exact gu W.kitx_dict I.ny ⟨o,h1,h2.1⟩ e (λz=>nomatch z) h
 | @dT a kvs ea=>cases(show u=Value.ref a from rx);obtain⟨_,_,xs,_,o,es,ep,h1,h2,_⟩:=(show se X.prog X.w H s.heap a (.dT kvs)from I.mZ a _ ea);exact gu W.kitx_dict I.ny ⟨o,h1,h2.1⟩ e (λz=>nomatch z) h
 | @ins a C dx fs ea cl ha hn htk hm=>cases(show u=Value.ref a from rx);obtain⟨mA,O,_⟩:=Bh I.mZ ea;obtain⟨od,J,_⟩:=O.look;exact gu (W.kitx_own (cl.get _) cl.hd ha hn htk hm) I.ny J e (λz=>nomatch z) h
end
structure sj(k:Nat)(A:Ar):Prop where
 hd:A.handled=none
 dp:A.depth+3*k+5<recursionLimit
 un:A.units+16*k+200<cLine
def sj.mono{j k:Nat}{A:Ar}(r:sj k A)(h:j<=k):sj j A:=⟨r.hd,by have:=r.dp;omega,by have:=r.un;omega⟩
def sj.deeper{k:Nat}{A:Ar}(r:sj (k+1) A)(env:Env):sj k (A.deeper env):=
 ⟨r.hd,by have:=r.dp;show A.depth+1+3*k+5<_;omega,by have:=r.un;show A.units+3+16*k+200<_;omega⟩
def Hy{A:Ar}{C:Addr}{us:List Vl}{kw:List (Str×Vl)}:(A.under (.builtin "type.__call__" ⟨.ref C::us,kw⟩)).depth=A.depth+1:=by first|rfl|simp[Around.under,Code.weight,Code.isCreation,Code.isGuard,Code.isCaller,Code.frames,Code.isFrame,guardIds]
def Ie{A:Ar}{C:Addr}{us:List Vl}{kw:List (Str×Vl)}:(A.under (.builtin "type.__call__" ⟨.ref C::us,kw⟩)).units=A.units+1:=by first|rfl|simp[Around.under,Code.cUnits,Code.frames,Code.isFrame]
def sj.make{k:Nat}{A:Ar}(r:sj (k+1) A)(C:Addr)(us:List Vl)(kw:List (Str×Vl)):sj k (A.under (.builtin "type.__call__" ⟨.ref C::us,kw⟩)):=
 ⟨r.hd,by have:=r.dp;rw[Hy];omega,by have:=r.un;rw[Ie];omega⟩
def sj.depth{k:Nat}{A:Ar}(r:sj k A):A.depth<recursionLimit:=by have:=r.dp;omega
def sj.units{k:Nat}{A:Ar}(r:sj k A):A.units+64<cLine:=by have:=r.un;omega
def UR:TA:=λ_ H Q=>Q [] H
def TB(ta:TE)(tr:TA):TA:=λσ H Q=>ta σ H λx H1=>tr σ H1 λxs H2=>Q (x::xs) H2
variable {es:List Expr}
section
variable {e:Expr}{t:TA}
def Sv:PA X [] UR:=λ_ _ _ _ H Q I h=>iH ⟨[],H,I,.nil,h⟩
def Ot(ha:PE X e te)(hr:PA X es t)(hs:Bj X e es:=by rfl):PA X (e::es) (TB te t):=by intro pos W2 s σ H Q I h;rw[hs];show wpAny _ _ (spliced ((false,eval e X.env)::backTo pos (starEach es X.env))) _ _ s;refine ip (sH (ha W2 s σ H _ I h) λu s1 zz=>x5 zz λx H1 I1 r1 q1=>?_);exact sH (hr pos W2 s1 σ H1 _ I1 q1) λus s2 zz=>x5 zz λxs H2 I2 r2 q2=>⟨x::xs,H2,I2,.cons r1 r2,q2⟩
def VV(t:TA):TE:=λσ H Q=>t σ H λxs H1=>xs.length<=sizeLine/\∀p,H1 p=none->Q (.ref p) (upd H1 p (.tup xs))
def VA(t:TA):TE:=λσ H Q=>t σ H λxs H1=>xs.length<=sizeLine/\∀p,H1 p=none->Q (.ref p) (upd H1 p (.lst xs))
def Sg{x1}(h:PA X es t):PE X (.Tuple es x1 pos) (VV t):=by intro W2 s σ H Q I hq;refine wpAny_Tuple_spliced (sH (h pos W2 s σ H _ I hq) λus s1 ⟨xs,H1,I1,r,z,q⟩=>⟨by rw[<-r.length];exact z,?_⟩);have hf:H1 s1.heap.objs.size=none:=I1.mZ.fresh (dz _);refine⟨.ref s1.heap.objs.size,upd H1 s1.heap.objs.size (.tup xs),I1.laid (t':=s1.toks) (λb u e=>dg _ e) (dz _) ?_,rfl,q _ hf⟩;exact⟨z,us,r,⟨_,dI _ rfl,rfl,⟨_,rfl⟩,rfl⟩⟩
def Ro(h:PA X es t):PE X (.List es pos) (VA t):=by intro W2 s σ H Q I hq;refine wpAny_List_spliced (sH (h pos W2 s σ H _ I hq) λus s1 ⟨xs,H1,I1,r,z,q⟩=>⟨by rw[<-r.length];exact z,?_⟩);have hf:H1 s1.heap.objs.size=none:=I1.mZ.fresh (dz _);refine⟨.ref s1.heap.objs.size,upd H1 s1.heap.objs.size (.lst xs),I1.laid (t':=s1.toks) (λb u e=>dg _ e) (dz _) ?_,rfl,q _ hf⟩;exact⟨z,us,0,r,dI _ rfl⟩
end
abbrev Sp:=List V->Hp->VK->XK->Prop
abbrev KS:=List Env->Hp->Sd->XK->Vl->Sd->Prop
structure Ip(P:Pg)(w:Wo)(K:qw)(mg:QQZ)(base:Heap)(A:Ar)(outer:List Env)(s:Sd)(H:Hp):Prop where
 frames:A.frames=some outer
 mod:Mod K mg base
 bs:∀b o,base.get? b=some o->s.heap.get? b=some o/\H b=none
 oq:base.objs.size<=s.heap.objs.size
 nM:s.heap.FunFrames base outer
 oB:∀b∈wg outer,H b=none
 mZ:yp P w H s.heap
 bare:AllBare s.gens
def CE(outer:List Env)(P:Pg)(w:Wo)(H:Hp)(s:Sd)(Q:VK)(u:Vl)(s':Sd):Prop:=
 ∃v H',s'.os=s.os/\AllBare s'.gens/\Un (wg outer) [] H H' s.heap s'.heap/\yp P w H' s'.heap/\qN v u/\Q v H'
def CR(CX:KS)(outer:List Env)(P:Pg)(w:Wo)(H:Hp)(s:Sd)(Q:VK)(E:XK)(r:Result)(s':Sd):Prop:=
 match r with
 | .ok (.ret u)=>CE outer P w H s Q u s'
 | .ok _=>False
 | .error e=>CX outer H s E e s'
structure xo(P:Pg)(w:Wo)(K:qw)(mg:QQZ)(base:Heap)(CX:KS)(k:Nat)(f:Addr)(fd:FuncData)(ps:QQQ)(sp:Sp):Prop where
 len:∀vs H Q E,sp vs H Q E->vs.length=ps.length
 run:∀(A:Ar) (outer:List Env) (s:Sd) (H:Hp) (args:Args) (us:List Vl) (vs:List V) (Q:VK) (E:XK),sj k A->Ip P w K mg base A outer s H->BindsTo s fd args (ps.zip us)->qE vs us->sp vs H Q E->
  codeAny (model P w) A (.call (.ref f) args) (CR CX outer P w H s Q E) s
def Ip.make{P:Pg}{w:Wo}{K:qw}{mg:QQZ}{base:Heap}{A:Ar}{outer:List Env}{s:Sd}{H:Hp}(e:Ip P w K mg base A outer s H)(C:Addr)(us:List Vl)(kw:List (Str×Vl)):
  Ip P w K mg base (A.under (.builtin "type.__call__" ⟨.ref C::us,kw⟩)) outer s H:=⟨by first|exact e.frames|(simpa [Around.under,Code.envs,Code.isFrame,pushEnvs]using e.frames),e.mod,e.bs,e.oq,e.nM,e.oB,e.mZ,e.bare⟩
variable {s':Sd}
section
variable {σ:St}
def Inv.oz(I:Inv X W2 σ H s):Ip X.prog X.w X.K X.mg X.base X.A X.stack s H:=
 ⟨I.ok.frames,I.ok.mod,I.bs,d9 I.ok.oq I.sz,I.stack,I.nQ,I.mZ,I.bare⟩
def Inv.after{Q:VK}{u:Vl}(I:Inv X W2 σ H s)(h:CE X.stack X.prog X.w H s Q u s'):EP X W2 σ Q u s':=by obtain⟨v,H',os,bare,un,mZ,r,q⟩:=h;obtain⟨hh,g,d,t,ZS⟩:=s';obtain rfl:ZS=s.os:=os;exact⟨v,H',I.call (h':=hh) (g':=g) (d':=d) (t':=t) (ch:=[]) un mZ bare (λb z=>absurd z (by simp)),r,q⟩
end
def Ud(sp:Sp)(XS:List V)(E:XK)(t:TA):TE:=λσ H Q=>t σ H λvs H1=>sp (vs++XS) H1 Q E
def T1(C:Addr)(sp:Sp)(XS:List V)(E:XK)(t:TA):TE:=λσ H Q=>t σ H λvs H1=>∀x dx,H1 x=none->H1 dx=none->dx≠x->
 sp (.ref x::(vs++XS)) (upd (upd H1 dx (.own x)) x (.ins C dx [])) (λv H2=>v=.mW/\Q (.ref x) H2) E
def uS(K:qw)(fd:FuncData)(ps:QQQ)(ds:List Vl):Prop:=
 ∀(s:Sd) (us:List Vl),K.In s.heap->(us++ds).length=ps.length->BindsTo s fd ⟨us,[]⟩ (ps.zip (us++ds))
def uS.all{K:qw}{fd:FuncData}{ps:QQQ}(h:∀us:List Vl,us.length=ps.length->bindArgs fd ⟨us,[]⟩=pure (ps.zip us)):uS K fd ps []:=λs us _ hl=>by rw[fh]at hl ⊢;exact .of_eq (h us hl)
def BZ(CX:KS)(X:Cx)(E:XK):Prop:=∀(W2:QQY) (σ:St) (H:Hp) (s:Sd) (e:Vl) (s':Sd),Inv X W2 σ H s->CX X.stack H s E e s'->X.xe e s'
variable {CX:KS}{k:Nat}{fd:FuncData}{ps:QQQ}{sp:Sp}{XS:List V}{ds:List Vl}{m:Str}{p W6:Pos}
section
variable {f:Addr}{E:XK}{x:Str}{e o:Expr}{t:TA}
def Fy{W2:QQY}{σ:St}{H:Hp}{s:Sd}{Q:VK}{us:List Vl}{vs:List V}(F:xo X.prog X.w X.K X.mg X.base CX k f fd ps sp)(hr:sj k X.A)(hb:uS X.K fd ps ds)(hd:qE XS ds)(hx:BZ CX X E) (I:Inv X W2 σ H s) (r:qE vs us) (h:sp (vs++XS) H Q E):wpAny (model X.prog X.w) X.A (call (.ref f) us) (EP X W2 σ Q) X.xe s:=by
 have r2:qE (vs++XS) (us++ds):=r.append hd;have hl:(us++ds).length=ps.length:=by rw[<-r2.length];exact F.len _ _ _ _ h
 refine ib (gm (F.run X.A X.stack s H ⟨us,[]⟩ (us++ds) (vs++XS) Q E hr I.oz (hb s us I.ny hl) r2 h) λr s' hq=>?_);cases r with
 | error e=>exact hx W2 σ H s e s' I hq
 | ok fl=>
  cases fl with
  | ret u=>exact I.after hq
  | next=>exact False.elim hq
  | brk=>exact False.elim hq
  | cont=>exact False.elim hq
def O9(F:xo X.prog X.w X.K X.mg X.base CX k f fd ps sp)(hr:sj k X.A)(hg:Gl X x)(hm:X.mg x=some (.ref f))(hk:W.keepIn X.K (.ref f)=true)(hb:uS X.K fd ps ds)(hd:qE XS ds)(hx:BZ CX X E) (ha:PA X (e::es) t) (Xn:yJ x:=by decide) (he:Bj X e es:=by rfl) (Xj:CS X pos es:=by rfl):
  PE X (.Call (.Name x p) (e::es) [] pos) (Ud sp XS E t):=by
 intro W2 s σ H Q I h;refine fS (w9 I hg hm ?_ Xn);refine iS (h₀:=X.base) I.ok.mod.oN hk (sH (ha pos W2 s σ H _ I h) λus s1 zz=>x5 zz λvs H1 I1 r q=>⟨I1.ny,?_⟩) he Xj;exact Fy F hr hb hd hx I1 r q
structure Mk(K:qw)(C f:Addr):Prop where
 makes:W.makesIn K C=true
 init:W.findIn K (.ref C) "__init__"=some (some (.ref f))
 fn:W.isFn K (.ref f)=true
 kp:W.keepIn K (.ref C)=true
def Ly{W2:QQY}{σ:St}{H:Hp}{s:Sd}{Q:VK}{us:List Vl}{vs:List V}(M:Mk X.K C f)(F:xo X.prog X.w X.K X.mg X.base CX k f fd ps sp)(hr:sj (k+1) X.A)(hb:uS X.K fd ps ds)(hd:qE XS ds) (hx:BZ CX X E) (I:Inv X W2 σ H s) (r:qE vs us) (h:∀x dx,H x=none->H dx=none->dx≠x->sp (.ref x::(vs++XS)) (upd (upd H dx (.own x)) x (.ins C dx [])) (λv H2=>v=.mW/\Q (.ref x) H2) E):
  wpAny (model X.prog X.w) X.A (call (.ref C) us) (EP X W2 σ Q) X.xe s:=by
 have hq:=h (s.heap.objs.size+1) s.heap.objs.size (I.mZ.fresh (gB _)) (I.mZ.fresh (dz _)) (dG (fJ _));have I2:=Inv.made (C:=C) I;have r2:qE (V.ref (s.heap.objs.size+1)::(vs++XS)) (Value.ref (s.heap.objs.size+1)::(us++ds)):=.cons rfl (r.append hd);have hl:(Value.ref (s.heap.objs.size+1)::us++ds).length=ps.length:=by have e:=r2.length;rw[F.len _ _ _ _ hq]at e;exact e.symm
 refine ib (Mf (f:=f) I.ny M.makes M.init (fk.mp M.fn) (gm (F.run _ X.stack _ _ ⟨Value.ref (s.heap.objs.size+1)::us,[]⟩ (Value.ref (s.heap.objs.size+1)::(us++ds)) _ _ E (hr.make C us [])
  (I2.oz.make C us []) (hb _ (Value.ref (s.heap.objs.size+1)::us) I2.ny hl) r2 hq) λr s' YJ=>?_))
 cases r with
 | error e=>exact hx W2 σ _ _ e s' I2 YJ
 | ok fl=>
  cases fl with
  | ret u=>obtain⟨v,H',I3,rv,ev,q3⟩:=I2.after YJ;subst ev;exact⟨rv,⟨V.ref (s.heap.objs.size+1),H',I3,rfl,q3⟩⟩
  | next=>exact False.elim YJ
  | brk=>exact False.elim YJ
  | cont=>exact False.elim YJ
def Px(M:Mk X.K C f)(F:xo X.prog X.w X.K X.mg X.base CX k f fd ps sp)(hr:sj (k+1) X.A)(hg:Gl X x)(hm:X.mg x=some (.ref C))(hb:uS X.K fd ps ds)(hd:qE XS ds)(hx:BZ CX X E) (ha:PA X (e::es) t) (Xn:yJ x:=by decide) (he:Bj X e es:=by rfl) (Xj:CS X pos es:=by rfl):
  PE X (.Call (.Name x p) (e::es) [] pos) (T1 C sp XS E t):=by
 intro W2 s σ H Q I h;refine fS (w9 I hg hm ?_ Xn);refine iS (h₀:=X.base) I.ok.mod.oN M.kp (sH (ha pos W2 s σ H _ I h) λus s1 zz=>x5 zz λvs H1 I1 r q=>⟨I1.ny,?_⟩) he Xj;exact Ly M F hr hb hd hx I1 r q
end
variable {g:List Vl→List Vl→List Vl}{gV:List V→List V→List V}{ks:QQQ}{kpos:Pos}{kws:List Keyword}{tk:TA}{nm:Option Str}
section
variable {f:Addr}{E:XK}{x:Str}{e o:Expr}{t:TA}
structure V5(K:qw)(fd:FuncData)(ps ks:QQQ)(g:List Vl->List Vl->List Vl)(gV:List V->List V->List V):Prop where
 to:∀(s:Sd) (us ws:List Vl),K.In s.heap->(g us ws).length=ps.length->BindsTo s fd ⟨us,ks.zip ws⟩ (ps.zip (g us ws))
 rel:∀{vs:List V} {us:List Vl} {zs:List V} {ws:List Vl},qE vs us->qE zs ws->qE (gV vs zs) (g us ws)
end
structure sZ(N P:QQQ)(sc:Scope):Prop where
 kind:sc.kind=.function
 co:sc.isCoroutine=false
 gen:sc.isGenerator=false
 nd:N.Nodup
 pre:N.take P.length=P
 par:∀x∈P,sc.names.lookup x=some .local\/sc.names.lookup x=some .cell
 pz:∀y∈sc.names,y.2≠.free
theorem DL{kindOf:Str->Option NameKind}{x:Str}:∀{binds:List (Str×Vl)} {m:QQZ},(∀v,(x,v)∉binds)->bindL kindOf binds m x=m x
 | [],_,_=>rfl
 | (n,v)::r,m,h=>by
  unfold bindL;rw[DL λw hw=>h w (dH _ hw)];split
  .have:x≠n:=by rintro rfl;exact h v dU
   simp[this]
  .rfl
theorem DV{kindOf:Str->Option NameKind}{x:Str}:∀{binds:List (Str×Vl)} {m:QQZ},(∀v,(x,v)∉binds)->bindC kindOf binds m x=m x
 | [],_,_=>rfl
 | (n,v)::r,m,h=>by
  unfold bindC;rw[DV λw hw=>h w (dH _ hw)];split
  .rfl
  .have:x≠n:=by rintro rfl;exact h v dU
   simp[this]
theorem DT{kindOf:Str->Option NameKind}{x:Str}{v:Vl}:∀{P:QQQ} {vs:List Vl} {i:Nat} {m:QQZ},P.Nodup->P[i]?=some x->vs[i]?=some v->kindOf x=some .local->
  bindL kindOf (P.zip vs) m x=some v
 | [],_,_,_,_,h,_,_=>by simp at h
 | _::_,[],_,_,_,_,h,_=>by simp at h
 | p::P,w::vs,0,m,nd,h1,h2,hk=>by simp at h1 h2;subst h1;subst h2;show bindL kindOf ((p,w)::P.zip vs) m p=_;unfold bindL;rw[DL λv hv=>(dW.mp nd).1 (j3 hv).1,dh hk];simp
 | p::P,w::vs,i+1,m,nd,h1,h2,hk=>by show bindL kindOf ((p,w)::P.zip vs) m x=_;unfold bindL;exact DT (i:=i) (dW.mp nd).2 (by simpa using h1) (by simpa using h2) hk
theorem DB{kindOf:Str->Option NameKind}{x:Str}{v:Vl}:∀{P:QQQ} {vs:List Vl} {i:Nat} {m:QQZ},P.Nodup->P[i]?=some x->vs[i]?=some v->kindOf x≠some .local->
  bindC kindOf (P.zip vs) m x=some v
 | [],_,_,_,_,h,_,_=>by simp at h
 | _::_,[],_,_,_,_,h,_=>by simp at h
 | p::P,w::vs,0,m,nd,h1,h2,hk=>by simp at h1 h2;subst h1;subst h2;show bindC kindOf ((p,w)::P.zip vs) m p=_;unfold bindC;rw[DV λv hv=>(dW.mp nd).1 (j3 hv).1,df hk];simp
 | p::P,w::vs,i+1,m,nd,h1,h2,hk=>by show bindC kindOf ((p,w)::P.zip vs) m x=_;unfold bindC;exact DB (i:=i) (dW.mp nd).2 (by simpa using h1) (by simpa using h2) hk
def start(N:QQQ)(vs:List V):St:=vs.map some++List.replicate (N.length - vs.length) none
def vB(CX:KS)(P:Pg)(w:Wo)(K:qw)(mg:QQZ)(base:Heap)(N:QQQ)(qual:Str)(scope:Scope)(f:Addr)(cd:Vl)(A:Ar)(outer:List Env)(s:Sd)(H:Hp)(E:XK):Cx where
 prog:=P
 w:=w
 K:=K
 mg:=mg
 base:=base
 A:=A.deeper (envOfC qual scope s.heap.objs.size f cd)
 N:=N
 s₀:=s
 H₀:=H
 env:=envOfC qual scope s.heap.objs.size f cd
 outer:=outer
 stack:=envOfC qual scope s.heap.objs.size f cd::outer
 ex:=[]
 calm:=true
 fn:=λ_=>true
 pn:=[]
 xe:=λe s'=>wpAny (model P w) (A.deeper (envOfC qual scope s.heap.objs.size f cd)) (leaving (envOfC qual scope s.heap.objs.size f cd) e) (λ_ ZT=>CX outer H s E e ZT) (λe' ZT=>CX outer H s E e' ZT) s'
def GS{sc:Scope}{n:Nat}{x:Str}(h:sc.names.lookup x=some .cell):∃c,(cellsFrom n sc.names []).lookup x=some c:=by have q:=lV sc.names n [] (.inl h);exact jN.mp q
def KG{CX:KS}{P:Pg}{w:Wo}{K:qw}{mg:QQZ}{base:Heap}{N ps:QQQ}{qual:Str}{scope:Scope}{f:Addr}{cd:Vl}{A:Ar}{outer:List Env}{s s1:Sd}{H:Hp}{E:XK}{us:List Vl}{vs:List V} (S:sZ N ps scope) (hd:A.handled=none) (e0:Ip P w K mg base A outer s H) (hl:vs.length=ps.length) (r:qE vs us) (x:InCallC s s.heap.objs.size (bindL (envOfC qual scope s.heap.objs.size f cd).kindOf (ps.zip us) λ_=>none) (cellsFrom (s.heap.objs.size+1) scope.names []) (bindC (envOfC qual scope s.heap.objs.size f cd).kindOf (ps.zip us) λ_=>none) s1):
  Inv (vB CX P w K mg base N qual scope f cd A outer s H E) [] (start N vs) H s1:=by
 have Xj:ps.length<=N.length:=by have:=eV List.length S.pre;rw[fC]at this;omega
 obtain⟨h1,tk,rfl,hk⟩:=x.done;have noA:∀b:Addr,b∉(vB CX P w K mg base N qual scope f cd A outer s H E).ex:=λb z=>absurd (show b∈([]:QXQ)from z) (by simp);refine⟨⟨e0.mod,S.kind,rfl,rfl,dz _,λy z c h1 h2=>?_,λy hy=>?_,λy c _ h=>?_,λ_=>hd,Around.frames_deeper e0.frames,.inr ⟨rfl,rfl⟩,λb z=>absurd z (noA b),e0.bs,e0.oq,λb _ _=>noA b,λb z=>absurd z (noA b),e0.nM,e0.oB⟩,rfl,e0.bare,Un.kept hk,⟨_,x.toInCall.ns,λi y v h1 h2 h3=>?_⟩,λy c h=>⟨_,x.cell y c h⟩,e0.mZ.fresh (dz _),λy c h=>?_,λp hp=>absurd (show p∈([]:QQY)from hp) (by simp),e0.mZ.kept hk,?_⟩
 .exact name_of_addr x.apart (gR h1) (gR h2)
 .have hy:scope.names.lookup y=some .cell\/scope.names.lookup y=some .free:=hy;rcases hy with hy|hy
  .exact GS hy
  .exact absurd rfl (S.pz _ (gR hy))
 .exact jL (x.above y c (gR h))
 .have hi:i<vs.length:=by
   unfold start at h2;by_cases hi:i<vs.length
   .exact hi
   .rw[eZ (by simpa using hi)]at h2;rw[jX]at h2;split at h2<;>cases h2
  have ha:vs[i]?=some v:=by
   unfold start at h2;rw[fi (by simpa using hi),dF]at h2;cases e:vs[i]? with
   | none=>rw[e]at h2;cases h2
   | some a=>rw[e]at h2;cases h2;rfl
  obtain⟨u,hu,rv⟩:=r.get ha;have hp:ps[i]?=some y:=by rw[<-S.pre,List.getElem?_take_of_lt (by omega)];exact h1
  have ndP:ps.Nodup:=by rw[<-S.pre];exact S.nd.sublist (List.take_sublist _ _)
  refine⟨u,rv,?_⟩;rcases S.par y (fA hp)with k|k
  .exact .inl ⟨k,DT ndP hp hu k⟩
  .obtain⟨c,e⟩:=GS (n:=s.heap.objs.size+1) k;refine .inr ⟨.inl k,c,e,?_⟩;have q:=x.cell y c e;rw[DB ndP hp hu (by show scope.names.lookup y≠_;rw[k];decide)]at q;exact q
 .exact e0.mZ.fresh (jL (x.above y c (gR h)))
 .unfold start;show _=N.length;rw[de,cX,iP];omega
def LS{CX:KS}{P:Pg}{w:Wo}{K:qw}{mg:QQZ}{base:Heap}{k:Nat}{f:Addr}{name qual:Str}{params:Arguments}{body:List Stmt}{scope:Scope}{dV kV XG pm Xc ct oc:Vl}{an od:Option Addr} {X1:Array (Option Vl)} {N ps:QQQ} {sp:Sp} (lk:K.lookup f=some ⟨oc,od,.func (W.fnOf name qual params body scope dV kV XG pm an Xc ct),X1⟩) (X6:W.codeIn K Xc qual=true) (S:sZ N ps scope) (len:∀vs H Q E,sp vs H Q E->vs.length=ps.length) (Xq:∀(A:Ar) (outer:List Env) (s:Sd) (H:Hp) (vs:List V) (Q:VK) (E:XK),sj k (A.deeper (envOfC qual scope s.heap.objs.size f Xc))->sp vs H Q E->
   ∃t,Cn (vB CX P w K mg base N qual scope f Xc A outer s H E) body t/\t {nx:=λ_ H'=>Q .mW H',rt:=Q} (start N vs) H):
  xo P w K mg base CX (k+1) f (W.fnOf name qual params body scope dV kV XG pm an Xc ct) ps sp:=by
 refine⟨len,λA outer s H args us vs Q E hr e0 hb r Yv=>?_⟩;have hl:=len _ _ _ _ Yv;have KX:K.In s.heap:=e0.mod.oN.keeps λb o e=>(e0.bs b o e).1;have lim:s.heap.NoLimit:=e0.mod.nolimit.keeps λb o e=>(e0.bs b o e).1;have hkind:∀y∈ps.zip us,scope.names.lookup y.1=some .local\/(scope.names.lookup y.1=some .cell/\((cellsFrom (s.heap.objs.size+1) scope.names []).lookup y.1).isSome=true):=λ⟨n,v⟩ hy=>by
  rcases S.par n (j3 hy).1 with q|q
  .exact .inl q
  .exact .inr ⟨q,lV _ _ _ (.inl q)⟩
 refine codeAny_call_function hr.depth (KX _ _ lk) rfl S.co S.gen rfl (W.codeRec_of KX X6) (hb _ _ _ _ ?_);refine wpAny_newFunctionEnv_cells S.kind hkind λenv he s1 x=>?_;subst he;refine⟨lim.keeps x.toInCall.keep,codeAny_func ?_⟩;obtain⟨t,ht,hq⟩:=Xq A outer s H vs Q E (hr.deeper _) Yv;have I:Inv (vB CX P w K mg base N qual scope f Xc A outer s H E) [] (start N vs) H s1:=KG S hr.hd e0 hl r x;refine eB (ht [] s1 (start N vs) H _ I hq) (λfl s' hs=>?_) λe s' hs=>hs;have W7:∀{σ':St} {H':Hp} {v:V} {u:Vl},Inv (vB CX P w K mg base N qual scope f Xc A outer s H E) [] σ' H' s'->qN v u->Q v H'->CE outer P w H s Q u s':=
  λ{σ' H' v u} J rv q=>⟨v,H',J.os,J.bare,J.base,J.mZ,rv,q⟩
 cases fl with
 | ret u=>obtain⟨v,σ',H',J,rv,q⟩:=hs;exact W7 J rv q
 | next=>obtain⟨σ',H',J,q⟩:=hs;exact W7 (v:=V.mW) (u:=Value.none) J rfl q
 | brk=>obtain⟨_,_,_,q⟩:=hs;exact False.elim q
 | cont=>obtain⟨_,_,_,q⟩:=hs;exact False.elim q
variable {id T:String}{r:List V→Hp→VK→Prop}
section
variable {x:Str}{e:Expr}{t:TA}
def Wx(r:List V->Hp->VK->Prop)(t:TA):TE:=λσ H Q=>t σ H λvs H1=>r vs H1 Q
def K4(hc:zp X (.builtin id) r)(hg:Gl X x)(hm:X.mg x=none)(hv:bootBuiltins x=some (.builtin id))(ha:PA X (e::es) t)(hn:x≠"__name__":=by decide)(Xn:yJ x:=by decide)
  (he:Bj X e es:=by rfl) (Xj:CS X pos es:=by rfl):PE X (.Call (.Name x p) (e::es) [] pos) (Wx r t):=by
 intro W2 s σ H Q I h;refine fS (wD I hg hm hv ?_ hn Xn);exact gW (sH (ha pos W2 s σ H _ I h) λus s1 zz=>x5 zz λvs H1 I1 r1 q1=>hc W2 s1 σ H1 vs us Q I1 r1 q1) he Xj
def J1(hc:zp X (.type T) r)(hg:Gl X x)(hm:X.mg x=none)(hv:bootBuiltins x=some (.type T))(ha:PA X (e::es) t)(hn:x≠"__name__":=by decide)(Xn:yJ x:=by decide)
  (he:Bj X e es:=by rfl) (Xj:CS X pos es:=by rfl):PE X (.Call (.Name x p) (e::es) [] pos) (Wx r t):=by
 intro W2 s σ H Q I h;refine fS (wD I hg hm hv ?_ hn Xn);exact fW (sH (ha pos W2 s σ H _ I h) λus s1 zz=>x5 zz λvs H1 I1 r1 q1=>hc W2 s1 σ H1 vs us Q I1 r1 q1) he Xj
end
end L2
namespace HT
open PySem PyProof.Rows
section
open PySem.SeqAt
open PySem.AutoSeq1 (wpAny_loadPart')
open PySem.MeetsSeq PySem.MeetsSeq2 PySem.MeetsSeq3
end
variable {prog:Pg}{w:Wo}{A:Ar}{E:QQX}{s:Sd}
def Pj{t b:Addr}{vs ws:List Vl}{Q:QQX}(ht:IsTup s.heap t vs.toArray)(hb:IsTup s.heap b ws.toArray)(hv:vs≠[]) (h1:ws=[]->Q (.ref t) s) (h2:ws≠[]->Q (.ref s.heap.objs.size) {s with heap:=s.heap.push {cls:=.type "tuple",data:=.seq (vs++ws).toArray}})
  (hsz:vs.length+ws.length<=sizeLine):wpAny (model prog w) A (binaryOp .Add (.ref t) (.ref b)) Q E s:=by
 obtain⟨⟨cls,dd,data,sl⟩,ho,hc,n,hd⟩:=id ht;obtain⟨⟨cls2,dd2,data2,sl2⟩,ho2,hc2,n2,hd2⟩:=id hb;simp only at hc hd hc2 hd2;subst hc hd hc2 hd2;have e:vs.toArray++ws.toArray=(vs++ws).toArray:=by simp
 by_cases hw:ws=[]
 .exact k9 ⟨_,ho,rfl⟩ ⟨_,ho2,rfl⟩ lW seq_tuple_add kc jY (jO _ _)
   (tuple_addW1 t b vs.toArray ws.toArray n n2 dd dd2 sl sl2 (by simpa using hv) (by simp[hw])) ⟨ho,ho2,h1 hw⟩
 .refine k9 ⟨_,ho,rfl⟩ ⟨_,ho2,rfl⟩ lW seq_tuple_add kc jY (jO _ _)
   (tuple_addW2 t b vs.toArray ws.toArray n n2 dd dd2 sl sl2 (by simpa using hv) (by simpa using hw) (by rw[dB,dB];exact hsz)) ⟨ho,ho2,?_⟩
  rw[e];exact h2 hw
def tj(n d:Nat):Option Int->Nat
 | none=>d
 | some v=>if v<0 then(v+(n:Int)).toNat else min v.toNat n
def CN(n d:Nat):tj n d none=d:=rfl
def IH(n d k:Nat):tj n d (some (k:Int))=min k n:=by show(if (k:Int)<0 then((k:Int)+(n:Int)).toNat else min (k:Int).toNat n)=min k n;rw[df (by omega),jy]
def RH(n d:Nat)(hd:d<=n)(o:Option Int):tj n d o<=n:=by
 cases o with
 | none=>exact hd
 | some v=>
  show(if v<0 then(v+(n:Int)).toNat else min v.toNat n)<=n;by_cases hv:v<0
  .rw[dh hv];omega
  .rw[df hv];exact Nat.min_le_right _ _
def Ju(v:Int)(n d:Nat):(if v<0 then max (v+(n:Int)) 0 else min v (n:Int))=((tj n d (some v):Nat):Int):=by
 show(if v<0 then max (v+(n:Int)) 0 else min v (n:Int))=(((if v<0 then(v+(n:Int)).toNat else min v.toNat n):Nat):Int);by_cases hv:v<0
 .simp only[dh hv];omega
 .simp only[df hv];omega
def Hr(lo hi:Option Int)(n:Nat):Builtin.Slice.sliceAdjust lo hi 1 (n:Int)=(((tj n 0 lo:Nat):Int),((tj n n hi:Nat):Int)):=by
 have h1:¬((1:Int)<0):=by omega
 unfold Builtin.Slice.sliceAdjust;simp only[h1,jl];refine mF ?_ ?_
 .cases lo with
  | none=>rfl
  | some v=>exact Ju v n 0
 .cases hi with
  | none=>rfl
  | some v=>exact Ju v n n
def He(i j:Nat):Builtin.Slice.slicePlaces (i:Int) (j:Int) 1=j - i:=by
 unfold Builtin.Slice.slicePlaces;have h1:(1:Int)>0:=by omega
 simp only[h1,jm,Int.ediv_one];split<;>omega
def CH{v:Vl}{o:Option Int}{Q:Option Int->Sd->Prop}(p:IsPart v o)(h:Q o s):wpAny (model prog w) A (Builtin.Slice.slicePartIndex v) Q E s:=by
 cases p with
 | none=>exact slicePart_none h
 | int i t=>exact slicePart_int h
def wB{sl:Addr}{vl vu:Vl}{lo hi:Option Int}{n:Nat}{Q:Int×Int×Nat->Sd->Prop}(hs:s.heap.IsSliceOf sl vl vu .none)(pl:IsPart vl lo)(pu:IsPart vu hi) (h:Q (((tj n 0 lo:Nat):Int),1,tj n n hi - tj n 0 lo) s):wpAny (model prog w) A (Builtin.Slice.sliceApplied (.ref sl) (pure (n:Int))) Q E s:=by
 obtain⟨os,ZU,Zw,Yj⟩:=id hs;unfold Builtin.Slice.sliceApplied Builtin.Slice.sliceFields;refine cY (cY (ft ZU Yj (x:=vl) rfl (cY (ft ZU Yj (x:=vu) rfl (cY (ft ZU Yj (x:=.none) rfl (dq ?_)))))));refine cY (slicePart_none ?_);show wpAny _ _ (if ((1:Int)==0)=true then _ else _) _ _ s;rw[df (by decide)];refine cY (CH pl (cY (CH pu (cY (dq ?_)))));show wpAny _ _ (match Builtin.Slice.sliceAdjust lo hi 1 (n:Int)with|(lo,hi)=>pure (lo,(1:Int),Builtin.Slice.slicePlaces lo hi 1)) _ _ s;rw[Hr lo hi n];show wpAny _ _ (pure (((tj n 0 lo:Nat):Int),(1:Int),Builtin.Slice.slicePlaces ((tj n 0 lo:Nat):Int) ((tj n n hi:Nat):Int) 1)) _ _ s;rw[He];exact dq h
def Mu(xs:Array Vl)(i k:Nat):((List.range k).filterMap λ(m:Nat)=>xs[((i:Int)+(m:Int)*1).toNat]?).toArray=((xs.toList.drop i).take k).toArray:=by
 have e:(λ(m:Nat)=>xs[((i:Int)+(m:Int)*1).toNat]?)=λm=>xs[i+m]?:=by
  funext m;have:((i:Int)+(m:Int)*1).toNat=i+m:=by omega
  rw[this]
 rw[e];have:=pick_run xs i k;rw[List.filterMap_map]at this;have e2:((λx=>xs[x]?)∘λx=>i+x)=λm=>xs[i+m]?:=rfl;rw[e2]at this;rw[this]
def zM{t sl:Addr}{W4:Array Vl}{vl vu:Vl}{lo hi:Option Int}{Q:QQX}(ht:IsTup s.heap t W4)(hs:s.heap.IsSliceOf sl vl vu .none)(pl:IsPart vl lo)(pu:IsPart vu hi) (hw:¬(tj W4.size 0 lo=0/\tj W4.size W4.size hi=W4.size)) (h:Q (.ref s.heap.objs.size) {s with heap:=s.heap.push {cls:=.type "tuple",data:=.seq ((W4.toList.drop (tj W4.size 0 lo)).take (tj W4.size W4.size hi - tj W4.size 0 lo)).toArray}})
  (hsz:W4.size<=sizeLine):wpAny (model prog w) A (getItem (.ref t) (.ref sl)) Q E s:=by
 have Yq:sizeOk (.seq ((W4.toList.drop (tj W4.size 0 lo)).take (tj W4.size W4.size hi - tj W4.size 0 lo)).toArray):=by show((W4.toList.drop (tj W4.size 0 lo)).take (tj W4.size W4.size hi - tj W4.size 0 lo)).toArray.size<=sizeLine;rw[dB,fC,gh,ik];omega
 have hj:tj W4.size W4.size hi<=W4.size:=RH _ _ (dz _) hi;obtain⟨os,ZU,Zw,Yj⟩:=id hs;have hTs:s.TypeIs (.ref sl) "slice":=⟨os,ZU,Zw⟩;unfold getItem
 try with_reducible refine eE ?_
 first|refine cY (dq ?_)|skip
 refine cY (jz ht.typeIs (by decide) ?_);refine cY (fO (name:=Str.ofString "__getitem__") ht.typeIs fG
  (fT fG ht.typeIs kN ?_ (lb _ _)))
 show wpAny _ _ (Builtin.Tuple.tupleItemsOf (.ref t)>>=_) _ _ s;refine cY (tupleItemsOf_ ht ?_);refine cY (jP hTs ?_);rw[dh (by decide)];refine cY (wB hs pl pu ?_);have hno:¬((((tj W4.size 0 lo:Nat):Int)==0&&(1:Int)==1&&(tj W4.size W4.size hi - tj W4.size 0 lo)==W4.size)=true):=by intro q;rw[dX,dX]at q;have q1:((tj W4.size 0 lo:Nat):Int)=0:=eq_of_beq q.1.1;have q2:tj W4.size W4.size hi - tj W4.size 0 lo=W4.size:=eq_of_beq q.2;exact hw ⟨by omega,by omega⟩
 show wpAny _ _ (if (((tj W4.size 0 lo:Nat):Int)==0&&(1:Int)==1&&(tj W4.size W4.size hi - tj W4.size 0 lo)==W4.size)=true then _ else _) _ _ s;rw[df hno,Mu]
 first
  | exact cY (m:=Builtin.Tuple.tupleExact _) (fU (dq ⟨_,rfl,dq h⟩) Yq)
  | exact cY (m:=Builtin.Tuple.tupleExact _) (fU (cY (dq (dq ⟨_,rfl,dq h⟩))) Yq)
  | exact cY (cY (m:=Builtin.Tuple.tupleExact _) (fU (dq (dq ⟨_,rfl,dq h⟩)) Yq))
  | exact cY (cY (m:=Builtin.Tuple.tupleExact _) (fU (dq ⟨_,rfl,dq h⟩) Yq))
end HT
namespace L2
abbrev TO:=St->Hp->(Option Int->Hp->Prop)->Prop
def PO(X:Cx)(e:Option Expr)(t:TO):Prop:=
 ∀(W2:QQY) (s:Sd) (σ:St) (H:Hp) (Q:Option Int->Hp->Prop),Inv X W2 σ H s->t σ H Q->
  wpAny (model X.prog X.w) X.A (evalPart e X.env) (λu s'=>∃o H',Inv X W2 σ H' s'/\IsPart u o/\Q o H') X.xe s
def P5:TO:=λ_ H Q=>Q none H
def T4(t:TE):TO:=λσ H Q=>t σ H λx H1=>∃i,x=.int i/\Q (some i) H1
variable {X:Cx}{e:Expr}{te:TE}{lo hi:Option Expr}{tl th:TO}{pos p2:Pos}
def PP:PO X none P5:=by intro W2 s σ H Q I h;rw[evalPart_none];exact dq ⟨none,H,I,.none,h⟩
def On(h:PE X e te):PO X (some e) (T4 te):=by intro W2 s σ H Q I hw;rw[evalPart_some];refine sH (h W2 s σ H _ I hw) λu s1 zz=>x5 zz λx H1 I1 r1 q1=>?_;obtain⟨i,rfl,q⟩:=q1;obtain⟨t,rfl⟩:=r1;exact⟨some i,H1,I1,.int i t,q⟩
def Uz(X:Cx)(r:V->Option Int->Option Int->Hp->VK->Prop):Prop:=
 ∀(W2:QQY) (s:Sd) (σ:St) (H:Hp) (x:V) (v vl vu:Vl) (lo hi:Option Int) (sl:Addr) (Q:VK),Inv X W2 σ H s->qN x v->s.heap.IsSliceOf sl vl vu .none->IsPart vl lo->IsPart vu hi->r x lo hi H Q->
  ∃T id,typeLookup (.type T) "__getitem__"=pure (some (.builtin id))/\s.TypeIs v T/\wpAny (model X.prog X.w) X.A (getItem v (.ref sl)) (EP X W2 σ Q) X.xe s
def WV(r:V->Option Int->Option Int->Hp->VK->Prop)(te:TE)(tl th:TO):TE:=λσ H Q=>te σ H λx H1=>tl σ H1 λl H2=>th σ H2 λu H3=>r x l u H3 Q
def K8{r:V->Option Int->Option Int->Hp->VK->Prop}(hr:Uz X r)(he:PE X e te)(hl:PO X lo tl)(hu:PO X hi th):PE X (.Subscript e (.Slice lo hi none p2) pos) (WV r te tl th):=by intro W2 s σ H Q I h;refine Subscript_ (sH (he W2 s σ H _ I h) λv s1 zz=>x5 zz λx H1 I1 r1 q1=>?_);refine wpAny_Slice (sH (hl W2 s1 σ H1 _ I1 q1) λvl s2 zz=>x5 zz λl H2 I2 pl q2=>sH (hu W2 s2 σ H2 _ I2 q2) λvu s3 zz=>x5 zz λu H3 I3 pu q3=>?_);rw[evalPart_none];refine dq ?_;have I4:Inv X W2 σ H3 {s3 with heap:=s3.heap.push {cls:=.type "slice",data:=.fields #[vl,vu,.none]}}:=I3.kept (t':=s3.toks) λb ob q=>dg _ q;obtain⟨T,id,hT,ht,hg⟩:=hr W2 {s3 with heap:=s3.heap.push {cls:=.type "slice",data:=.fields #[vl,vu,.none]}} σ H3 x v vl vu l u s3.heap.objs.size Q I4 r1 (mP ..) pl pu q3;show wpAny (model X.prog X.w) X.A (subscriptTail e (.Slice lo hi none p2) v (.ref s3.heap.objs.size)) (EP X W2 σ Q) X.xe {s3 with heap:=s3.heap.push {cls:=.type "slice",data:=.fields #[vl,vu,.none]}};exact tail_any (ops:=[.ref s3.heap.objs.size,v]) ht hT hg (by with_unfolding_all rfl)
def Bw(xs:List V)(lo hi:Option Int):List V:=(xs.drop (HT.tj xs.length 0 lo)).take (HT.tj xs.length xs.length hi - HT.tj xs.length 0 lo)
def AA(xs:List V)(lo hi:Option Int):(Bw xs lo hi).length<=xs.length:=by unfold Bw;rw[fC,gh];omega
def Wh(K:qw):V->Option Int->Option Int->Hp->VK->Prop:=λx lo hi H Q=>∃a xs,x=.ref a/\ve K H a xs/\
 ¬(HT.tj xs.length 0 lo=0/\HT.tj xs.length xs.length hi=xs.length)/\∀p,H p=none->Q (.ref p) (upd H p (.tup (Bw xs lo hi)))
def RJ:Uz X (Wh X.K):=by
 intro W2 s σ H x v vl vu lo hi sl Q I rx hs pl pu h;obtain⟨a,xs,rfl,hx,hw,q⟩:=h;cases rx;obtain⟨its,r,ht,hz⟩:=I.tuple hx;have W9:its.toArray.size=xs.length:=by rw[dB];exact r.length.symm
 refine⟨"tuple",_,fG.lookup,ht.typeIs,?_⟩;refine HT.zM ht hs pl pu (by rw[W9];exact hw) ?_ (by rw[W9];exact hz);rw[W9];refine⟨.ref s.heap.objs.size,_,I.laid (t':=s.toks) (o:=.tup (Bw xs lo hi)) (λb ob q=>dg _ q) (dz _) ?_,rfl,q _ (I.mZ.fresh (dz _))⟩;exact⟨d9 (AA xs lo hi) hz,_,(r.drop (HT.tj xs.length 0 lo)).take (HT.tj xs.length xs.length hi - HT.tj xs.length 0 lo),El.new _ _⟩
def UC(K:qw):R2:=λx y H Q=>∃a b xs ys,x=.ref a/\y=.ref b/\ve K H a xs/\ve K H b ys/\xs≠[]/\xs.length+ys.length<=sizeLine/\
 (ys=[]->Q (.ref a) H)/\(ys≠[]->∀p,H p=none->Q (.ref p) (upd H p (.tup (xs++ys))))
def qE.nX{xs:List V}{us:List Vl}(r:qE xs us):us=[]↔xs=[]:=by
 cases r with
 | nil=>simp
 | cons _ _=>simp
def Og:xJ X (binaryOp .Add) (UC X.K):=by intro W2 s σ H x y v u Q I rx ry h;obtain⟨a,b,xs,ys,rfl,rfl,ha,hb,hx,hz,q1,q2⟩:=h;cases rx;cases ry;obtain⟨its,r1,p1,_⟩:=I.tuple ha;obtain⟨its2,r2,p2,_⟩:=I.tuple hb;refine HT.Pj p1 p2 (λz=>hx (r1.nX.mp z)) (λz=>⟨.ref a,H,I,rfl,q1 (r2.nX.mp z)⟩) (λz=>?_) (by rw[<-r1.length,<-r2.length];exact hz);refine⟨.ref s.heap.objs.size,_,I.laid (t':=s.toks) (o:=.tup (xs++ys)) (λb ob q=>dg _ q) (dz _) ?_,rfl,q2 (λw=>z (r2.nX.mpr w)) _ (I.mZ.fresh (dz _))⟩;exact⟨by rw[de];exact hz,_,r1.append r2,El.new _ _⟩
def GP(n:Nat)(i:Int):Option Nat:=if 0<=i then(if i<n then some i.toNat else none)else if -(n:Int)<=i then some (i+n).toNat else none
def wC{α:Type}(xs:List α)(i:Int):Option α:=(GP xs.length i).bind λj=>xs[j]?
def JD{n:Nat}{i:Int}{j:Nat}(h:GP n i=some j):seqIndex? i n=some j/\j<n/\-(n:Int)<=i/\i<n:=by
 unfold GP at h;by_cases h0:0<=i
 .rw[dh h0]at h;by_cases h1:i<n
  .rw[dh h1]at h;have e:i.toNat=j:=dw h;exact⟨by rw[lM h0 h1,e],by omega,by omega,h1⟩
  .rw[df h1]at h;cases h
 .rw[df h0]at h;by_cases h1:-(n:Int)<=i
  .rw[dh h1]at h;have e:(i+n).toNat=j:=dw h;exact⟨by rw[lh (by omega) h1,e],by omega,h1,by omega⟩
  .rw[df h1]at h;cases h
def Fg{α:Type}{xs:List α}{i:Int}{v:α}(h:wC xs i=some v):∃j,seqIndex? i xs.length=some j/\xs[j]?=some v/\j<xs.length/\-(xs.length:Int)<=i/\i<xs.length:=by
 unfold wC at h;cases e:GP xs.length i with
 | none=>rw[e]at h;cases h
 | some j=>rw[e]at h;obtain⟨h1,h2,h3,h4⟩:=JD e;exact⟨j,h1,h,h2,h3,h4⟩
def vf{α:Type}{xs:List α}{j:Nat}{v:α}(h:xs[j]?=some v):wC xs (j:Int)=some v:=by
 have hj:j<xs.length:=(c9.mp h).1;have e:GP xs.length (j:Int)=some j:=by unfold GP;rw[dh (by omega),dh (by omega)];simp
 unfold wC;rw[e];exact h
def Bs(b:Expr):Prop:=∀o i,subscripted b false o i=operate [o,i] (getItem o i)
def Te(X:Cx)(r:R2):Prop:=
 ∀(value Xf:Expr) (W2:QQY) (s:Sd) (σ:St) (H:Hp) (x y:V) (v u:Vl) (Q:VK),Inv X W2 σ H s->qN x v->qN y u->r x y H Q->
  subscripted Xf false v u=operate [v,u] (getItem v u)->wpAny (model X.prog X.w) X.A (subscriptTail value Xf v u) (EP X W2 σ Q) X.xe s
def Ww(X:Cx)(id:String)(r:V->List V->Hp->VK->Prop):Prop:=
 ∀(W2:QQY) (s:Sd) (σ:St) (H:Hp) (x:V) (xs:List V) (v:Vl) (us:List Vl) (Q:VK),Inv X W2 σ H s->qN x v->qE xs us->r x xs H Q->
  wpAny (model X.prog X.w) X.A (call (.builtin id) (v::us)) (EP X W2 σ Q) X.xe s
variable {o:Expr}{es:List Expr}{to:TE}{t:TA}{name:Str}{W6 Xa:Pos}{T id:String}{r:V→List V→Hp→VK→Prop}{a:Expr}{ta tb:TE}
section
variable {b:Expr}
def Ml{r:R2}(hr:Te X r)(ha:PE X a ta)(hb:PE X b tb)(hs:Bs b):PE X (.Subscript a b pos) (TH r ta tb):=by intro W2 s σ H Q I h;exact Subscript_ (RZ ha hb I h λv u s2 x y H2 I2 rx ry q=>hr a b W2 s2 σ H2 x y v u Q I2 rx ry q (hs _ _))
def Wq(K:qw):R2:=λx y H Q=>∃p xs i v,x=.ref p/\y=.int i/\yZ K H p xs/\wC xs i=some v/\Q v H
def V9(K:qw):R2:=λx y H Q=>∃p xs i v,x=.ref p/\y=.int i/\ve K H p xs/\wC xs i=some v/\Q v H
def Vr:R2:=λx y H Q=>∃z i c,x=.str z/\y=.int i/\z.length<=sizeLine/\wC z.cps.toList i=some c/\Q (.str ⟨#[c]⟩) H
def Iz:Te X (Wq X.K):=by
 intro value Xf W2 s σ H x y v u Q I rx ry h hs;obtain⟨p,xs,i,z,rfl,rfl,hq,he,q⟩:=h;cases rx;obtain⟨t,rfl⟩:=ry;obtain⟨its,r,pl,hz⟩:=I.list hq;obtain⟨j,h1,h2,h3,h4,h5⟩:=Fg he;obtain⟨w,ew,Zd⟩:=r.get h2;have hl:=r.length;have hn:=yz;have W7:EP X W2 σ Q w s:=⟨z,H,I,Zd,q⟩;by_cases h0:0<=i
 .have hj:i.toNat=j:=by rw[lM h0 h5]at h1;exact dw h1
  exact item_listR pl.isList h0 (by omega) (by rw[hj];simpa using ew) W7 hs
 .have hj:(i+(its.toArray.size:Int)).toNat=j:=by rw[lh (by omega) h4]at h1;rw[dB,<-hl];exact dw h1
  exact ke (x:=w) pl.isList.typeIs lE.lookup
   (wpAny_getItem_list_neg (Q:=λr s'=>r=w/\EP X W2 σ Q r s') pl.isList (by omega) (by rw[dB]<;>omega) (by omega) (by rw[hj];simpa using ew) ⟨rfl,W7⟩) hs
def So:Te X (V9 X.K):=by
 intro value Xf W2 s σ H x y v u Q I rx ry h hs;obtain⟨p,xs,i,z,rfl,rfl,hq,he,q⟩:=h;cases rx;obtain⟨t,rfl⟩:=ry;obtain⟨its,r,pl,hz⟩:=I.tuple hq;obtain⟨j,h1,h2,h3,h4,h5⟩:=Fg he;obtain⟨w,ew,Zd⟩:=r.get h2;have hl:=r.length;have hn:=yz;have W7:EP X W2 σ Q w s:=⟨z,H,I,Zd,q⟩;exact ke (x:=w) pl.typeIs slot_tuple_getitem.lookup
  (getItem_tuple (j:=j) (Q:=λr s'=>r=w/\EP X W2 σ Q r s') pl (by omega) (by omega) (by rw[dB,<-hl];exact h1) (by simpa using ew) ⟨rfl,W7⟩) hs
def RS:Te X Vr:=by
 intro value Xf W2 s σ H x y v u Q I rx ry h hs;obtain⟨z,i,c,rfl,rfl,hz,he,q⟩:=h;obtain⟨t,rfl⟩:=rx;obtain⟨t',rfl⟩:=ry;obtain⟨j,h1,h2,h3,h4,h5⟩:=Fg he;have hl:z.cps.toList.length=z.length:=by simp[Str.length]
 rw[hl]at h1 h4 h5;have hn:=yz;exact tail_any (typeIs_str s z t) slot_str_getitem.lookup (getItem_str (c:=c) (by
  have e1:decide (i< -(2 ^ 63:Int))=false:=eR (by omega);have e2:decide (i>=2 ^ 63)=false:=eR (by omega);rw[e1,e2,kG]) (by rw[h1];simpa using h2) ⟨.str ⟨#[c]⟩,H,I.tok _,⟨_,rfl⟩,q⟩) hs
def HA(its:List Vl)(n j:Nat)(u:Vl):Obj.mapSeq (·.setIfInBounds j u) {cls:=.type "list",data:=.seq its.toArray n}={cls:=.type "list",data:=.seq (its.set j u).toArray n}:=by simp[Obj.mapSeq]
def Inv.lst{W2:QQY}{σ:St}{H:Hp}{s:Sd}{p:Addr}{xs:List V}(I:Inv X W2 σ H s)(h:H p=some (.lst xs)):
  ∃(its:List Vl) (n:Nat),qE xs its/\s.heap.get? p=some {cls:=.type "list",data:=.seq its.toArray n}/\xs.length<=sizeLine:=by
 obtain⟨z,its,n,r,e⟩:=I.mZ p _ h;exact⟨its,n,r,e,z⟩
def Inv.oE{W2:QQY}{σ:St}{H:Hp}{s:Sd}{p:Addr}{xs ys:List V}{its its':List Vl}{n n':Nat}{f:Obj->Obj}(I:Inv X W2 σ H s)(h:H p=some (.lst xs)) (ho:s.heap.get? p=some {cls:=.type "list",data:=.seq its.toArray n}) (hf:f {cls:=.type "list",data:=.seq its.toArray n}={cls:=.type "list",data:=.seq its'.toArray n'}) (r:qE ys its') (hz:ys.length<=sizeLine) (t:Nat):
  Inv X W2 σ (upd H p (.lst ys)) {s with heap:=s.heap.update p f,toks:=t}:=by
 have e:(s.heap.update p f).get? p=some {cls:=.type "list",data:=.seq its'.toArray n'}:=by rw[fK f ho (by rw[hf]<;>rfl),hf]
 refine I.write (x:=p) (e:=p) (by rw[h];trivial) (.inl rfl) (λb u hb q=>(gb _ _ (dR hb)).trans q) ⟨_,e⟩ ?_;exact⟨hz,its',n',r,e⟩
def TU:V->V->V->Hp->(Hp->Prop)->Prop:=λo i v H Q=>∃p xs k j,o=.ref p/\i=.int k/\H p=some (.lst xs)/\GP xs.length k=some j/\Q (upd H p (.lst (xs.set j v)))
def LW:UK X TU:=by
 intro W2 s σ H o i v ov iv u Q I ro ri rv h;obtain⟨p,xs,k,j,rfl,rfl,hp,hj,q⟩:=h;cases ro;obtain⟨t,rfl⟩:=ri;obtain⟨its,n,r,ho,hz⟩:=I.lst hp;obtain⟨h1,h2,h3,h4⟩:=JD hj;have hl:=r.length;have hn:=yz;have I':Inv X W2 σ (upd H p (.lst (xs.set j v))) {s with heap:=s.heap.update p (Obj.mapSeq (·.setIfInBounds j u))}:=
  I.oE hp ho (HA its n j u) (r.set rv j) (by rw[il];exact hz) s.toks
 by_cases h0:0<=k
 .have hk:k.toNat=j:=by rw[lM h0 h4]at h1;exact dw h1
  exact W.ki_setAt ho h0 (by omega) (by rw[dB,<-hl];exact h4) (by rw[hk];exact⟨_,I',q⟩)
 .have hk:(k+(its.toArray.size:Int)).toNat=j:=by rw[lh (by omega) h3]at h1;rw[dB,<-hl];exact dw h1
  exact W.ki_setBack ho (by omega) (by rw[dB,<-hl];exact h3) (by omega) (by rw[hk];exact⟨_,I',q⟩)
def EC(lo hi:Option Int)(n:Nat):(sliceBounds lo hi none n).1=((HT.tj n 0 lo:Nat):Int)/\(sliceBounds lo hi none n).2.1=((HT.tj n n hi:Nat):Int)/\(sliceBounds lo hi none n).2.2=1:=by
 refine⟨?_,?_,rfl⟩
 .cases lo with
  | none=>simp[sliceBounds,HT.tj]
  | some i=>
   simp only[sliceBounds,HT.tj,lX,show(1:Int)>0 by decide,jm];by_cases h:i<0
   .simp only[h,jm]<;>omega
   .simp only[h,jl]<;>omega
 .cases hi with
  | none=>simp[sliceBounds,HT.tj]
  | some i=>
   simp only[sliceBounds,HT.tj,lX,show(1:Int)>0 by decide,jm];by_cases h:i<0
   .simp only[h,jm]<;>omega
   .simp only[h,jl]<;>omega
def Dm(its:List Vl)(lo hi:Option Int):slicePick its.toArray lo hi none=((its.drop (HT.tj its.length 0 lo)).take (HT.tj its.length its.length hi - HT.tj its.length 0 lo)).toArray:=by obtain⟨h1,h2,h3⟩:=EC lo hi its.toArray.size;unfold slicePick;rw[h1,h2,h3];simp only[sliceRange_one,pick_run,dB]<;>rfl
def Wt(K:qw):V->Option Int->Option Int->Hp->VK->Prop:=λx lo hi H Q=>∃a xs,x=.ref a/\yZ K H a xs/\∀p,H p=none->Q (.ref p) (upd H p (.lst (Bw xs lo hi)))
def IA:Uz X (Wt X.K):=by intro W2 s σ H x v vl vu lo hi sl Q I rx hs pl pu h;obtain⟨a,xs,rfl,hx,q⟩:=h;cases rx;obtain⟨its,r,ht,hz⟩:=I.list hx;have W9:=r.length;refine⟨"list",_,lE.lookup,ht.isList.typeIs,?_⟩;refine wpAny_getItem_list_slice ht.isList hs pl pu .none (by simp) ?_ (by rw[dB]<;>omega);rw[Dm,<-W9];refine⟨.ref s.heap.objs.size,_,I.laid (t':=s.toks) (o:=.lst (Bw xs lo hi)) (λb ob q=>dg _ q) (dz _) ?_,rfl,q _ (I.mZ.fresh (dz _))⟩;exact⟨d9 (AA xs lo hi) hz,_,0,(r.drop (HT.tj xs.length 0 lo)).take (HT.tj xs.length xs.length hi - HT.tj xs.length 0 lo),dI _ rfl⟩
def yw:V->Bool
 | .mW=>true
 | .bl _=>true
 | .int _=>true
 | .str _=>true
 | _=>false
def NU:V->V->Bool
 | .mW,.mW=>true
 | .bl a,.bl b=>a==b
 | .bl a,.int b=>(if a then 1 else 0)==b
 | .int a,.bl b=>a==(if b then 1 else 0)
 | .int a,.int b=>a==b
 | .str a,.str b=>a==b
 | _,_=>false
def Sa{A:Ar}{s:Sd}{y x:V}{u v:Vl}(ry:qN y u)(rx:qN x v)(fy:yw y=true)(fx:yw x=true):SeqAt.EqAt A s u v (NU y x):=by
 cases y with
 | mW=>
  cases ry;cases x with
  | mW=>cases rx;exact SeqAt.EqAt.same _
  | bl b=>cases rx;exact SeqAt.EqAt.none_bool b
  | int b=>obtain⟨t,rfl⟩:=rx;exact SeqAt.EqAt.none_int b t
  | str b=>obtain⟨t,rfl⟩:=rx;exact SeqAt.EqAt.none_str b t
  | _=>exact absurd (show false=true from fx) dC
 | bl a=>
  cases ry;cases x with
  | mW=>cases rx;exact SeqAt.EqAt.bool_none a
  | bl b=>cases rx;exact SeqAt.EqAt.bool_bool a b
  | int b=>obtain⟨t,rfl⟩:=rx;exact SeqAt.EqAt.bool_int a b t
  | str b=>obtain⟨t,rfl⟩:=rx;exact SeqAt.EqAt.bool_str a b t
  | _=>exact absurd (show false=true from fx) dC
 | int a=>
  obtain⟨t',rfl⟩:=ry;cases x with
  | mW=>cases rx;exact SeqAt.EqAt.int_none a t'
  | bl b=>cases rx;exact SeqAt.EqAt.int_bool a t' b
  | int b=>obtain⟨t,rfl⟩:=rx;exact SeqAt.EqAt.int_int a t' b t
  | str b=>obtain⟨t,rfl⟩:=rx;exact kU a t' b t
  | _=>exact absurd (show false=true from fx) dC
 | str a=>
  obtain⟨t',rfl⟩:=ry;cases x with
  | mW=>cases rx;exact SeqAt.EqAt.str_none a t'
  | bl b=>cases rx;exact SeqAt.EqAt.str_bool a t' b
  | int b=>obtain⟨t,rfl⟩:=rx;exact kW a t' b t
  | str b=>obtain⟨t,rfl⟩:=rx;exact SeqAt.EqAt.str_str a t' b t
  | _=>exact absurd (show false=true from fx) dC
 | _=>exact absurd (show false=true from fy) dC
def Ej(x:V)(u:Vl):Bool:=match u with
 | .none=>NU .mW x
 | .bool b=>NU (.bl b) x
 | .int i _=>NU (.int i) x
 | .str z _=>NU (.str z) x
 | _=>false
def Ib{x y:V}{u:Vl}(r:qN y u)(f:yw y=true):Ej x u=NU y x:=by
 cases y with
 | mW=>cases r;rfl
 | bl b=>cases r;rfl
 | int i=>obtain⟨t,rfl⟩:=r;rfl
 | str z=>obtain⟨t,rfl⟩:=r;rfl
 | _=>exact absurd (show false=true from f) dC
theorem zd{x:V}:∀{xs:List V} {us:List Vl},qE xs us->xs.all yw=true->us.any (Ej x)=xs.any λy=>NU y x
 | _,_,.nil,_=>rfl
 | y::xs,u::us,.cons r t,f=>by rw[e9,dX]at f;rw[gc,gc,Ib r f.1,zd t f.2]
theorem wx{A:Ar}{s:Sd}{x:V}{v:Vl}(rx:qN x v)(fx:yw x=true):∀{xs:List V} {us:List Vl},qE xs us->xs.all yw=true->∀u∈us,SeqAt.EqAt A s u v (Ej x u)
 | _,_,.nil,_=>λu hu=>by cases hu
 | y::xs,u::us,.cons r t,f=>λu' hu=>by
  rw[e9,dX]at f;rcases dv.mp hu with rfl|hu
  .rw[Ib r f.1];exact Sa r rx f.1 fx
  .exact wx rx fx t f.2 u' hu
def inV(x:V)(xs:List V):Bool:=xs.any λy=>NU y x
def We(K:qw)(YD:Bool):R2:=λx y H Q=>∃p xs,y=.ref p/\(yZ K H p xs\/ve K H p xs)/\yw x=true/\xs.all yw=true/\Q (.bl (if YD then !inV x xs else inV x xs)) H
def J6:xJ X (compareOp .In) (We X.K false):=by
 intro W2 s σ H x y v u Q I rx ry h;obtain⟨p,xs,rfl,hq,fx,fs,q⟩:=h;cases ry;rcases hq with hq|hq
 .obtain⟨its,r,pl,hz⟩:=I.list hq;refine SeqAt.in_listAt (Ej x) pl.isList (λw hw=>wx rx fx r fs w (by simpa using hw)) ⟨.bl _,H,I,rfl,?_⟩;rw[show its.toArray.any (Ej x)=its.any (Ej x)by simp,zd r fs];exact q
 .obtain⟨its,r,pl,hz⟩:=I.tuple hq;refine SeqAt.in_tupleAt (Ej x) pl (λw hw=>wx rx fx r fs w (by simpa using hw)) ⟨.bl _,H,I,rfl,?_⟩;rw[show its.toArray.any (Ej x)=its.any (Ej x)by simp,zd r fs];exact q
def Fm:xJ X (compareOp .NotIn) (We X.K true):=by
 intro W2 s σ H x y v u Q I rx ry h;obtain⟨p,xs,rfl,hq,fx,fs,q⟩:=h;cases ry;rcases hq with hq|hq
 .obtain⟨its,r,pl,hz⟩:=I.list hq;refine SeqAt.notIn_listAt (Ej x) pl.isList (λw hw=>wx rx fx r fs w (by simpa using hw)) ⟨.bl _,H,I,rfl,?_⟩;rw[show its.toArray.any (Ej x)=its.any (Ej x)by simp,zd r fs];exact q
 .obtain⟨its,r,pl,hz⟩:=I.tuple hq;refine SeqAt.notIn_tupleAt (Ej x) pl (λw hw=>wx rx fx r fs w (by simpa using hw)) ⟨.bl _,H,I,rfl,?_⟩;rw[show its.toArray.any (Ej x)=its.any (Ej x)by simp,zd r fs];exact q
def FI:xJ X (compareOp .NotIn) (λx y H Q=>∃i j,x=.str i/\y=.str j/\Q (.bl (!(!(Builtin.Str.occurrences j i 0 j.length 1).isEmpty))) H):=by intro W2 s σ H x y v u Q I rx ry h;obtain⟨i,j,rfl,rfl,q⟩:=h;obtain⟨t,rfl⟩:=rx;obtain⟨t',rfl⟩:=ry;exact notIn_str ⟨.bl _,H,I,rfl,q⟩
def wQ:zp X (.builtin "len") (λxs H Q=>∃p ys,xs=[.ref p]/\(yZ X.K H p ys\/ve X.K H p ys)/\Q (.int ys.length) H):=by
 intro W2 s σ H xs us Q I r h;obtain⟨p,ys,rfl,hq,q⟩:=h;obtain⟨u,rfl,rx⟩:=yu r;cases rx;have hn:=yz;rcases hq with hq|hq
 .obtain⟨its,r',pl,hz⟩:=I.list hq;have W9:=r'.length;exact Calls.call_len_list pl.isList (by simp only[dB]<;>omega) ⟨.int ys.length,H,I.tok _,⟨s.toks+1,by rw[dB,W9]⟩,q⟩
 .obtain⟨its,r',pl,hz⟩:=I.tuple hq;have W9:=r'.length;exact len_tuple pl (by simp only[dB]<;>omega) ⟨.int ys.length,H,I.tok _,⟨s.toks+1,by rw[dB,W9]⟩,q⟩
def Fu:zp X (.builtin "len") (λxs H Q=>∃z,xs=[.str z]/\z.length<=sizeLine/\Q (.int z.length) H):=by intro W2 s σ H xs us Q I r h;obtain⟨z,rfl,hz,q⟩:=h;obtain⟨u,rfl,t,rfl⟩:=yu r;have hn:=yz;exact len_str (by omega) ⟨.int z.length,H,I.tok _,⟨_,rfl⟩,q⟩
def Er:zp X (.type "list") (λxs H Q=>∃p ys,xs=[.ref p]/\(yZ X.K H p ys\/ve X.K H p ys)/\∀l,H l=none->Q (.ref l) (upd H l (.lst ys))):=by
 intro W2 s σ H xs us Q I r h;obtain⟨p,ys,rfl,hq,q⟩:=h;obtain⟨u,rfl,rx⟩:=yu r;cases rx;have W7:∀(its:List Vl),qE ys its->ys.length<=sizeLine->∀(h':Heap) (c':Nat),(∀b o',s.heap.get? b=some o'->h'.get? b=some o')->
   h'.get? s.heap.objs.size=some {cls:=.type "list",dict:=none,data:=.seq its.toArray c',slots:=#[]}->EP X W2 σ Q (.ref s.heap.objs.size) {s with heap:=h'}:=λits r' hz h' c' kp e=>
  ⟨.ref s.heap.objs.size,_,I.laid (t':=s.toks) kp (dz _) (show se X.prog X.w _ h' _ (.lst ys)from⟨hz,its,c',r',e⟩),rfl,q _ (I.mZ.fresh (dz _))⟩
 rcases hq with hq|hq
 .obtain⟨its,r',pl,hz⟩:=I.list hq;have W9:=r'.length;obtain⟨o,ho,hc,n,hd⟩:=pl.isList;exact call_list_seq p (.inl rfl) ho hc hd (λh' c' kp e=>W7 its r' hz h' c' kp e) (by simp only[dB]<;>omega)
 .obtain⟨its,r',pl,hz⟩:=I.tuple hq;have W9:=r'.length;obtain⟨o,ho,hc,n,hd⟩:=pl;exact call_list_seq p (.inr rfl) ho hc hd (λh' c' kp e=>W7 its r' hz h' c' kp e) (by simp only[dB]<;>omega)
def wb:zp X (.type "tuple") (λxs H Q=>∃p ys,xs=[.ref p]/\((yZ X.K H p ys/\∀l,H l=none->Q (.ref l) (upd H l (.tup ys)))\/(ve X.K H p ys/\Q (.ref p) H))):=by
 intro W2 s σ H xs us Q I r h;obtain⟨p,ys,rfl,h⟩:=h;obtain⟨u,rfl,rx⟩:=yu r;cases rx;rcases h with⟨hq,q⟩|⟨hq,q⟩
 .obtain⟨its,r',pl,hz⟩:=I.list hq;have W9:=r'.length;refine call_tuple_list pl.isList (λh' kp=>?_) (by simp only[dB]<;>omega);have I1:Inv X W2 σ H {s with heap:=h'}:=I.kept (t':=s.toks) kp;have I2:Inv X W2 σ (upd H h'.objs.size (.tup ys)) {s with heap:=h'.push {cls:=.type "tuple",data:=.seq its.toArray}}:=
   I1.laid (t':=s.toks) (λb o e=>dg _ e) (dz _) (show se X.prog X.w _ _ _ (.tup ys)from⟨hz,its,r',El.new _ _⟩)
  exact⟨.ref h'.objs.size,_,I2,rfl,q _ (I1.mZ.fresh (dz _))⟩
 .obtain⟨its,r',pl,hz⟩:=I.tuple hq;exact call_tuple_same pl ⟨.ref p,H,I,rfl,q⟩
def Vz(K:qw)(T:String)(x:V)(H:Hp):Prop:=match x with
 | .str _=>T="str"
 | .int _=>T="int"
 | .ref p=>(T="list"/\∃xs,yZ K H p xs)\/(T="tuple"/\∃o,K.lookup p=some o/\o.cls=.type "tuple"/\o.dict=none)\/
   (T="dict"/\((∃kvs,H p=some (.dK kvs))\/∃kvs,H p=some (.dT kvs)))\/(T="set"/\∃S n,H p=some (.set S n))
 | _=>False
def ND{W2:QQY}{σ:St}{H:Hp}{s:Sd}{T:String}{x:V}{v:Vl}(I:Inv X W2 σ H s)(r:qN x v)(ty:Vz X.K T x H):
  s.TypeIs v T/\∀a,v=.ref a->∃ob,s.heap.get? a=some ob/\ob.dict=none:=by
 cases x with
 | str z=>obtain⟨t,rfl⟩:=r;cases(show T="str" from ty);exact⟨typeIs_str s z t,λ_ e=>nomatch e⟩
 | int i=>obtain⟨t,rfl⟩:=r;cases(show T="int" from ty);exact⟨mj s i t,λ_ e=>nomatch e⟩
 | ref p=>
  cases r;rcases ty with⟨rfl,xs,hq⟩|⟨rfl,o,hk,hc,hd⟩|⟨rfl,hk⟩|⟨rfl,S,n,hk⟩
  .obtain⟨its,_,pl,_⟩:=I.list hq;refine⟨pl.isList.typeIs,λa e=>?_⟩;cases e;obtain⟨o,n,e,c,hd,_⟩:=pl;exact⟨o,e,hd⟩
  .refine⟨⟨o,I.ny p o hk,hc⟩,λa e=>?_⟩;cases e;exact⟨o,I.ny _ o hk,hd⟩
  .have z:∃o,s.heap.get? p=some o/\o.ExactDict:=by
    rcases hk with⟨kvs,hk⟩|⟨kvs,hk⟩
    .obtain⟨_,_,_,_,o,_,_,e,ex,_⟩:=I.mZ p _ hk;exact⟨o,e,ex⟩
    .obtain⟨_,_,_,_,o,_,_,e,ex,_⟩:=I.mZ p _ hk;exact⟨o,e,ex⟩
   obtain⟨o,e,ex⟩:=z;refine⟨⟨o,e,ex.1⟩,λa e2=>?_⟩;cases e2;exact⟨o,e,ex.2.1⟩
  .obtain⟨o,_,_,_,e,ex,_⟩:=I.mZ p _ hk;refine⟨⟨o,e,ex.1⟩,λa e2=>?_⟩;cases e2;exact⟨o,e,ex.2.1⟩
 | _=>exact False.elim ty
def WZ(K:qw)(T:String)(r:V->List V->Hp->VK->Prop)(to:TE)(t:TA):TE:=λσ H Q=>to σ H λx H1=>Vz K T x H1/\t σ H1 λxs H2=>r x xs H2 Q
def Tq(pa:PlainAttrs T)(slot:Slot T name id)(hty:typeOf (.builtin id)=pure (.type "method_descriptor"))(hm:Ww X id r)(ho:PE X o to)(ha:PA X (e::es) t) (Xh:attributeBase o name X.env (eval o X.env)=eval o X.env:=by rfl)
  (Yk:((backTo Xa (starEach (e::es) X.env)).all (λx=>!x.1)&&(backToKw Xa (keywordEach [] X.env)).all (λx=>x.1.isSome)
   &&decide ((e::es).length+([]:List Keyword).length+(if ([]:List Keyword).isEmpty then 0 else 1)<30))=true:=by rfl)
  (Xr:(W6.endLine==Xa.line)=true:=by rfl) (hs:Bj X e es:=by rfl) (Xl:CS X Xa es:=by rfl):
  PE X (.Call (.Attribute o name W6) (e::es) [] Xa) (WZ X.K T r to t):=by
 intro W2 s σ H Q I h;refine wpAny_Call_method_late Xh Yk Xr rfl (sH (ho W2 s σ H _ I h) λv s1 zz=>?_);obtain⟨x,H1,I1,r1,ty,q1⟩:=zz;obtain⟨h1,h2⟩:=ND I1 r1 ty;refine⟨T,id,pa,slot,hty,h1,h2,?_⟩;have hA:=ha Xa W2 s1 σ H1 _ I1 q1;rw[hs]at hA ⊢;refine kg (by show(false||(backTo Xa (starEach es X.env)).any (·.1))=false;rw[Xl]<;>rfl) (Calls.evalArgs_plain ?_);exact sH hA λus s2 zz=>x5 zz λvs H2 I2 r2 q2=>hm W2 s2 σ H2 x vs v us Q I2 r1 r2 q2
end
def WW(X:Cx)(id:String)(r:V->List V->Hp->VK->Prop):Prop:=
 ∀(W2:QQY) (s:Sd) (σ:St) (H:Hp) (x:V) (xs:List V) (v:Vl) (us:List Vl) (Q:VK),Inv X W2 σ H s->qN x v->qE xs us->r x xs H Q->
  wpAny (model X.prog X.w) X.A (call (.builtin id) (v::us)) (EP X W2 σ Q) X.xe s
def qE.one:∀{x:V} {us:List Vl},qE [x] us->∃u,us=[u]/\qN x u
 | _,_,.cons r .nil=>⟨_,rfl,r⟩
theorem qE.rep{xs:List V}{us:List Vl}(h:qE xs us):∀k:Nat,qE (List.replicate k xs).flatten (List.replicate k us).flatten
 | 0=>.nil
 | k+1=>by rw[eL,eL,fQ,fQ];exact qE.append h (qE.rep h k)
theorem DW(its:List Vl):∀(k:Nat) (acc:List Vl),List.foldl (λx1 x2=>x1++x2) acc.toArray (List.replicate k its.toArray)=(acc++(List.replicate k its).flatten).toArray
 | 0,acc=>by simp
 | k+1,acc=>by
  have e:acc.toArray++its.toArray=(acc++its).toArray:=by simp
  have e2:(acc++its)++(List.replicate k its).flatten=acc++(List.replicate (k+1) its).flatten:=by rw[eL,fQ,fz]
  rw[<-e2,<-DW its k (acc++its),<-e,eL,fX]
variable {W2:List (Addr × Obj)}{σ:St}{H:Hp}{s:Sd}{l:Addr}{xs ys zs:List V}
section
variable {b:Addr}
def Inv.lset{its its':List Vl}{n:Nat}{f:Array Vl->Array Vl}{t':Nat}(I:Inv X W2 σ H s)(hH:H l=some (.lst xs)) (e:s.heap.get? l=some {cls:=.type "list",data:=.seq its.toArray n}) (hf:f its.toArray=its'.toArray) (hv:qE ys its') (hz:ys.length<=sizeLine):
  Inv X W2 σ (upd H l (.lst ys)) {s with heap:=s.heap.update l (Obj.mapSeq f),toks:=t'}:=by
 have q:=PySem.IsL.update e f;rw[hf]at q;refine I.write (x:=l) (e:=l) (by rw[hH];exact trivial) (.inl rfl) (λb' u hb hu=>(gb s.heap (Obj.mapSeq f) (dR hb)).trans hu) ⟨_,q⟩ ?_;exact⟨hz,its',_,hv,q⟩
def Inv.oX{its:List Vl}{t':Nat}(I:Inv X W2 σ H s)(hv:qE ys its)(hz:ys.length<=sizeLine):
  Inv X W2 σ (upd H s.heap.objs.size (.lst ys)) {s with heap:=s.heap.push {cls:=.type "list",data:=.seq its.toArray},toks:=t'}:=
 I.laid (λ_ _ q=>dg _ q) (dz _) ⟨hz,its,0,hv,dI _ rfl⟩
def Inv.fresh(I:Inv X W2 σ H s):H s.heap.objs.size=none:=I.mZ.fresh (dz _)
def Inv.pf(I:Inv X W2 σ H s)(hH:H l=some (.lst xs)):xs.length<=sizeLine/\∃(its:List Vl) (n:Nat),qE xs its/\xs.length=its.length/\s.heap.get? l=some {cls:=.type "list",data:=.seq its.toArray n}:=by obtain⟨z,its,n,r,e⟩:=I.mZ l _ hH;exact⟨z,its,n,r,r.length,e⟩
def Mb{n:Nat}(h:n<=sizeLine):Builtin.List.listTooLong n=false:=by unfold Builtin.List.listTooLong;exact eR (by omega)
end
def Qd:V->List V->Hp->VK->Prop:=λx vs H Q=>∃l xs y,x=.ref l/\vs=[y]/\H l=some (.lst xs)/\xs.length<sizeLine/\Q .mW (upd H l (.lst (xs++[y])))
def JX:WW X "list.append" Qd:=by intro W2 s σ H x vs v us Q I rx rv h;obtain⟨l,xs,y,rfl,rfl,hH,hz,q⟩:=h;cases rx;obtain⟨u,rfl,ru⟩:=rv.one;obtain⟨z,its,n,r,hl,e⟩:=I.pf hH;refine jE F.slot_list_append ⟨_,e,rfl⟩ F.entry_list_append (F.args_list_append_2 _ _) (PySem.list_append l its.toArray n u (by rw[dB];omega)) ⟨e,?_⟩;refine⟨.mW,_,I.lset (its':=its++[u]) hH e (by simp) (r.append (.cons ru .nil)) ?_,rfl,q⟩;rw[de,dS];omega
def VB:R2:=λx y H Q=>∃l k xs,x=.ref l/\y=.int k/\H l=some (.lst xs)/\-(2 ^ 63)<=k/\k<2 ^ 63/\xs.length*k.toNat<=sizeLine/\
 ∀p,H p=none->Q (.ref p) (upd H p (.lst (List.replicate k.toNat xs).flatten))
def OJ{α:Type}(xs:List α)(k:Nat):(List.replicate k xs).flatten.length=k*xs.length:=by
 induction k with
 | zero=>simp
 | succ k ih=>rw[eL,fQ,de,ih,mG,Nat.add_comm]
def Rl:xJ X (binaryOp .Mult) VB:=by
 intro W2 s σ H x y v u Q I rx ry h;obtain⟨l,k,xs,rfl,rfl,hH,h1,h2,hz,q⟩:=h;cases rx;obtain⟨t,rfl⟩:=ry;obtain⟨z,its,n,r,hl,e⟩:=I.pf hH;have W9:its.toArray.size*k.toNat<=sizeLine:=by rw[dB,<-hl];exact hz
 have hcap:¬its.toArray.size*k.toNat>(2 ^ 63 - 1) / 8:=by
  have:(sizeLine:Nat)<=(2 ^ 63 - 1) / 8:=by decide
  omega
 have XD:¬(!Builtin.List.listFitsIndex k)=true:=by rw[fitsIndex_both h1 h2];exact dC
 have hlong:¬Builtin.List.listTooLong (its.toArray.size*k.toNat)=true:=by rw[Mb W9];exact dC
 have YK:List.foldl (λx1 x2=>x1++x2) #[] (List.replicate (if its.toArray.isEmpty=true then 0 else k.toNat) its.toArray)=(List.replicate k.toNat its).flatten.toArray:=by
  have f0:∀m:Nat,List.foldl (λx1 x2=>x1++x2) #[] (List.replicate m its.toArray)=(List.replicate m its).flatten.toArray:=λm=>by have:=DW its m [];rw[d6]at this;exact this
  rw[f0];cases its with
  | nil=>simp
  | cons a r'=>rw[df (by simp)]
 refine wpAny_binaryOp_repeat_ref (T:="list") (U:="int") (by decide) ⟨_,e,rfl⟩ (λs'=>mj s' k t) noFill_list_mul F.fills_int_mul mo repeat_list F.slot_int_index.lookup
  (jE mo (mj s k t) F.entry_int_rmul (F.args_int_rmul_2 _ _) (int___rmul___int_list k t l its.toArray n)
   ⟨e,rfl,⟨_,e,rfl⟩,jE F.slot_list_mul ⟨_,e,rfl⟩ F.entry_list_mul (F.args_list_mul_2 _ _) (AutoListH.list___mul___list_int_3 l its.toArray n k t XD hcap hlong) ⟨e,?_⟩⟩)
 rw[YK];exact⟨.ref _,_,I.oX (t':=s.toks) (r.rep k.toNat) (by rw[OJ,Nat.mul_comm];exact hz),rfl,q _ I.fresh⟩
variable {prog:Pg}{w:Wo}{A:Ar}{E:QQX}
end L2
namespace Att
open PySem PySem.W PySem.Calls PyProof.Rows
def A7{P:Params}{h:Heap}:∀(ns:List Int) (vs:List Vl),WellAll P h vs (ns.map WData.int)->IntsAre vs ns:=by
 intro ns;induction ns with
 | nil=>intro vs w;rw[iT]at w;cases w;exact .nil
 | cons n ns ih=>
  intro vs w;rw[dY]at w;cases w with
  | cons a b=>cases a;exact .cons _ _ (ih _ b)
def Kd{l:OpenLaw}{n:Nat}(hn:l.most=some n){P:Params}{h:Heap}{args:List WData}{ZV:List Vl} (Ze:l.row.toRowW.claim.pre args=true) (hwl:WellAll P h ZV args):
  ∃a vs ns,ZV=[Value.ref a]/\args=[WData.list (ns.map WData.int)]/\h.get? a=some {cls:=.type "list",data:=.seq vs.toArray}/\IntsAre vs ns/\ns.length<=n:=by
 have hsh:WShape.hasAll [] args [.list .int]=true:=(pre_splitW Ze).1;have hc:l.pre.holds [] {args:=args}=true:=(pre_splitW Ze).2;obtain⟨d,r,rfl,h1,h2⟩:=hasAllW_cons hsh;obtain rfl:=hasAllW_nil h2;obtain⟨xs,rfl,h3⟩:=hasW_list h1;obtain⟨ns,rfl⟩:=items_int h3;have W9:ns.length<=n:=by
  unfold OpenLaw.pre at hc;have h4:(WTm.not (.lt (.lit (.int (n:Int))) (.len (.arg 0)))).holds [] {args:=[.list (ns.map .int)]}=true:=by have h4:=(holds_andW hc).1;rw[hn]at h4;exact h4
  have h5:=condW_of h4 (w_not (w_lt w_lit (w_len_list (w_arg rfl))));rw[cX]at h5;refine jQ λq=>?_;have q':(n:Int)<((ns.length:Nat):Int):=by omega
  first
   | (rw[dZ q']at h5;exact absurd h5 (by decide))
   | (simp at h5;omega)
 cases hwl with
 | cons w1 w2=>
  cases w2;cases w1 with
  | list ho XJ=>exact⟨_,_,ns,rfl,rfl,ho,A7 ns _ XJ,W9⟩
def J5(l:OpenLaw)(args:List WData):l.row.toRowW.claim.post args (.bool true) args=true:=
 postW_of (r:=l.row.toRowW) (X:=(true==true))
  (show WShape.has [] (.bool true) .bool=true by first|rfl|decide|simp[WShape.has,WShape.arms,WShape.armsAll])
  (show(WTm.eq .res (.lit (.bool true))).value [] {args:=args,res:=some (.bool true),after:=args}=some (.bool (true==true))from w_eq_bool (w_res rfl) w_lit) rfl
def attach_call{l:OpenLaw}{n:Nat}{q:Pg}{XT:QQQ}{XP:(QQZ)->Heap->Prop}{YP:Wo->Heap->Prop}{d:DefRec} (hn:l.most=some n) (Zx:d.params.defaults=[]) (call:∀(w:Wo) (s₀ s₁:Sd) (mg mb:QQZ) (fa:Addr) (o:Obj) (pm cd XG:Vl) (a:Addr) (vs:List Vl) (ns:List Int),Ground q XT [] XP w s₀ mg mb s₁.heap->YP w s₁.heap->
   s₁.heap.get? fa=some o->o.data=.func (docDef d.name d.params d.body d.scope pm cd XG)->s₁.heap.CodeRec cd d.name->mg d.name=some (.ref fa)->
   s₁.heap.get? a=some {cls:=.type "list",data:=.seq vs.toArray}->IntsAre vs ns->ns.length<=n->s₁.gens=#[]->
   codeAny (model l.prog w) callerA (.call (.ref fa) ⟨[.ref a],[]⟩) (λr s'=>r=.ok (.ret (.bool true))/\OldK s₁.heap s'.heap/\s'.os=s₁.os/\AllBare s'.gens) s₁):
  WalkO q XT XP YP l.row.toRowW d [] (λf vs=>PySem.call f vs):=by
 intro w s₀ s₁ mg mb G Y fa o pm cd XG dV kV ho hd X6 hD hmg hg args ZV as Ze hlay hrd hwl hlo;obtain rfl:dV=.none:=Dflts.none hD Zx;obtain rfl:kV=.none:=Dflts.noKw hD;obtain⟨a,vs,ns,rfl,rfl,ZW,YL,W9⟩:=Kd hn Ze hwl;refine enter_call (gm (call w s₀ s₁ mg mb fa o pm cd XG a vs ns G Y ho (fd_plain hd) X6 hmg ZW YL W9 hg) λr s' hq=>?_);obtain⟨rfl,h2,h3,h4⟩:=hq;exact⟨.inl ⟨.bool true,.bool true,[],rfl,λ_=>rfl,.bool true,J5 l _,λ_=>⟨List.Pairwise.nil,λ_ hm=>(nomatch hm)⟩⟩,h2,h3,h4⟩
variable {prog:Pg}{w:Wo}{A:Ar}{E:QQX}{s:Sd}{K:Frag}
end Att
namespace L2
theorem D7:∀{vs:List Vl} {ns:List Int},IntsAre vs ns->qE (ns.map V.int) vs
 | _,_,.nil=>.nil
 | _,_,.cons n t h=>.cons ⟨t,rfl⟩ (D7 h)
def Lz(H:Hp):Prop:=∀b,H b=none\/∃o xs,H b=some (.frz o (.lst xs))
def Nn{P:Pg}{w:Wo}{K:qw}{mg mb:QQZ}{CX:KS}{k:Nat}{fa a:Addr}{fd:FuncData}{x:Str}{sp:Sp}{s₁:Sd}{vs:List Vl}{ns:List Int} (KX:K.In s₁.heap) (hns:s₁.heap.Ns mainGlobals mg) (hb:s₁.heap.Ns builtinsNs mb) (hbb:∀x:Str,x≠"__name__"->mb x=bootBuiltins x) (hlim:s₁.heap.NoLimit) (hg:s₁.gens=#[]) (ha:s₁.heap.get? a=some {cls:=.type "list",data:=.seq vs.toArray}) (hi:IntsAre vs ns) (hl:ns.length<=sizeLine) (hr:sj k callerA)
  (F:∀base:Heap,K.In base->base.Ns mainGlobals mg->xo P w K mg base CX k fa fd [x] sp) (hbind:∀(s:Sd) (u:Vl),BindsTo s fd ⟨[u],[]⟩ [(x,u)])
  (Yv:∀H:Hp,Lz H->yZ K H a (ns.map V.int)->sp [.ref a] H (λv _=>v=.bl true) λ_ _ _=>False)
  (hCX:∀H e s',CX [] H s₁ (λ_ _ _=>False) e s'->False):
  codeAny (model P w) callerA (.call (.ref fa) ⟨[.ref a],[]⟩) (λr s'=>r=.ok (.ret (.bool true))/\OldK s₁.heap s'.heap/\s'.os=s₁.os/\AllBare s'.gens) s₁:=by
 have rv:=D7 hi;have lenV:=hi.length;have core:∀H:Hp,Lz H->yZ K H a (ns.map V.int)->yp P w H s₁.heap->(∀b,H b≠none->b=a)->(H a≠none->K.lookup a=none)->
   codeAny (model P w) callerA (.call (.ref fa) ⟨[.ref a],[]⟩) (λr s'=>r=.ok (.ret (.bool true))/\OldK s₁.heap s'.heap/\s'.os=s₁.os/\AllBare s'.gens) s₁:=by
  intro H hO hS mZ hA hK;have Yr:∀{b:Addr} {o:Obj},s₁.heap.get? b=some o->H b=none->(FC s₁.heap H).get? b=some o:=λe n=>Mr e n;have noA:∀{b:Addr} {o:Obj} {es:Array DictEntry} {ep:Nat},s₁.heap.get? b=some o->o.data=.dict es ep->H b=none:=λ{b o es ep} e d=>by
   cases q:H b with
   | none=>rfl
   | some u=>have e':b=a:=hA b (by rw[q];simp);subst e';rw[ha]at e;cases e;have d':Data.seq vs.toArray _=Data.dict es ep:=d;cases d'
  have nsK:∀{b:Addr} {m:QQZ},s₁.heap.Ns b m->(FC s₁.heap H).Ns b m:=λ{b m} ⟨o,es,ep,e,d,r⟩=>⟨o,es,ep,Yr e (noA e d),d,r⟩;have hKb:K.In (FC s₁.heap H):=λb o e=>Yr (KX b o e) (by
   cases q:H b with
   | none=>rfl
   | some u=>
    have e':b=a:=hA b (by rw[q];simp);subst e';rw[hK (by rw[q];simp)]at e;cases e)
  have hM:Mod K mg (FC s₁.heap H):=⟨hKb,nsK hns,⟨mb,nsK hb,hbb⟩,let⟨mc,h1,h2⟩:=hlim;⟨mc,nsK h1,h2⟩⟩;have e0:Ip P w K mg (FC s₁.heap H) callerA [] s₁ H:=⟨rfl,hM,λb o e=>OE e,mE (Kz _ _),trivial,λb hb=>absurd (show b∈([]:QXQ)from hb) (by simp),mZ,.of_eq hg⟩;refine gm ((F _ hKb (nsK hns)).run callerA [] s₁ H ⟨[.ref a],[]⟩ [.ref a] [.ref a] _ _ hr e0 (hbind s₁ (.ref a)) (.cons rfl .nil) (Yv H hO hS)) λr s' h=>?_;cases r with
  | error e=>exact(hCX H e s' h).elim
  | ok fl=>
   cases fl with
   | next=>exact False.elim h
   | brk=>exact False.elim h
   | cont=>exact False.elim h
   | ret u=>
    obtain⟨v,H',os,bare,un,ZX,r',q⟩:=h;have q':v=.bl true:=q;subst q';obtain rfl:u=Value.bool true:=r';refine⟨rfl,OldK.of_keep λb o e=>?_,os,bare⟩;cases q:H b with
    | none=>exact un.keep b o e q (by intro z;exact absurd (show b∈([]:QXQ)from z) (by simp)) (by simp)
    | some u=>
     rcases hO b with z|⟨ob,xs,z⟩
     .rw[q]at z;cases z
     .have z2:=un.nH b ob _ z;obtain⟨e1,_⟩:=mZ b _ z;obtain⟨e2,_⟩:=ZX b _ z2;rw[e]at e1;cases e1;exact e2
 cases hk:K.lookup a with
 | some o=>have e:=KX a o hk;rw[ha]at e;cases e;refine core (λ_=>none) (λ_=>.inl rfl) (.inr ⟨_,vs.toArray,_,hk,rfl,rfl,rfl,by rw[dB,lenV];exact hl,by simpa using rv⟩) (λb u z=>by have z':(none:Option HO)=some u:=z;cases z') (λb z=>absurd rfl z) λz=>absurd rfl z
 | none=>
  refine core (λb=>if b=a then some (.frz {cls:=.type "list",data:=.seq vs.toArray} (.lst (ns.map V.int)))else none) (λb=>?_) (.inl (.inr ⟨{cls:=.type "list",data:=.seq vs.toArray},dh rfl⟩)) (λb u z=>?_) (λb z=>?_) λ_=>hk
  .by_cases hb:b=a
   .exact .inr ⟨_,_,dh hb⟩
   .exact .inl (df hb)
  .by_cases hb:b=a
   .have z':=(dh hb).symm.trans z;cases z';subst hb;exact⟨ha,by rw[cX];exact hl,vs,_,rv,ha⟩
   .have z':=(df hb).symm.trans z;cases z'
  .by_cases hb:b=a
   .exact hb
   .exact absurd (df hb) z
def OU{l:W.OpenLaw}{n k:Nat}{q:Pg}{XT:QQQ}{XP:(QQZ)->Heap->Prop}{YP:Wo->Heap->Prop}{d:DefRec}{K:Params->qw}{CX:Wo->KS}{sp:Wo->Sp}{x:Str} (hn:l.most=some n) (ZQ:n<=sizeLine) (Zx:d.params.defaults=[]) (hr:sj k callerA) (hY:∀(w:Wo) (h:Heap),YP w h->(K w.params).In h) (F:∀(w:Wo) (mg:QQZ) (fa:Addr) (h:Heap),(K w.params).In h->h.Ns mainGlobals mg->mg d.name=some (.ref fa)->
   ∃fd:FuncData,(∀(s:Sd) (u:Vl),BindsTo s fd ⟨[u],[]⟩ [(x,u)])/\
    ∀base:Heap,(K w.params).In base->base.Ns mainGlobals mg->xo l.prog w (K w.params) mg base (CX w) k fa fd [x] (sp w))
  (Yv:∀(w:Wo) (H:Hp) (a:Addr) (ns:List Int),ns.length<=n->Lz H->yZ (K w.params) H a (ns.map V.int)->sp w [.ref a] H (λv _=>v=.bl true) λ_ _ _=>False)
  (hCX:∀(w:Wo) (H:Hp) (s:Sd) (e:Vl) (s':Sd),CX w [] H s (λ_ _ _=>False) e s'->False):
  W.WalkO q XT XP YP l.row.toRowW d [] (λf vs=>PySem.call f vs):=by
 refine Att.attach_call hn Zx λw s₀ s₁ mg mb fa o pm cd XG a vs ns G Y ho hd X6 hmg ZW YL W9 hg=>?_;have KX:=hY w _ Y;obtain⟨fd,hb,hF⟩:=F w mg fa _ KX G.T.g hmg;exact Nn KX G.T.g G.T.b G.T.builtins G.T.nolimit hg ZW YL (d9 W9 ZQ) hr hF hb (λH hO hS=>Yv w H a ns W9 hO hS) λH e s'=>hCX w H s₁ e s'
def Oe(s:Stmt)(j:Nat):Stmt:=match s with
 | .ClassDef _ _ _ body _ _ _ _ _ _ _=>body.getD j (.Pass ⟨0,0,0,0⟩)
 | _=>.Pass ⟨0,0,0,0⟩
def uA(s:Stmt):Arguments:=match s with
 | .FunctionDef _ a _ _ _ _ _ _ _ _=>a
 | _=>{posonlyargs:=[],args:=[],vararg:=none,kwonlyargs:=[],kw_defaults:=[],kwarg:=none,defaults:=[]}
def rY(s:Stmt):List Stmt:=match s with
 | .FunctionDef _ _ b _ _ _ _ _ _ _=>b
 | _=>[]
def ql(s:Stmt):Scope:=match s with
 | .FunctionDef _ _ _ _ _ _ sc _ _ _=>sc
 | _=>{kind:=.function,names:=[],isGenerator:=false,isCoroutine:=false}
abbrev NR:KS:=λ_ _ _ _ _ _=>False
abbrev E0:XK:=λ_ _ _=>False
def GD{X:Cx}:BZ NR X E0:=λ_ _ _ _ _ _ _ h=>h.elim
structure O8(K:qw)(x qual:Str)(st:Stmt)(f:Addr)(fd:FuncData):Prop where
 ex:∃(oc:Vl) (od:Option Addr) (kV XG pm:Vl) (an:Option Addr) (Xc ct:Vl) (X1:Array (Option Vl)),
  fd=W.fnOf x qual (uA st) (rY st) (ql st) .none kV XG pm an Xc ct/\K.lookup f=some ⟨oc,od,.func fd,X1⟩/\W.codeIn K Xc qual=true
 kp:W.keepIn K (.ref f)=true
variable {P:Pg}{K:qw}{mg:QQZ}{base:Heap}
section
variable {w:Wo}
def O8.ok{x qual:Str}{st:Stmt}{f:Addr}{fd:FuncData}{N ps:QQQ}{k:Nat}{sp:Sp}(F:O8 K x qual st f fd)(S:sZ N ps (ql st))(len:∀vs H Q E,sp vs H Q E->vs.length=ps.length) (Xq:∀(Xc:Vl) (A:Ar) (outer:List Env) (s:Sd) (H:Hp) (vs:List V) (Q:VK) (E:XK),sj k (A.deeper (envOfC qual (ql st) s.heap.objs.size f Xc))->sp vs H Q E->
   ∃t,Cn (vB NR P w K mg base N qual (ql st) f Xc A outer s H E).oQ (rY st) t/\t {nx:=λ_ H'=>Q .mW H',rt:=Q} (start N vs) H):xo P w K mg base NR (k+1) f fd ps sp:=by
 obtain⟨oc,od,kV,XG,pm,an,Xc,ct,X1,rfl,lk,X6⟩:=F.ex;refine LS lk X6 S len λA outer s H vs Q E hr Yv=>?_;obtain⟨t,h,q⟩:=Xq Xc A outer s H vs Q E hr Yv;exact⟨t,h.oQ,q⟩
def O8.binds{x qual:Str}{st:Stmt}{f:Addr}{fd:FuncData}{ps:QQQ}(F:O8 K x qual st f fd) (h:∀(kV XG pm:Vl) (an:Option Addr) (Xc ct:Vl) (us:List Vl),us.length=ps.length->bindArgs (W.fnOf x qual (uA st) (rY st) (ql st) .none kV XG pm an Xc ct) ⟨us,[]⟩=pure (ps.zip us)):uS K fd ps []:=by
 obtain⟨oc,od,kV,XG,pm,an,Xc,ct,X1,rfl,lk,X6⟩:=F.ex;exact .all (h kV XG pm an Xc ct)
def Mn{x qual:Str}{st:Stmt}{f:Addr}{oc:Vl}{od an:Option Addr}{X1:Array (Option Vl)}{kV XG pm Xc ct:Vl}(l:K.lookup f=some ⟨oc,od,.func (W.fnOf x qual (uA st) (rY st) (ql st) .none kV XG pm an Xc ct),X1⟩) (c:W.codeIn K Xc qual=true) (k:W.keepIn K (.ref f)=true):O8 K x qual st f (W.fnOf x qual (uA st) (rY st) (ql st) .none kV XG pm an Xc ct):=⟨⟨oc,od,kV,XG,pm,an,Xc,ct,X1,rfl,l,c⟩,k⟩
end
variable {X:Cx}
def pv(i:Nat){x:Str}{pos:Pos}(hN:X.N[i]?=some x:=by rfl)(hv:R8 X.env.scope x:=by first|exact Or.inl rfl|exact Or.inr (Or.inl rfl)|exact Or.inr (Or.inr rfl))(hd:yJ x:=by decide)
  (X6:(x==("__classdict__":Str))=false:=by decide):PE X (.Name x pos) (EM i):=LN hN hv hd X6
def JO{A B:Prop}(h:B):if false=true then A else B:=by rw[df dC];exact h
def Os{A B:Prop}(h:A):if true=true then A else B:=by rw[dh rfl];exact h
def qM{c A B:Prop}[Decidable c](h1:c->A)(h2:¬c->B):if c then A else B:=by
 by_cases h:c
 .rw[dh h];exact h1 h
 .rw[df h];exact h2 h
def QA(H H':Hp):Prop:=∀b o,H b=some o->H' b=some o
def QA.trans{H H1 H2:Hp}(a:QA H H1)(b:QA H1 H2):QA H H2:=λc o h=>b c o (a c o h)
section
variable {κ:Type}[DecidableEq κ]
def xb(kvs:List (κ×V))(k:κ):Option V:=(kvs.find? λkv=>decide (kv.1=k)).map (·.2)
def yQ(kvs:List (κ×V))(k:κ)(v:V):List (κ×V):=
 if (kvs.any λkv=>decide (kv.1=k))=true then kvs.map (λkv=>if kv.1=k then(kv.1,v)else kv)else kvs++[(k,v)]
def CO{p:κ×V}{r:List (κ×V)}{k:κ}(e:p.1=k):xb (p::r) k=some p.2:=by simp[xb,fM,e]
def Bv{p:κ×V}{r:List (κ×V)}{k:κ}(e:¬p.1=k):xb (p::r) k=xb r k:=by simp[xb,fM,e]
theorem FW(k:κ):∀kvs:List (κ×V),(kvs.any λkv=>decide (kv.1=k))=(xb kvs k).isSome
 | []=>rfl
 | p::r=>by
  rw[gc];by_cases e:p.1=k
  .simp only[CO e,dZ e,hZ,Option.isSome_some]
  .rw[Bv e,eR e,fP];exact FW k r
def AJ(kvs:List (κ×V))(k:κ)(v:V):(yQ kvs k v).length<=kvs.length+1:=by
 unfold yQ;split
 .rw[cX];omega
 .rw[de,eD,dM];omega
def yo.nN{o:Option V}{u:Option Vl}(r:yo o u):o.isSome=u.isSome:=by
 cases o with
 | none=>cases u with
  | none=>rfl
  | some _=>exact(show False from r).elim
 | some _=>cases u with
  | none=>exact(show False from r).elim
  | some _=>rfl
def KV.val{kvs:List (κ×V)}{vs:List (κ×Vl)}(r:KV kvs vs)(k:κ):yo (xb kvs k) (valueAt vs k):=by
 unfold KV at r;induction r with
 | nil=>exact True.intro
 | @cons p q ps qs h t ih=>
  obtain⟨h1,h2⟩:=h;by_cases e:p.1=k
  .have e':q.1=k:=h1.symm.trans e;have b:valueAt (q::qs) k=some q.2:=by simp[valueAt,fM,e']
   rw[CO e,b];exact h2
  .have e':¬q.1=k:=λz=>e (h1.trans z);have b:valueAt (q::qs) k=valueAt qs k:=by simp[valueAt,fM,e']
   rw[Bv e,b];exact ih
def KV.any{kvs:List (κ×V)}{vs:List (κ×Vl)}(r:KV kvs vs)(k:κ):(kvs.any λkv=>decide (kv.1=k))=vs.any λkv=>decide (kv.1=k):=by
 unfold KV at r;induction r with
 | nil=>rfl
 | cons h t ih=>rw[gc,gc,ih,h.1]
def KV.oJ{kvs:List (κ×V)}{vs:List (κ×Vl)}(r:KV kvs vs)(k:κ){y:V}{u:Vl}(ry:qN y u):
  KV (kvs.map λkv=>if kv.1=k then(kv.1,y)else kv) (vs.map λkv=>if kv.1=k then(kv.1,u)else kv):=by
 unfold KV at r ⊢;induction r with
 | nil=>exact .nil
 | @cons p q ps qs h t ih=>
  rw[dY,dY];refine .cons ?_ ih;obtain⟨h1,h2⟩:=h;by_cases e:p.1=k
  .rw[dh e,dh (h1.symm.trans e)];exact⟨h1,ry⟩
  .rw[df e,df (λz=>e (h1.trans z))];exact⟨h1,h2⟩
def KV.put{kvs:List (κ×V)}{vs:List (κ×Vl)}(r:KV kvs vs)(k:κ){y:V}{u:Vl}(ry:qN y u):KV (yQ kvs k y) (stored vs k u):=by
 unfold yQ stored;rw[r.any k];by_cases e:(vs.any λkv=>decide (kv.1=k))=true
 .rw[dh e,dh e];exact r.oJ k ry
 .rw[df e,df e];exact mM r ⟨rfl,ry⟩
def KV.length{kvs:List (κ×V)}{vs:List (κ×Vl)}(r:KV kvs vs):kvs.length=vs.length:=jw r
end
def GR{P:Pg}{w:Wo}{k:rc}{u:Vl}(r:qN (kV k) u):(rG P w).is k u=true:=by
 cases k with
 | inl i=>obtain⟨t,e⟩:=(show ∃t,u=Value.int i t from r);subst e;exact GQ P w i t
 | inr x=>obtain⟨t,e⟩:=(show ∃t,u=Value.str x t from r);subst e;exact AD P w x t
theorem D0{P:Pg}{w:Wo}:∀{ks:List rc} {us:List Vl},qE (ks.map kV) us->ItemsAre (rG P w) ks us
 | [],_,r=>by rw[iT]at r;cases r;exact .nil
 | k::ks,_,r=>by
  rw[dY]at r;cases r with
  | cons h t=>exact .cons (GR h) (D0 t)
abbrev KT(H:Hp):List (List rc×V)->List (List rc×Addr×Vl)->Prop:=Paired λp q=>p.1=q.1/\H q.2.1=some (.tup (p.1.map kV))/\qN p.2 q.2.2
def KT.val{H:Hp}{kvs:List (List rc×V)}{xs:List (List rc×Addr×Vl)}(r:KT H kvs xs)(k:List rc):yo (xb kvs k) ((atKey xs k).map (·.2)):=by
 induction r with
 | nil=>exact True.intro
 | @cons p q ps qs h t ih=>
  obtain⟨h1,_,h2⟩:=h;by_cases e:p.1=k
  .have e':q.1=k:=h1.symm.trans e;have b:atKey (q::qs) k=some q.2:=by simp[atKey,fM,e']
   rw[CO e,b];exact h2
  .have e':¬q.1=k:=λz=>e (h1.trans z);have b:atKey (q::qs) k=atKey qs k:=by simp[atKey,fM,e']
   rw[Bv e,b];exact ih
def KT.oJ{H:Hp}{kvs:List (List rc×V)}{xs:List (List rc×Addr×Vl)}(r:KT H kvs xs)(k:List rc){y:V}{u:Vl}(ry:qN y u):
  KT H (kvs.map λkv=>if kv.1=k then(kv.1,y)else kv) (xs.map (putAt k u)):=by
 induction r with
 | nil=>exact .nil
 | @cons p q ps qs h t ih=>
  rw[dY,dY];refine .cons ?_ ih;obtain⟨h1,h2,h3⟩:=h;unfold putAt;by_cases e:p.1=k
  .rw[dh e,dh (h1.symm.trans e)];exact⟨h1,h2,ry⟩
  .rw[df e,df (λz=>e (h1.trans z))];exact⟨h1,h2,h3⟩
def KT.put{H:Hp}{kvs:List (List rc×V)}{xs:List (List rc×Addr×Vl)}(r:KT H kvs xs)(k:List rc){b:Addr}{y:V}{u:Vl}(hb:H b=some (.tup (k.map kV)))(ry:qN y u):
  KT H (yQ kvs k y) (storedH xs k b u):=by
 have e:(kvs.any λkv=>decide (kv.1=k))=(atKey xs k).isSome:=by rw[FW,(r.val k).nN,jA]
 unfold yQ storedH;rw[e];by_cases q:(atKey xs k).isSome=true
 .rw[dh q,dh q];exact r.oJ k ry
 .rw[df q,df q];exact mM r ⟨rfl,hb,ry⟩
def KT.keeps{H H':Hp}{kvs:List (List rc×V)}{xs:List (List rc×Addr×Vl)}(r:KT H kvs xs)(ht:∀b ys,H b=some (.tup ys)->H' b=some (.tup ys)):KT H' kvs xs:=
 Paired.oO r λ_ _ z=>⟨z.1,ht _ _ z.2.1,z.2.2⟩
variable {H:Hp}{h:Heap}{a:Addr}
section
variable {w:Wo}
def QX{u:HO}(ok:yp P w H h)(e:Rd H a u):se P w H h a u:=e.ok ok
def Jo{kvs:List (rc×V)}(ok:yp P w H h)(e:Rd H a (.dK kvs)):kvs.length<=sizeLine/\(a==sysModules)=false/\∃vs,KV kvs vs/\h.DictOf (rG P w) a vs:=
 show se P w H h a (.dK kvs)from QX ok e
def Ui{kvs:List (rc×V)}(ok:yp P w H h)(e:H a=some (.dK kvs)):kvs.length<=sizeLine/\(a==sysModules)=false/\∃vs,KV kvs vs/\h.DictOf (rG P w) a vs:=Jo ok (.inl e)
def En{ks:List rc}(ok:yp P w H h)(e:H a=some (.tup (ks.map kV))):(tupleKind (rG P w)).is h ks a:=by obtain⟨_,its,r,o,h1,h2,⟨n,h3⟩,_⟩:=(show se P w H h a (.tup (ks.map kV))from ok a _ e);exact⟨o,its.toArray,n,h1,h2,h3,by simpa using D0 r⟩
def Iy{kvs:List (List rc×V)}(ok:yp P w H h)(e:Rd H a (.dT kvs)):kvs.length<=sizeLine/\(a==sysModules)=false/\
  ∃xs,KT H kvs xs/\h.DictOfH (tupleKind (rG P w)) a xs:=by
 obtain⟨z,y,xs,r,o,es,ep,h1,h2,h3,h4,h5⟩:=(show se P w H h a (.dT kvs)from QX ok e);refine⟨z,y,xs,r,o,es,ep,h1,h2,h3,h4,λx hx=>?_,h5⟩;have all:∀{l:List (List rc×V)} {m:List (List rc×Addr×Vl)},KT H l m->∀x∈m,(tupleKind (rG P w)).is h x.1 x.2.1:=by
  intro l m q;induction q with
  | nil=>intro x hx;exact nomatch hx
  | @cons p q ps qs hq t ih=>
   intro x hx;rcases dv.mp hx with e|hx
   .subst e;exact En ok (by rw[<-hq.1];exact hq.2.1)
   .exact ih x hx
 exact all r x hx
def Uo{kvs:List (List rc×V)}(ok:yp P w H h)(e:H a=some (.dT kvs)):kvs.length<=sizeLine/\(a==sysModules)=false/\
  ∃xs,KT H kvs xs/\h.DictOfH (tupleKind (rG P w)) a xs:=Iy ok (.inl e)
end
def E8(H:Hp)(a:Addr)(y:V)(r:Option V):Prop:=
 (∃kvs k,Rd H a (.dK kvs)/\y=kV k/\r=xb kvs k)\/∃kvs k b,Rd H a (.dT kvs)/\y=.ref b/\H b=some (.tup (k.map kV))/\r=xb kvs k
def Nx(H:Hp)(a:Addr)(y v:V)(H':Hp):Prop:=
 (∃kvs k,H a=some (.dK kvs)/\y=kV k/\kvs.length<sizeLine/\H'=upd H a (.dK (yQ kvs k v)))\/
 ∃kvs k b,H a=some (.dT kvs)/\y=.ref b/\H b=some (.tup (k.map kV))/\kvs.length<sizeLine/\H'=upd H a (.dT (yQ kvs k v))
def E8.k{H:Hp}{a:Addr}{kvs:List (rc×V)}{k:rc}(e:H a=some (.dK kvs)):E8 H a (kV k) (xb kvs k):=.inl ⟨kvs,k,.inl e,rfl,rfl⟩
def Nx.k{H:Hp}{a:Addr}{kvs:List (rc×V)}{k:rc}{v:V}(e:H a=some (.dK kvs))(hl:kvs.length<sizeLine):Nx H a (kV k) v (upd H a (.dK (yQ kvs k v))):=.inl ⟨kvs,k,e,rfl,hl,rfl⟩
variable {W2:List (Addr × Obj)}{σ:St}{y v:V}{u r:Vl}
section
variable {s:Sd}{o:Option V}{A:Ar}{E:QQX}
def Inv.big(I:Inv X W2 σ H s):sysModules<s.heap.objs.size:=by have h:mainGlobals<s.heap.objs.size:=(I.mod.glob.keeps I.bk).lt;exact iq (by decide) h
def Kk{Q:QQX}(hu:A.units+1<cLine)(I:Inv X W2 σ H s)(g:E8 H a y (some v))(ry:qN y u)(h:∀w' s',Inv X W2 σ H s'->qN v w'->Q w' s'):
  wpAny (model X.prog X.w) A (getItem (.ref a) u) Q E s:=by
 rcases g with⟨kvs,k,e,ey,l⟩|⟨kvs,k,b,e,ey,eb,l⟩
 .subst ey;obtain⟨z,hd,vs,rel,dd⟩:=Jo I.mZ e;obtain⟨w',hw,Zd⟩:=yo.some_of (v:=v) (o:=valueAt vs k) (by rw[l];exact rel.val k);exact wpAny_getItem_of (GR ry) dd.mapOf hw (h w' _ (I.tok _) Zd)
 .subst ey;cases(show u=Value.ref b from ry);obtain⟨z,hd,xs,rel,dd⟩:=Iy I.mZ e;obtain⟨w',hw,Zd⟩:=yo.some_of (v:=v) (o:=(atKey xs k).map (·.2)) (by rw[l];exact rel.val k);obtain⟨p,hp,Xd⟩:=iK.mp hw;refine wpAny_getItem_heap (jr hu) (En I.mZ eb) dd hp ?_;rw[Xd];exact h w' _ (I.tok _) Zd
def Wm{Q:QQX}(hu:A.units+1<cLine)(I:Inv X W2 σ H s)(g:E8 H a y o)(ry:qN y u)(h:∀s',Inv X W2 σ H s'->Q (.bool o.isSome) s'):
  wpAny (model X.prog X.w) A (compareOp .In u (.ref a)) Q E s:=by
 rcases g with⟨kvs,k,e,ey,l⟩|⟨kvs,k,b,e,ey,eb,l⟩
 .subst ey;obtain⟨z,hd,vs,rel,dd⟩:=Jo I.mZ e;refine wpAny_in_of (GR ry) hd dd.mapOf ?_;rw[<-(rel.val k).nN,<-l];exact h _ (I.tok _)
 .subst ey;cases(show u=Value.ref b from ry);obtain⟨z,hd,xs,rel,dd⟩:=Iy I.mZ e;refine wpAny_in_heap (jr hu) (En I.mZ eb) hd dd ?_;have q:=(rel.val k).nN;rw[jA]at q;rw[<-q,<-l];exact h _ (I.tok _)
def IP{h':Heap}{t':Nat}{ob:HO}(I:Inv X W2 σ H s)(mu:Uy (H a))(hs:Heap.SameBut a s.heap h')(he:∃q,h'.get? a=some q)(new:se X.prog X.w (upd H a ob) h' a ob):
  Inv X W2 σ (upd H a ob) {s with heap:=h',toks:=t'}:=
 I.write (x:=a) (e:=a) mu (.inl rfl) (λb q hb z=>(hs.2 b hb).trans z) he new
def Md{P:Pg}{w:Wo}{H':Hp}{h':Heap}{kvs:List (rc×V)}{vs:List (rc×Vl)}(z:kvs.length<=sizeLine)(hd:(a==sysModules)=false)(rel:KV kvs vs)(dd:h'.DictOf (rG P w) a vs):
  se P w H' h' a (.dK kvs):=⟨z,hd,vs,rel,dd⟩
def JY{H':Hp}{Q:Unit->Sd->Prop}(hu:A.units+1<cLine)(I:Inv X W2 σ H s)(g:Nx H a y v H')(ry:qN y u)(rv:qN v r)(h:∀s',Inv X W2 σ H' s'->Q () s'):
  wpAny (model X.prog X.w) A (setItem (.ref a) u r) Q E s:=by
 rcases g with⟨kvs,k,e,ey,l,eH⟩|⟨kvs,k,b,e,ey,eb,l,eH⟩
 .subst ey eH;obtain⟨z,hd,vs,rel,dd⟩:=Ui I.mZ e;have hz:vs.length<=sizeLine:=by rw[<-rel.length];exact z
  have hl:(yQ kvs k v).length<=sizeLine:=by have:=AJ kvs k v;omega
  refine wpAny_setItem_pairs (hsz:=hz) (GR ry) dd λh' dd' hs=>h _ ?_;have he:∃q,h'.get? a=some q:=let⟨q,_,_,hq,_⟩:=dd';⟨q,hq⟩;exact IP I (by rw[e];exact True.intro) hs he (Md hl hd (rel.put k rv) dd')
 .subst ey eH;cases(show u=Value.ref b from ry);obtain⟨z,hd,xs,rel,dd⟩:=Uo I.mZ e;have hz:xs.length<=sizeLine:=by rw[<-jw rel];exact z
  have hl:(yQ kvs k v).length<=sizeLine:=by have:=AJ kvs k v;omega
  refine wpAny_setItem_heap (hsz:=hz) (jr hu) (En I.mZ eb) dd λh' dd' hs=>h _ ?_;obtain⟨q,es,ep,hq,h2,h3,h4,_,h5⟩:=dd';refine IP I (by rw[e];exact True.intro) hs ⟨q,hq⟩ ⟨hl,hd,_,(rel.put k eb rv).keeps λc ys ec=>?_,q,es,ep,hq,h2,h3,h4,h5⟩;rw[qd (Tz ec e (λz=>nomatch z))];exact ec
end
variable {kvs:List (rc × V)}{k:rc}
section
variable {s:Sd}{A:Ar}{E:QQX}
end
def F'{X:Cx}{W2:QQY}{σ:St}{H:Hp}{s:Sd}{a:Addr}{y:V}{o:Option V}(I:Inv X W2 σ H s)(g:E8 H a y o):s.TypeIs (.ref a) "dict":=by
 rcases g with⟨kvs,k,e,_,_⟩|⟨kvs,k,b,e,_,_,_⟩
 .obtain⟨_,_,vs,_,dd⟩:=Jo I.mZ e;exact dd.typeIs
 .obtain⟨_,_,xs,_,dd⟩:=Iy I.mZ e;exact dd.typeIs
def UE(td ty tv:TE):TS:=λD σ H=>tv σ H λv H1=>td σ H1 λx H2=>ty σ H2 λy H3=>∃a H4,x=.ref a/\Nx H3 a y v H4/\D.nx σ H4
variable {i e value:Expr}{pos Xb Zc:Pos}{td ty tv:TE}
section
variable {o:Expr}
def PB(hu:X.A.units+1<cLine)(ho:PE X o td)(hi:PE X i ty)(hv:PE X value tv)(hs:swapsWith value (some (.Subscript o i Xb)) pos.line X.env=pure false):
  PS X (.Assign [.Subscript o i Xb] value pos) (UE td ty tv):=by
 intro W2 s σ H D I h;refine wpAny_Assign_Subscript (sH (hv W2 s σ H _ I h) λr s1 zz=>x5 zz λv H1 I1 rv q1=>sH (ho W2 s1 σ H1 _ I1 q1) λu s2 zz=>x5 zz λx H2 I2 rx q2=>sH (hi W2 s2 σ H2 _ I2 q2) λiv s3 zz=>?_) hs;obtain⟨y,H3,I3,ry,a,H4,ex,g,q3⟩:=zz;subst ex;obtain rfl:u=Value.ref a:=rx;exact JY hu I3 g ry rv λs4 I4=>⟨σ,H4,I4,q3⟩
end
structure M1(X:Cx)(o:Expr)(m:Str)(W6:Pos)(e:Expr)(Xa:Pos):Prop where
 base:attributeBase o m X.env (eval o X.env)=eval o X.env
 pA:((backTo Xa (starEach [e] X.env)).all (λx=>!x.1)&&(backToKw Xa (keywordEach [] X.env)).all (λx=>x.1.isSome)
  &&decide (([e]:List Expr).length+([]:List Keyword).length+(if ([]:List Keyword).isEmpty then 0 else 1)<30))=true
 line:(W6.endLine==Xa.line)=true
 trees:backTo Xa (starEach [e] X.env)=[(false,eval e X.env)]
structure M2(X:Cx)(o:Expr)(m:Str)(W6:Pos)(e f:Expr)(Xa:Pos):Prop where
 base:attributeBase o m X.env (eval o X.env)=eval o X.env
 pA:((backTo Xa (starEach [e,f] X.env)).all (λx=>!x.1)&&(backToKw Xa (keywordEach [] X.env)).all (λx=>x.1.isSome)
  &&decide (([e,f]:List Expr).length+([]:List Keyword).length+(if ([]:List Keyword).isEmpty then 0 else 1)<30))=true
 line:(W6.endLine==Xa.line)=true
 trees:backTo Xa (starEach [e,f] X.env)=[(false,eval e X.env),(false,eval f X.env)]
variable {d:V}
section
variable {s:Sd}{o:Option V}{A:Ar}{E:QQX}
end
variable {f:Expr}{W6 Xa:Pos}{tx:TE}
section
variable {o:Expr}
end
section
variable {s:Sd}{A:Ar}{E:QQX}
end
section
variable {s:Sd}{A:Ar}{E:QQX}
end
section
variable {κ:Type}[DecidableEq κ]
end
def Bb(env:Env):List (Str×NameKind)->List (Str×Addr)->List (Str×Addr)
 | [],acc=>acc
 | (n,k)::r,acc=>Bb env r (if k==.free then(n,(env.cells.lookup n).getD 0)::acc else acc)
theorem GL{env:Env}{f:(Str×NameKind)->List (Str×Addr)->Sem (ForInStep (List (Str×Addr)))} (hf:∀x cs,(x.2=.free->∃c,env.cells.lookup x.1=some c)->f x cs=pure (.yield (if x.2==.free then(x.1,(env.cells.lookup x.1).getD 0)::cs else cs))):
  ∀(l:List (Str×NameKind)) (acc:List (Str×Addr)),(∀x∈l,x.2=.free->∃c,env.cells.lookup x.1=some c)->forIn l acc f=pure (Bb env l acc)
 | [],acc,_=>by rw[kl];rfl
 | (n,k)::r,acc,h=>by rw[j4,hf (n,k) acc (h _ dU),pure_bind];exact GL hf r _ λx hx=>h x (dH _ hx)
def yr{scope:Scope}{env:Env}(h:∀x∈scope.names,x.2=.free->∃c,env.cells.lookup x.1=some c):closureFor scope env=pure (Bb env scope.names []):=by
 unfold closureFor;have e:=GL (env:=env) (f:=λ(x:Str×NameKind) (cs:List (Str×Addr))=>(do
   if x.2==.free then
    let a<-cellOf env x.1
    pure (ForInStep.yield ((x.1,a)::cs))
   else pure (ForInStep.yield cs))) (λx cs hx=>by
  cases hk:x.2==NameKind.free with
  | false=>simp
  | true=>
   obtain⟨c,hc⟩:=hx (by simpa using hk);simp[cellOf,hc]) scope.names [] h
 first
  | exact(eV (·>>=pure) e).trans (by simp)
  | (simp only[bind_pure];exact e)
  | (rw[<-e];rfl)
theorem LA{env:Env}{x:Str}{c:Addr}:∀{l:List (Str×NameKind)} {acc:List (Str×Addr)},(∀x∈l,x.2=.free->∃c,env.cells.lookup x.1=some c)->(∀x c,acc.lookup x=some c->env.cells.lookup x=some c)->(Bb env l acc).lookup x=some c->env.cells.lookup x=some c
 | [],acc,_,ha,h=>ha x c h
 | (n,k)::r,acc,hl,ha,h=>by
  refine LA (l:=r) (acc:=if k==.free then(n,(env.cells.lookup n).getD 0)::acc else acc) (λy hy=>hl y (dH _ hy)) (λy d hd=>?_) h;cases hk:k==NameKind.free with
  | false=>rw[hk]at hd;exact ha y d (by simpa using hd)
  | true=>
   rw[hk,dh rfl]at hd;obtain⟨e,he⟩:=hl (n,k) dU (by simpa using hk);rw[eK]at hd;cases hy:y==n with
   | true=>
    rw[hy]at hd;have yn:y=n:=by simpa using hy
    subst yn;have he:env.cells.lookup y=some e:=he;rw[he]at hd ⊢;exact hd
   | false=>rw[hy]at hd;exact ha y d hd
theorem Lg{env:Env}{x:Str}:∀{l:List (Str×NameKind)} {acc:List (Str×Addr)},(∃c,acc.lookup x=some c)->∃c,(Bb env l acc).lookup x=some c
 | [],_,h=>h
 | (n,k)::r,acc,h=>by
  refine Lg (l:=r) ?_;cases hk:k==NameKind.free with
  | false=>simpa using h
  | true=>
   rw[dh rfl,eK];cases hy:x==n with
   | true=>exact⟨_,rfl⟩
   | false=>exact h
theorem HQ{env:Env}{x:Str}:∀{l:List (Str×NameKind)} {acc:List (Str×Addr)},l.lookup x=some .free->∃c,(Bb env l acc).lookup x=some c
 | [],_,h=>by simp at h
 | (n,k)::r,acc,h=>by
  rw[eK]at h;cases hy:x==n with
  | true=>rw[hy]at h;have hk:k=.free:=dw h;subst hk;refine Lg (l:=r) ⟨(env.cells.lookup n).getD 0,?_⟩;show List.lookup x (if NameKind.free==NameKind.free then(n,(env.cells.lookup n).getD 0)::acc else acc)=some ((env.cells.lookup n).getD 0);rw[dh (by rfl),eK,hy]
  | false=>rw[hy]at h;exact HQ (l:=r) h
theorem uC{env:Env}{x:Str}:∀{l:List (Str×NameKind)},(l.map λ(n,k)=>if (k==NameKind.free&&env.scope.kind==.function&&env.kindOf n==some .cell)then(n,NameKind.cell)else(n,k)).lookup x
   = (l.lookup x).map λk=>if (k==NameKind.free&&env.scope.kind==.function&&env.kindOf x==some .cell)then NameKind.cell else k
 | []=>rfl
 | (n,k)::r=>by
  rw[dY];show List.lookup x ((if (k==NameKind.free&&env.scope.kind==.function&&env.kindOf n==some .cell)=true then(n,NameKind.cell)else(n,k))::_)=_;cases hy:x==n with
  | true=>
   have yn:x=n:=by simpa using hy
   subst yn;by_cases hc:(k==NameKind.free&&env.scope.kind==.function&&env.kindOf x==some .cell)=true
   .rw[dh hc,eK,eK,hy];simp only[j5];rw[dh hc]
   .rw[df hc,eK,eK,hy];simp only[j5];rw[df hc]
  | false=>
   by_cases hc:(k==NameKind.free&&env.scope.kind==.function&&env.kindOf n==some .cell)=true
   .rw[dh hc,eK,eK,hy];exact uC
   .rw[df hc,eK,eK,hy];exact uC
def PQ(ix:List (Option Nat))(σ:St):St:=ix.map λo=>o.bind λi=>(σ[i]?).join
abbrev Cx.comp(X:Cx)(scope:Scope)(N':QQQ)(C:Addr)(s0:Sd)(H0:Hp)(ex:QXQ):Cx:=
 {X with N:=N',s₀:=s0,H₀:=H0,env:=compEnvC scope (Bb X.env scope.names []) C X.env,outer:=X.stack,ex:=ex,fn:=λ_=>false,pn:=[],xe:=λ_ _=>False}
structure sy(X:Cx)(scope:Scope)(ix:List (Option Nat))(N':QQQ):Prop where
 kind:scope.kind=.function
 oF:∀y∈scope.names,y.2≠.cell
 nam:∀y∈scope.names,y.2=.local->scope.names.lookup y.1=some .local
 fre:∀y∈scope.names,y.2=.free->X.env.scope.names.lookup y.1=some .cell\/X.env.scope.names.lookup y.1=some .free
 len:ix.length=N'.length
 at_:∀(j i:Nat) (x:Str),ix[j]?=some (some i)->N'[j]?=some x->X.N[i]?=some x/\scope.names.lookup x=some .free
variable {scope:Scope}{ix:List (Option Nat)}{N':QQQ}{fp:QXQ}
section
variable {s:Sd}
def sy.cells(S:sy X scope ix N')(ok:X.Ok):∀x∈scope.names,x.2=.free->∃c,X.env.cells.lookup x.1=some c:=λx hx hk=>ok.has x.1 (S.fre x hx hk)
def sy.sub(S:sy X scope ix N')(ok:X.Ok){x:Str}{c:Addr}(h:(Bb X.env scope.names []).lookup x=some c):X.env.cells.lookup x=some c:=LA (S.cells ok) (λ_ _ z=>by simp at z) h
theorem vv{x:Str}{k:NameKind}:∀{l:List (Str×NameKind)},l.lookup x=some k->(x,k)∈l
 | [],h=>by simp at h
 | (n,j)::r,h=>by
  rw[eK]at h;cases hy:x==n with
  | true=>
   rw[hy]at h;have yn:x=n:=by simpa using hy
   subst yn;rw[dw h];exact dU
  | false=>rw[hy]at h;exact dH _ (vv h)
def Inv.comp{C:Addr}{h1:Heap}{tk:Nat}(I:Inv X W2 σ H s)(S:sy X scope ix N')(hf:∀b∈fp,A9 X W2 H b)(Xe:∀b∈fp,b<s.heap.objs.size)(hC:s.heap.objs.size<=C) (k:∀b o,s.heap.get? b=some o->h1.get? b=some o) (hn:h1.Ns C (λ_=>none)):Inv (X.comp scope N' C s H fp) (X.pn++W2) (PQ ix σ) H {s with heap:=h1,toks:=tk}:=by
 have sub:∀{x:Str} {c:Addr},(Bb X.env scope.names []).lookup x=some c->X.env.cells.lookup x=some c:=λh=>S.sub I.ok h;refine⟨⟨I.ok.mod,S.kind,I.ok.glob,I.ok.blt,hC,λx y c e1 e2=>I.ok.inj x y c (sub e1) (sub e2),λx hx=>?_,λ_ _ z=>(dC z).elim,I.ok.hd,I.ok.frames,.inl rfl,λb hb=>⟨dG (dP (Xe b hb) hC),λx c e=>(hf b hb).2.2.2.2.1 x c (sub e)⟩,I.bs,d9 I.ok.oq I.sz,λb o e hb=>?_,λb hb hfs=>?_,I.stack,I.nQ⟩,rfl,I.bare,Un.kept k,⟨_,hn,λi x v e1 e2 e3=>?_⟩,λx c e=>?_,I.mZ.fresh hC,λx c e=>I.nk x c (sub e),λp hp=>?_,I.mZ.kept k,?_⟩
 .have hx:(relabel scope X.env).names.lookup x=some .cell\/(relabel scope X.env).names.lookup x=some .free:=hx;have e:(relabel scope X.env).names.lookup x=(scope.names.lookup x).map λk=>if (k==NameKind.free&&X.env.scope.kind==.function&&X.env.kindOf x==some .cell)then NameKind.cell else k:=uC
  rw[e]at hx;cases q:scope.names.lookup x with
  | none=>rw[q]at hx;rcases hx with hx|hx<;>simp at hx
  | some kd=>
   cases kd with
   | free=>exact HQ q
   | cell=>exact absurd rfl (S.oF _ (vv q))
   | _=>rw[q]at hx;rcases hx with hx|hx<;>simp at hx
 .rcases(hf b hb).2.2.2.1 with z|z
  .exact I.ok.nZ b o e z
  .exact absurd (dP (dA e) (d9 I.ok.oq z)) (fj _)
 .rcases dv.mp (I.nI b hfs)with z|z
  .exact(hf b hb).2.1 z
  .exact(hf b hb).2.2.1 z
 .have Zf:(ix[i]?).map (λo=>o.bind λi=>(σ[i]?).join)=some (some v):=by have z:(PQ ix σ)[i]?=some (some v):=e2;unfold PQ at z;rw[dF]at z;exact z
  cases q:ix[i]? with
  | none=>rw[q]at Zf;cases Zf
  | some o=>
   rw[q]at Zf;cases o with
   | none=>cases Zf
   | some j=>
    have Zg:(σ[j]?).join=some v:=dw Zf;have e4:σ[j]?=some (some v):=by
     cases r:σ[j]? with
     | none=>rw[r]at Zg;cases Zg
     | some w=>rw[r]at Zg;exact eV some Zg
    obtain⟨n1,n2⟩:=S.at_ i j x q e1;obtain⟨m,hm,hl⟩:=I.loc;have hk:=S.fre _ (vv n2) rfl;have hv:R8 X.env.scope x:=by
     rcases hk with z|z
     .exact .inr (.inl z)
     .exact .inr (.inr z)
    obtain⟨u,ru,lk⟩:=hl j x v n1 e4 hv;refine⟨u,ru,?_⟩;have ZY:X.env.kindOf x=some .cell\/X.env.kindOf x=some .free:=hk;rcases lk with⟨z,_⟩|⟨_,c,hc,hcell⟩
    .rcases ZY with y|y<;>(rw[y]at z;cases z)
    .obtain⟨c',hc'⟩:=HQ (env:=X.env) (acc:=[]) n2;have:=sub hc';rw[hc]at this;cases this;refine .inr ⟨?_,c,hc',hcell.keeps k⟩;show(relabel scope X.env).names.lookup x=some .cell\/(relabel scope X.env).names.lookup x=some .free;have e:(relabel scope X.env).names.lookup x=(scope.names.lookup x).map λk=>if (k==NameKind.free&&X.env.scope.kind==.function&&X.env.kindOf x==some .cell)then NameKind.cell else k:=uC
     rw[e,n2];simp only[j5];split
     .exact .inl rfl
     .exact .inr rfl
 .obtain⟨v,q⟩:=I.cell x c (sub e);exact⟨v,q.keeps k⟩
 .obtain⟨e,n,ne,nf,d⟩:=I.pin p (by simpa using hp);refine⟨k _ _ e,n,dG (dP (dA e) hC),λz=>?_,d⟩;rcases dv.mp (I.nI p.1 z)with y|y
  .exact ne y
  .exact nf y
 .show(PQ ix σ).length=N'.length;unfold PQ;rw[cX];exact S.len
end
section
variable {prog:Pg}{w:Wo}{A:Ar}{R:Result→Sd→Prop}{s:Sd}
def xH{XX Xx iter:Expr}{XE:List Expr}{scope:Scope}{pos:Pos}{it acc:Vl}{env:Env}(I:Nat->Sd->Prop){EX:QQX}(hEX:∀e s',EX e s'->notedBy (model prog w) A env (λx s'=>R (.error x) s') e s') (turn:∀n s,I n s->wpAny (model prog w) A (pyNext it) (λr s₁=>match r with
   | none=>R (.ok .next) s₁
   | some v=>wpAny (model prog w) A (letOwnedTupleGo Xx it v) (λ_ s₁=>wpAny (model prog w) A (assign Xx env v) (λ_ s₂=>
     wpAny (model prog w) A (forIn XE true λc r=>if r=true then do let ok<-isTrue c env (eval c env);pure (ForInStep.yield ok)else pure (ForInStep.yield r)) (λok s₃=>
      if ok=true then wpAny (model prog w) A (eval XX env) (λx s₄=>
       wpAny (model prog w) A (call (.builtin "list.append") [acc,x]) (λ_ s₅=>∃m,m<n/\I m s₅) (λ_ _=>False) s₄) EX s₃
      else ∃m,m<n/\I m s₃) (λ_ _=>False) s₂) (λ_ _=>False) s₁) (λ_ _=>False) s₁) (λ_ _=>False) s)
  (n:Nat) (h:I n s):
  codeAny (model prog w) A (.compLoop (.ListComp XX [⟨Xx,iter,XE,0⟩] scope pos) 0 it acc env) R s:=by
 refine codeAny_loop rfl I (λn s hI=>?_) n h;show wpAny _ A ((compTurn (.ListComp XX [⟨Xx,iter,XE,0⟩] scope pos) 0 it acc env).onRaise (λx=>do noteFrame x env;theTreesLotGoes x)) _ _ s;refine wpAny_noted ?_;rw[compTurn_list];refine cY (gT (cY (eB (turn n s hI) (λr s₁ h₁=>?_) λ_ _ h'=>h'.elim)));cases r with
 | none=>exact dq h₁
 | some v=>
  refine cY (eB h₁ (λ_ s₁' h₁'=>?_) λ_ _ h'=>h'.elim);refine cY (eB h₁' (λ_ s₂ h₂=>cY (eB h₂ (λok s₃ h₃=>?_) λ_ _ h'=>h'.elim)) λ_ _ h'=>h'.elim);cases ok with
  | false=>exact dq ⟨rfl,h₃⟩
  | true=>exact cY (cY (eB h₃ (λx s₄ h₄=>cY (eB h₄ (λ_ s₅ h₅=>dq (dq ⟨rfl,h₅⟩)) λ_ _ h'=>h'.elim)) hEX))
end
def PF(X:Cx)(XE:List Expr)(t:TT):Prop:=
 ∀(W2:QQY) (s:Sd) (σ:St) (H:Hp) (Q:Bool->Hp->Prop),Inv X W2 σ H s->t σ H Q->
  wpAny (model X.prog X.w) X.A (forIn XE true λc r=>if r=true then do let ok<-isTrue c X.env (eval c X.env);pure (ForInStep.yield ok)else pure (ForInStep.yield r)) (TP X W2 σ Q) X.xe s
def U9:TT:=λ_ H Q=>Q true H
def Rk{X:Cx}:PF X [] U9:=λ_ _ _ H _ I h=>wpAny_tests_nil ⟨H,I,h⟩
def Ru{X:Cx}{c:Expr}{t:TT}(h:PT X c t):PF X [c] t:=λW2 s σ H Q I q=>wpAny_tests_one (h W2 s σ H Q I q)
def QF(ix:List (Option Nat))(g:TG)(tt:TT)(te:TE)(σ:St)(J:It)(Q:VK)(H:Hp):Prop:=
 ∃W:Nat->Nat->List V->St->Hp->Prop,(∃m,W 0 m [] (PQ ix σ) H)/\∀i m ys σ' H,W i m ys σ' H->
  (J.stop i H/\ys.length<=sizeLine/\∀D,H D=none->Q (.ref D) (upd H D (.lst ys)))\/
  (J.go i H/\ys.length<sizeLine/\∀x H',J.oU i H x H'->g x σ' H' λσ2 H2=>tt σ2 H2 λb H3=>if b=true then te σ2 H3 λy H4=>∃m',m'<m/\W (i+1) m' (ys++[y]) σ2 H4 else ∃m',m'<m/\W (i+1) m' ys σ2 H3)
def Nb(ix:List (Option Nat))(wi:TI)(g:TG)(tt:TT)(te:TE):TE:=λσ H Q=>wi σ H λJ H1=>QF ix g tt te σ J Q H1
variable {tg iter XX:Expr}{XE:List Expr}{g:TG}{tt:TT}{te:TE}{J:It}{it:Addr}{tn:Nat→Heap→Prop}{Q:VK}
section
variable {s:Sd}
def Cg{XP:Addr->Sd->Hp->QXQ->QQY->St->Vl->Sd->Prop}{RR:Vl->Addr->Result->Sd->Prop}{E:QQX}(hc:X.calm=true)(S:sy X scope ix N')(I:Inv X W2 σ H s)(T:FV X.prog X.w X.K tg J fp it tn)(st:tn 0 s.heap)(hf:∀b∈fp,A9 X W2 H b) (hg:∀C s0 H0 ex,PG (X.comp scope N' C s0 H0 ex) tg g) (ht:∀C s0 H0 ex,PF (X.comp scope N' C s0 H0 ex) XE tt) (he:∀C s0 H0 ex W2 s σ H Q,Inv (X.comp scope N' C s0 H0 ex) W2 σ H s->te σ H Q->wpAny (model X.prog X.w) X.A (eval XX (X.comp scope N' C s0 H0 ex).env) (EP (X.comp scope N' C s0 H0 ex) W2 σ Q) (XP C s0 H0 ex W2 σ) s) (hx:∀C D e s',s.heap.objs.size<=C->(∃X5 σ',(∀b∈fp,∃o,(b,o)∈X5)/\XP C s H fp X5 σ' e s')->notedBy (model X.prog X.w) X.A (compEnvC scope (Bb X.env scope.names []) C X.env) (λx s'=>RR D C (.error x) s') e s') (hw:QF ix g tt te σ J Q H) (W7:∀D C s' H' m,s.heap.objs.size<=C->H' C=none->s'.heap.Ns C m->Inv X W2 σ H' s'->Q (.ref D) H'->RR (.ref D) C (.ok .next) s'):
  wpAny (model X.prog X.w) X.A (newList []) (λacc s₃=>wpAny (model X.prog X.w) X.A (newFunctionEnv scope X.env.globals (Bb X.env scope.names []) [] X.env.qual none .none (some X.env)) (λXM s₄=>
   codeAny (model X.prog X.w) X.A (.compStart (.ListComp XX [⟨tg,iter,XE,0⟩] scope pos) 0 (.ref it) acc {XM with scope:=relabel scope X.env}) (RR acc XM.locals) s₄) E s₃) E s:=by
 obtain⟨W,⟨m0,w0⟩,turn⟩:=hw;have Xe:∀b∈fp,b<s.heap.objs.size:=λb hb=>by obtain⟨o,e,_⟩:=T.obj _ _ st b hb;exact dA e
 refine fU (wpAny_newFunctionEnv S.oF (by intro y hy;simp at hy) (λh₁ YM Zh=>?_) S.kind);dsimp only at YM Zh ⊢;generalize hH2:s.heap.push {cls:=.type "list",dict:=none,data:=.seq ([]:List Vl).toArray}=H2 at YM Zh ⊢;have hC:H2.objs.size=s.heap.objs.size+1:=by rw[<-hH2,fB]
 have hDC:s.heap.objs.size≠H2.objs.size:=by rw[hC];exact dG (fJ _)
 have Zi:s.heap.objs.size<=H2.objs.size:=by rw[hC];exact gB _
 have Zy:∀b,b<s.heap.objs.size->b≠H2.objs.size/\b≠s.heap.objs.size:=λb hb=>⟨by rw[hC];exact dG (fV hb),dG hb⟩;have XA:∀b o,s.heap.get? b=some o->h₁.get? b=some o:=λb o e=>Zh.extBut b o (Zy b (dA e)).1 (dg _ (hH2 ▸ dg _ e));have hacc:h₁.get? s.heap.objs.size=some {cls:=.type "list",data:=.seq ([]:List Vl).toArray 0}:=Zh.extBut _ _ hDC (dg _ (hH2 ▸ dI _ rfl));have YM:h₁.Ns H2.objs.size (λ_=>none):=YM;have Yi:∀{H':Hp} {pl:QQY},(∀b∈fp,H' b=none)->(∀p∈pl,p.1∉fp)->∀b∈fp,A9 (X.comp scope N' H2.objs.size s H fp) (X.pn++W2++pl) H' b:=λ{H' pl} hn Xj b hb=>by
  refine⟨hn b hb,dG (dP (Xe b hb) Zi),λz=>?_,.inl hb,λx c e=>(hf b hb).2.2.2.2.1 x c (S.sub I.ok e),λp hp=>?_⟩
  .rcases dv.mp (I.nI b z)with y|y
   .exact(hf b hb).2.1 y
   .exact(hf b hb).2.2.1 y
  .rcases eh.mp (show p∈X.pn++W2++pl by simpa using hp)with z|z
   .exact(hf b hb).2.2.2.2.2 p z
   .intro q;exact Xj p z (q ▸ hb)
 have loop:∀s₃:Sd,s₃={s with heap:=h₁,toks:=s.toks+([]:List (Str×Vl)).length}->
   codeAny (model X.prog X.w) X.A (.compLoop (.ListComp XX [⟨tg,iter,XE,0⟩] scope pos) 0 (.ref it) (.ref s.heap.objs.size) (compEnvC scope (Bb X.env scope.names []) H2.objs.size X.env))
    (RR (.ref s.heap.objs.size) H2.objs.size) s₃:=by
  rintro s₃ rfl
  refine xH (hEX:=λe s' z=>hx _ _ e s' Zi z) (λn s'=>∃(i:Nat) (ys:List V) (us:List Vl) (k:Nat) (σ':St) (H':Hp),Inv (X.comp scope N' H2.objs.size s H fp) (X.pn++W2) σ' H' s'/\tn i s'.heap/\(∀b∈fp,H' b=none)/\H' s.heap.objs.size=none/\
   s'.heap.get? s.heap.objs.size=some {cls:=.type "list",data:=.seq us.toArray k}/\qE ys us/\ys.length<=sizeLine/\W i n ys σ' H') ?_ m0
   ⟨0,[],[],0,PQ ix σ,H,I.comp S hf Xe Zi XA YM,T.keep _ _ _ st λb _ o e=>XA b o e,λb hb=>(hf b hb).1,I.mZ.fresh (dz _),hacc,.nil,eP _,w0⟩
  rintro n s' ⟨i,ys,us,k,σ',H',I',XU,fr',hD',XI,rv',hz',w'⟩
  have cellD:∀x c,(X.comp scope N' H2.objs.size s H fp).env.cells.lookup x=some c->c≠s.heap.objs.size:=λx c e=>by obtain⟨v,q⟩:=I.cell x c (S.sub I.ok e);exact dG q.lt
  have pinD:∀p∈X.pn++W2,p.1≠s.heap.objs.size:=λp hp=>dG (dA (I.pin p hp).1);have dfs:s.heap.objs.size∉(X.comp scope N' H2.objs.size s H fp).fs:=λz=>by
   rcases dv.mp (I.nI _ z)with y|y
   .exact absurd I.lt (by rw[<-y];exact fj _)
   .exact I.pb (dz _) y
  have dfp:s.heap.objs.size∉fp:=λz=>absurd (Xe _ z) (fj _);have IpD:Inv (X.comp scope N' H2.objs.size s H fp) (X.pn++W2++[(s.heap.objs.size,{cls:=.type "list",data:=.seq us.toArray k})]) σ' H' s':=I'.nW λp hp=>by
   rcases eh.mp hp with z|z
   .exact I'.pin p (eJ _ z)
   .have e:p=(s.heap.objs.size,{cls:=.type "list",data:=.seq us.toArray k}):=by simpa using z
    subst e;exact⟨XI,hD',hDC,dfs,λv z=>by cases z⟩
  have pfp:∀p∈[((s.heap.objs.size,{cls:=.type "list",data:=.seq us.toArray k}):Addr×Obj)],p.1∉fp:=λp hp=>by
   have e:p=(s.heap.objs.size,{cls:=.type "list",data:=.seq us.toArray k}):=by simpa using hp
   subst e;exact dfp
  rcases turn i n ys σ' H' w' with⟨stop,hz,q⟩|⟨go,hz,step⟩
  .refine eB (T.done (X.comp scope N' H2.objs.size s H fp) rfl rfl rfl hc i _ s' σ' H' (λ_ _=>False) IpD (Yi fr' pfp) XU stop) (λr s1 ⟨hr,I1⟩=>?_) λ_ _ z=>z;subst hr;show RR _ _ _ _;have ZZ:s1.heap.get? s.heap.objs.size=some {cls:=.type "list",data:=.seq us.toArray k}:=(I1.pin (s.heap.objs.size,{cls:=.type "list",data:=.seq us.toArray k}) (by simp)).1;obtain⟨m,hnC,_⟩:=id I1.loc;refine W7 _ _ s1 (upd H' s.heap.objs.size (.lst ys)) m Zi (by rw[qd (dR hDC)];exact I1.free) hnC ?_ (q _ hD');have nD:∀b o,s.heap.get? b=some o->b≠s.heap.objs.size:=λb o e=>(Zy b (dA e)).2;have hD0:H s.heap.objs.size=none:=I.mZ.fresh (dz _);refine I.oZ (s':=s1) (ch:=fp) I1.os ⟨λb o e n1 n2 n3=>?_,λb o e n1 n2 n3=>?_,λb o e n1 n2=>?_,λb o e n1=>?_,λb xs e=>?_,λb o u e=>?_,λb ps e=>?_⟩ (λb u e=>?_) I1.bare λb hb=>⟨(hf b hb).2.2.2.1,(hf b hb).2.1,(hf b hb).2.2.2.2.1,(hf b hb).2.2.2.2.2⟩
   .exact I1.base.keep b o e n1 n2 n3
   .exact I1.base.slot b o e n1 n2 n3
   .rw[qd (nD b o e)];exact I1.base.free b o e n1 n2
   .exact I1.base.there b o e n1
   .rw[qd (qT e hD0)];exact I1.base.nL b xs e
   .rw[qd (qT e hD0)];exact I1.base.nH b o u e
   .obtain⟨more,z⟩:=I1.base.nO b ps e;exact⟨more,by rw[qd (qT e hD0)];exact z⟩
   .by_cases hb:b=s.heap.objs.size
    .subst hb;rw[qp]at e;cases e;exact⟨hz,us,k,rv',ZZ⟩
    .rw[qd hb]at e;exact(I1.mZ b u e).nE (λc v _ z=>z) (λc z=>by rw[qd (qT z hD')];exact z) (λc xs z=>by rw[qd (qT z hD')];exact z)
  .refine eB (T.item (X.comp scope N' H2.objs.size s H fp) rfl rfl rfl hc i _ s' σ' H' (λ_ _=>False) IpD (Yi fr' pfp) XU go) (λr s1 ⟨v,hr,h4⟩=>?_) λ_ _ z=>z;subst hr;show wpAny _ _ (letOwnedTupleGo tg (.ref it) v) _ _ s1;refine eB h4 (λ_ s2 zz=>?_) λ_ _ z=>z;obtain⟨x,H5,I5,r5,y5,Zv,fr5⟩:=zz;have I5':=I5.pinned (Yi fr5 pfp) (T.obj _ _ Zv);refine eB (hg H2.objs.size s H fp _ s2 σ' H5 x v _ I5' r5 (step x H5 y5)) (λ_ s3 ⟨σ6,H6,I6,q6⟩=>?_) λ_ _ z=>z;refine eB (ht H2.objs.size s H fp _ s3 σ6 H6 _ I6 q6) (λok s4 ⟨H7,I7,q7⟩=>?_) λ_ _ z=>z;have Zz:∀{σ7:St} {H7:Hp} {s7:Sd},Inv (X.comp scope N' H2.objs.size s H fp) (X.pn++W2++[(s.heap.objs.size,{cls:=.type "list",data:=.seq us.toArray k})]++BP fp s2.heap) σ7 H7 s7->
     tn (i+1) s7.heap/\(∀b∈fp,H7 b=none)/\H7 s.heap.objs.size=none/\s7.heap.get? s.heap.objs.size=some {cls:=.type "list",data:=.seq us.toArray k}:=λ{σ7 H7 s7} K7=>by
    have pd:=K7.pin (s.heap.objs.size,{cls:=.type "list",data:=.seq us.toArray k}) (by simp);refine⟨T.keep _ _ _ Zv λb hb o e=>(K7.pin (b,o) (eJ _ (eJ _ (vA hb e)))).1,λb hb=>?_,pd.2.1,pd.1⟩;obtain⟨o,e,d⟩:=T.obj _ _ Zv b hb;exact(K7.pin (b,o) (eJ _ (eJ _ (vA hb e)))).2.1
   cases ok with
   | false=>rw[df dC]at q7 ⊢;obtain⟨m',hm,w7⟩:=q7;obtain⟨t7,f7,d7,o7⟩:=Zz I7;exact⟨m',hm,i+1,ys,us,k,σ6,H7,I7.nu.nu,t7,f7,d7,o7,rv',hz',w7⟩
   | true=>
    rw[dh rfl]at q7 ⊢;refine eB (he H2.objs.size s H fp _ s4 σ6 H7 _ I7 q7) (λyv s5 ⟨y,H8,I8,r8,m',hm,w8⟩=>?_) λ_ _ z=>⟨_,_,λb hb=>(by
     obtain⟨o,e,_⟩:=T.obj _ _ Zv b hb;exact⟨o,eJ _ (vA hb e)⟩),z⟩
    obtain⟨t8,f8,d8,o8⟩:=Zz I8;have hsz:us.toArray.size<=sizeLine:=by rw[dB,<-rv'.length];exact hz'
    refine append_at (hsz:=hsz) o8 λh' sb od=>?_;refine⟨m',hm,i+1,ys++[y],us++[yv],k+1,σ6,H8,?_,T.keep _ _ _ t8 λb hb o e=>(sb.2 b λq=>dfp (q ▸ hb)).trans e,f8,d8,?_,rv'.append (.cons r8 .nil),?_,w8⟩
    .exact I8.nu.nu.turned (it:=s.heap.objs.size) (t':=s5.toks) (λb o hb e=>(sb.2 b hb).trans e) d8 hDC (.inr (dz _)) cellD (by simpa using pinD)
    .rw[od,List.push_toArray]
    .rw[de,dS];exact hz
 exact codeAny_compStart_list (loop _ rfl) (T.self _ 0 _ _ _ (T.keep _ _ _ st λb _ o e=>XA b o e) (loop _ rfl))
def Inv.letGo{C:Addr}{s':Sd}{H':Hp}{σ':St}{h':Heap}(I:Inv X W2 σ H s)(I':Inv X W2 σ' H' s')(hC:s.heap.objs.size<=C)(hn:H' C=none)(hs:Heap.SameBut C s'.heap h'):Inv X W2 σ' H' {s' with heap:=h'}:=
 I'.turned (t':=s'.toks) (it:=C) (λb o hb e=>(hs.2 b hb).trans e) hn (λz=>absurd (dP I.lt hC) (by rw[z];exact fj _)) (.inr (d9 I.sz hC))
  (λx c e z=>by
   obtain⟨v,r⟩:=I.cell x c e;exact absurd (dP r.lt hC) (by rw[z];exact fj _))
  (λp hp z=>absurd (dP (dA (I.pin p hp).1) hC) (by rw[z];exact fj _))
def Oc{wi:TI}(hc:X.calm=true)(S:sy X scope ix N')(hi:PI X tg iter wi)(hg:∀C s0 H0 ex,PG (X.comp scope N' C s0 H0 ex) tg g)(ht:∀C s0 H0 ex,PF (X.comp scope N' C s0 H0 ex) XE tt)(he:∀C s0 H0 ex,PE (X.comp scope N' C s0 H0 ex) XX te) (hs:∀x,foldedSetIterable iter X.env x=pure x:=by intro _;rfl):PE X (.ListComp XX [⟨tg,iter,XE,0⟩] scope pos) (Nb ix wi g tt te):=by
 intro W2 s σ H Q I h;rw[eval_ListComp];refine jR (use:=none) rfl hs (yr (S.cells I.ok)) S.kind S.nam (eB (hi W2 s σ H _ I h) (λxv s₁ h₁=>eB h₁ (λitv s₂ h₂=>?_) λ_ _ e=>e) λ_ _ e=>e);obtain⟨it,fp,tn,J,H2,e,I2,T,Xs,f2,hw⟩:=h₂;subst e;refine Cg (RR:=λacc C=>compPost (model X.prog X.w) X.A X.xe none (EP X W2 σ Q) acc C) hc S I2 T Xs f2 hg ht (XP:=λ_ _ _ _ _ _ _ _=>False) he (λ_ _ _ _ _ z=>by obtain⟨_,_,_,z⟩:=z;exact z.elim) hw λD C s' H' m hCs hCn hn I3 q=>?_;exact⟨m,hn,λh' ZA=>⟨.ref D,_,I2.letGo I3 hCs hCn ZA,rfl,q⟩⟩
def HI{wi:TI}{i:Nat}{x:Str}{px YN:Pos}(hN:X.N.Nodup)(Zj:X.N[i]?=some x)(hx:KR X.env.scope x)(hc:X.calm=true)(S:sy X scope ix N')(hi:PI X tg iter wi)(hg:∀C s0 H0 ex,PG (X.comp scope N' C s0 H0 ex) tg g)(ht:∀C s0 H0 ex,PF (X.comp scope N' C s0 H0 ex) XE tt) (he:∀C s0 H0 ex,PE (X.comp scope N' C s0 H0 ex) XX te) (Yw:swapsWith (.ListComp XX [⟨tg,iter,XE,0⟩] scope pos) (some (.Name x px)) YN.line X.env=pure true) (hf:KQ X x:=by first|exact .inl rfl|exact .inr rfl|assumption) (hs:∀x,foldedSetIterable iter X.env x=pure x:=by intro _;rfl):
  PS X (.Assign [.Name x px] (.ListComp XX [⟨tg,iter,XE,0⟩] scope pos) YN) (Qb (Nb ix wi g tt te) (Jv i)):=by
 intro W2 s σ H D I h;rw[exec_Assign_Name_used _ _ _ _ Yw];refine cY (gT (cY ?_));show wpAny _ X.A (do let _<-comprehension (.ListComp XX [⟨tg,iter,XE,0⟩] scope pos) scope X.env _ (newList []) false (eval iter X.env) (some (assign (.Name x px) X.env))) _ _ s;refine cY (eB (jR (use:=some (assign (.Name x px) X.env)) (Q:=λ_ s'=>SP X W2 D .next s') rfl hs (yr (S.cells I.ok)) S.kind S.nam
  (eB (hi W2 s σ H _ I h) (λxv s₁ h₁=>eB h₁ (λitv s₂ h₂=>?_) λ_ _ e=>e) λ_ _ e=>e)) (λ_ s' hq=>dq (dq hq)) λ_ _ e=>e)
 obtain⟨it,fp,tn,J,H2,e,I2,T,Xs,f2,hw⟩:=h₂;subst e;refine Cg (RR:=λacc C=>compPost (model X.prog X.w) X.A X.xe (some (assign (.Name x px) X.env)) (λ_ s'=>SP X W2 D .next s') acc C) hc S I2 T Xs f2 hg ht (XP:=λ_ _ _ _ _ _ _ _=>False) he (λ_ _ _ _ _ z=>by obtain⟨_,_,_,z⟩:=z;exact z.elim) hw λDa C s' H' m hCs hCn hn I3 q=>?_;show wpAny _ X.A (assign (.Name x px) X.env (.ref Da)) _ _ _;refine lA (Eg I3 hN Zj hx (v:=.ref Da) rfl (λs4 I4 ⟨a,sb,ha⟩=>?_) hf);have ca:C≠a:=λz=>by
  rcases ha with y|y
  .exact absurd (dP I2.lt hCs) (by rw[z,y];exact fj _)
  .obtain⟨v,r⟩:=I2.cell x a y;exact absurd (dP r.lt hCs) (by rw[z];exact fj _)
 exact⟨m,hn.sameBut sb ca,λh' ZA=>⟨_,H',I2.letGo I4 hCs hCn ZA,q⟩⟩
end
def AR:typeLookup (.type "list") "__getattr__"=pure none:=by rw[typeLookup_type,km];kernel_rfl
def ED:typeLookup (.type "list") "keys"=pure none:=by rw[typeLookup_type,km];kernel_rfl
section
variable {prog:Pg}{w:Wo}{A:Ar}{E:QQX}
def Lf(a:Addr)(u:Tok)(its:Array Vl)(n:Nat)(sl:Array (Option Vl)):
  Meets (Builtin.«object.__getattribute__» ⟨[.ref a,.str "keys" u],[]⟩) λA R s=>s.heap.get? a=some ⟨.type "list",none,.seq its n,sl⟩/\A.handled=none/\∀h' tk e,Heap.NewAttrErr s.heap h' e (.ref a) "keys"->R (.error (.ref e)) {s with heap:=h',toks:=tk}:=
 Meets.of_wp λprog w A R s hs=>by
  obtain⟨hp,g,d,tk,os⟩:=s;obtain⟨h1,h2,h3⟩:=hs;have hT:(⟨hp,g,d,tk,os⟩:Sd).TypeIs (.ref a) "list":=⟨_,h1,rfl⟩;have f1:=ED;unfold Builtin.«object.__getattribute__»
  repeat (any_goals(first|assumption|wp_step))
  exact wpAny_raiseAttrError h2 h3 (attrMsg_fits (by decide+kernel) (by decide))
def FO{s:Sd}{a:Addr}{its:Array Vl}{n:Nat}{sl:Array (Option Vl)}{Q:Option Vl->Sd->Prop}(ha:s.heap.get? a=some ⟨.type "list",none,.seq its n,sl⟩)(hA:A.handled=none) (h:∀h' tk,(∀b o,s.heap.get? b=some o->h'.get? b=some o)->Q none {s with heap:=h',toks:=tk}):wpAny (model prog w) A (getAttr? (.ref a) "keys") Q E s:=by
 obtain⟨hp,g,d,tk,os⟩:=s;have hT:(⟨hp,g,d,tk,os⟩:Sd).TypeIs (.ref a) "list":=⟨_,ha,rfl⟩;have f1:=sub_AttributeError;have f3:=ir.lookup;have f4:=ir.bind (.ref a);have f5:=AR;unfold getAttr? getAttrBy? getAttrBy
 repeat (any_goals(first|assumption|((with_reducible show wpAny _ _ (call (Value.builtin "list.__getattribute__") _ _) _ _ _);refine jE ir hT F.entry_list_ga (F.args_list_getattribute_2 _ _) (Lf a _ its n sl) ⟨ha,hA,λh' tk' e hx=>?_⟩)|wp_step))
 obtain⟨t',u',he⟩:=hx.there;show wpAny _ _ (getattributeRaised _ _ _ _ _ _ _) _ _ _;unfold getattributeRaised
 repeat (any_goals(first|assumption|wp_step))
 all_goals first|exact h _ _ hx.keeps|skip
end
def Ay:entryFor table "dict.update.loop"=some Builtin.«dict.update.loop»:=entryFor_of_tree (by kernel_rfl)
def vJ:plainId "dict.update.loop"=true:=by decide+kernel
section
variable {prog:Pg}{w:Wo}{A:Ar}{E:QQX}{R:Result→Sd→Prop}{κ:Type}[DecidableEq κ]{knd:PySem.KeyKind prog w κ}
 {I:Addr} {fp wr:QXQ} {G:Array GenState->Array GenState->Prop} {P:Nat->Vl->Prop} {St:Nat->Sd->Prop}
def OT{s:Sd}{t:Addr}{x y:Vl}{Q:List Vl->Sd->Prop}(h:s.heap.IsTuple t #[x,y])(q:Q [x,y] s):wpAny (model prog w) A (Builtin.Dict.pairItems (.ref t)) Q E s:=by
 obtain⟨⟨oc,od,oda,X1⟩,h1,h2,n,h3⟩:=h;simp only at h2 h3;subst h2 h3;have hT:s.TypeIs (.ref t) "tuple":=⟨_,h1,rfl⟩;obtain⟨hp,g,d,tk,os⟩:=s;unfold Builtin.Dict.pairItems
 repeat (any_goals(first|assumption|wp_step))
def JV{all:List (κ×Vl)}(W:WalksS prog w A.in1 I fp wr G all.length P St)(d:Addr)(Zx:d∉fp)(kv:Nat->Vl)(tp:Nat->Addr)(hP:∀i v,P i v->v=.ref (tp i))(hw:∀j,j<all.length->tp j∉wr/\tp j≠d) (hk:∀j p,all[j]?=some p->knd.is p.1 (kv j)=true) (hz:all.length<=sizeLine):
  ∀(k i:Nat) (z:Int) (s:Sd),all.length - i=k->i<=all.length->St i s->(∀j p,all[j]?=some p->s.heap.IsTuple (tp j) #[kv j,p.2])->s.heap.DictOf knd d (merged [] (all.take i))->
   (∀s',Moved (d::wr) G s s'->s'.heap.DictOf knd d (merged [] all)->R (.ok (.ret .none)) s')->codeAny (model prog w) A (.builtin "dict.update.loop" ⟨[.ref d,.ref I,.int z 0,.none],[]⟩) R s:=by
 have hdw:d∉wr:=λh=>Zx (W.sub _ h);have YO:∀b∈wr,b∈d::wr:=λb hb=>dH _ hb;intro k;induction k with
 | zero=>
  intro i z s hk0 hi Xp hT hD hR;have Y1:i=all.length:=by omega
  subst Y1;refine gX Ay ?_;rw[ic vJ _];show wpAny _ A.in1 (pyNext (.ref I)>>=_) _ _ s;refine cY (W.done s _ _ Xp λs' hm=>?_);show wpAny _ A.in1 (Builtin.Dict.addKeywords d []>>=_) _ _ s';refine cY (dq (dq (hR s' (hm.mono YO) ?_)));rw[fu]at hD;obtain⟨o,es,ep,ho,rest⟩:=hD;exact⟨o,es,ep,hm.heap d _ hdw ho,rest⟩
 | succ k ih=>
  intro i z s hk0 hi Xp hT hD hR;have Xe:i<all.length:=by omega
  have Yl:all[i]?=some all[i]:=cZ Xe;refine gX Ay ?_;rw[ic vJ _];show wpAny _ A.in1 (pyNext (.ref I)>>=_) _ _ s;refine cY (W.item i s _ _ Xe Xp λv s' hPv Z0 hm=>?_);obtain rfl:=hP i v hPv;have hT':∀j p,all[j]?=some p->s'.heap.IsTuple (tp j) #[kv j,p.2]:=λj p e=>by obtain⟨o,h1,h2⟩:=hT j p e;exact⟨o,hm.heap _ _ (hw j (c9.mp e).1).1 h1,h2⟩
  have hD':s'.heap.DictOf knd d (merged [] (all.take i)):=by obtain⟨o,es,ep,ho,rest⟩:=hD;exact⟨o,es,ep,hm.heap d _ hdw ho,rest⟩
  show wpAny _ A.in1 (holding [Value.ref (tp i)] _>>=_) _ _ s';refine cY (eE (cY (wpAny_tryCatch (OT (hT' i _ Yl) ?_))));show wpAny _ A.in1 (holding [kv i,all[i].2] (dictSet d (kv i) all[i].2)) _ _ s';refine eE ?_;unfold dictSet;refine eE (cY (knd.pyHash (hk i _ Yl) ?_));have hl:(merged [] (all.take i)).length<=sizeLine:=by have:=merged_length_le [] (all.take i);rw[fC]at this;simp only[dM]at this;omega
  refine wpAny_dictSetHashed_pairs (hsz:=hl) (hk i _ Yl) hD' λh' dd hs=>?_;rw[<-merged_take_succ [] all i _ Yl]at dd;refine dq ⟨kH vJ _,ih (i+1) _ _ (by omega) Xe (W.frame _ s' _ _ Z0 (gB _) λb hb o e=>?_) (λj p e=>?_) dd λZT Z1 hD''=>?_⟩
  .rw[hs.2 b (λz:b=d=>Zx (z ▸ hb))];exact e
  .obtain⟨o,h1,h2⟩:=hT' j p e;refine⟨o,?_,h2⟩;show h'.get? (tp j)=some o;rw[hs.2 _ (hw j (c9.mp e).1).2];exact h1
  .refine hR ZT (mO W.gtrans ((hm.mono YO).then_heap (gB _) λb o hb e=>?_) Z1) hD'';rw[hs.2 b (λz:b=d=>hb (by rw[z];exact dU))];exact e
end
section
variable {prog:Pg}{w:Wo}{A:Ar}{E:QQX}{κ:Type}[DecidableEq κ]{knd:PySem.KeyKind prog w κ}{s:Sd}
def AZ{l:Addr}{its:Array Vl}{n:Nat}{sl:Array (Option Vl)}{all:List (κ×Vl)}{Q:QQX}(kv:Nat->Vl)(tp:Nat->Addr)(hh:A.handled=none)(hl:s.heap.get? l=some ⟨.type "list",none,.seq its n,sl⟩) (hits:∀(j:Nat) (v:Vl),its[j]?=some v->v=.ref (tp j)) (W9:its.size=all.length) (hT:∀j p,all[j]?=some p->s.heap.IsTuple (tp j) #[kv j,p.2]) (hk:∀j p,all[j]?=some p->knd.is p.1 (kv j)=true) (hz:all.length<=sizeLine) (h:∀h' tk,h'.DictOf knd s.heap.objs.size (merged [] all)->(∀b o,s.heap.get? b=some o->h'.get? b=some o)->Q (.ref s.heap.objs.size) {s with heap:=h',toks:=tk}):
  wpAny (model prog w) A (call (.type "dict") [.ref l]) Q E s:=by
 refine callType_codes (Q₁:=λobj s₁=>obj=Value.ref s.heap.objs.size/\s₁={s with heap:=s.heap.push {cls:=.type "dict",data:=.dict #[]}}) PySem.F.kt_called_dict (PySem.F.kt_typeCall_dict_1 _) F.entry_dict_init (kt_code_dict_new _ ⟨rfl,rfl⟩) ?_
 rintro obj s₁ ⟨rfl,rfl⟩
 have YK:(s.heap.push {cls:=.type "dict",data:=.dict #[]}).DictOf knd s.heap.objs.size []:=Heap.DictOf.new s.heap;have hl':(s.heap.push {cls:=.type "dict",data:=.dict #[]}).get? l=some ⟨.type "list",none,.seq its n,sl⟩:=dg _ hl;have hTl:Shared.TypeIs {s with heap:=s.heap.push {cls:=.type "dict",data:=.dict #[]}} (.ref l) "list":=⟨_,hl',rfl⟩;have lsz:l<s.heap.objs.size:=dA hl;refine⟨YK.typeIs,F.args_dict_init_2 _ _,?_⟩;unfold Builtin.«dict.__init__»;refine cY ?_;unfold Builtin.Dict.selfAndRest;refine cY (wpAny_notOrdered_dict YK.typeIs ?_);show wpAny _ _ (pure (s.heap.objs.size,[Value.ref l])) _ _ _;refine dq ?_;show wpAny _ _ (Builtin.Dict.updateFrom "dict.__init__" s.heap.objs.size (.ref l) [] .none) _ _ _;unfold Builtin.Dict.updateFrom;refine cY (jP hTl ?_);rw[dh (by decide)];refine cY (FO hl' (by simpa using hh) λh' tk keep=>?_);have ZC:h'.IsList l its:=⟨_,keep _ _ hl',rfl,n,rfl⟩;show wpAny _ _ (rule _>>=_) _ _ _;refine cY (kA (cY (gJ ZC ?_)));have nd:h'.objs.size>s.heap.objs.size:=by have z:h'.get? s.heap.objs.size=some _:=keep _ _ (dI _ rfl);exact dA z
 have hDn:h'.DictOf knd s.heap.objs.size []:=by obtain⟨o,es,ep,ho,rest⟩:=YK;exact⟨o,es,ep,keep _ _ ho,rest⟩
 have hTs:∀j p,all[j]?=some p->h'.IsTuple (tp j) #[kv j,p.2]:=λj p e=>by obtain⟨o,h1,h2⟩:=hT j p e;exact⟨o,keep _ _ (dg _ h1),h2⟩
 have Xm:l≠h'.objs.size:=dG (iq lsz nd);have W:=(kB (prog:=prog) (w:=w) (A:=A.in1.in1) (by simpa using hh) h'.objs.size l Xm its).toS;rw[W9]at W;refine dq ⟨kH vJ _,JV (A:=A.in1) W s.heap.objs.size ?_ kv tp (λi v e=>hits i v e) (λj hj=>?_) hk hz all.length 0 0 _ (by omega) (eP _) ⟨⟨_,dI _ rfl,rfl,rfl⟩,ZC.push _⟩ (λj p e=>(hTs j p e).push _) ?_ λs' hm hD=>?_⟩
 .simp only[dv,dJ,fg,fN];exact⟨dG nd,gP lsz⟩
 .have hj':all[j]?=some all[j]:=cZ hj;obtain⟨o,h1,_⟩:=hT j _ hj';have tsz:=dA h1;simp only[dv,dJ,fg];exact⟨dG (iq tsz nd),dG tsz⟩
 .obtain⟨o,es,ep,ho,rest⟩:=hDn;exact⟨o,es,ep,dg _ ho,rest⟩
 .obtain⟨h2,g2,d2,t2,o2⟩:=s';have eg:g2=s.gens:=hm.gens;have ed:d2=s.drawn:=hm.drawn;have eo:o2=s.os:=hm.os;subst eg ed eo;refine⟨rfl,h h2 t2 hD λb o e=>?_⟩;have hb:=dA e;refine hm.heap b o ?_ (dg _ (keep _ _ (dg _ e)));simp only[dv,dJ,fg,fN];exact⟨dG hb,dG (iq hb nd)⟩
end
def sV{κ:Type}[DecidableEq κ](l:List κ):List κ:=l.foldl (λacc k=>if k∈acc then acc else acc++[k]) []
def yc{κ:Type}[DecidableEq κ](l:List κ)(k:κ):sV (l++[k])=if k∈sV l then sV l else sV l++[k]:=by unfold sV;rw[iI];rfl
def JK{κ:Type}[DecidableEq κ]:∀l:List κ,(sV l).length<=l.length:=by
 have go:∀(l acc:List κ),(l.foldl (λacc k=>if k∈acc then acc else acc++[k]) acc).length<=acc.length+l.length:=by
  intro l;induction l with
  | nil=>intro acc;simp
  | cons k r ih=>
   intro acc;rw[fX];refine d9 (ih _) ?_;split
   .simp only[eD];omega
   .simp only[eD,de,dM];omega
 intro l;have:=go l []
 simpa [sV]using this
def MF{κ:Type}[DecidableEq κ](x:κ):∀l:List κ,x∈sV l↔x∈l:=by
 have go:∀(l acc:List κ),x∈l.foldl (λacc k=>if k∈acc then acc else acc++[k]) acc↔x∈acc\/x∈l:=by
  intro l;induction l with
  | nil=>intro acc;simp
  | cons k r ih=>
   intro acc;rw[fX,ih];by_cases h:k∈acc
   .rw[dh h,dv];constructor
    .rintro (z|z)
     .exact .inl z
     .exact .inr (.inr z)
    .rintro (z|z|z)
     .exact .inl z
     .subst z;exact .inl h
     .exact .inr z
   .rw[df h,eh,dD,dv,or_assoc]
 intro l;have:=go l []
 simpa [sV]using this
def Ij{κ:Type}[DecidableEq κ]:∀l:List κ,l.Nodup->sV l=l:=by
 have go:∀(l acc:List κ),(acc++l).Nodup->l.foldl (λacc k=>if k∈acc then acc else acc++[k]) acc=acc++l:=by
  intro l;induction l with
  | nil=>intro acc _;simp
  | cons k r ih=>
   intro acc h;have hk:k∉acc:=λz=>by rw[gq]at h;exact h.2.2 k z k dU rfl
   rw[fX,df hk,ih]
   .rw[fz];rfl
   .rw[fz];exact h
 intro l h;have:=go l [] (by simpa using h)
 simpa [sV]using this
section
variable {prog:Pg}{w:Wo}{A:Ar}{E:QQX}{R:Result→Sd→Prop}{κ:Type}[DecidableEq κ][BEq κ][LawfulBEq κ]{knd:PySem.KeyKind prog w κ}
 {I:Addr} {fp wr:QXQ} {G:Array GenState->Array GenState->Prop} {P:Nat->Vl->Prop} {St:Nat->Sd->Prop}
def GU{all:List κ}(W:WalksS prog w A.in1 I fp wr G all.length P St)(S:Addr)(hSf:S∉fp)(hval:∀i v k,P i v->all[i]?=some k->knd.is k v=true/\v.scannable=true)(hb:all.length+1<scanBound):
  ∀(n i:Nat) (s:Sd),all.length - i=n->i<=all.length->St i s->s.heap.SetOf knd S (λx=>decide (x∈sV (all.take i))) (sV (all.take i)).length->
   (∀s',Moved (S::wr) G s s'->s'.heap.SetOf knd S (λx=>decide (x∈sV all)) (sV all).length->R (.ok (.ret .none)) s')->codeAny (model prog w) A (.builtin "set.update.loop" ⟨[.ref S,.ref I],[]⟩) R s:=by
 have hSw:S∉wr:=λh=>hSf (W.sub _ h);have up:∀b∈wr,b∈S::wr:=λb hb=>dH _ hb;have kept:∀{s s':Sd} {T:κ->Bool} {m:Nat},Moved wr G s s'->s.heap.SetOf knd S T m->s'.heap.SetOf knd S T m:=λhm ⟨o,es,ep,t,ho,rest⟩=>⟨o,es,ep,t,hm.heap S _ hSw ho,rest⟩;intro n;induction n with
 | zero=>
  intro i s h0 hi Xp hS hR;obtain rfl:i=all.length:=by omega
  refine gX iu ?_;rw[ic gC _];rw[fu]at hS;exact cY (W.done s _ _ Xp λs' hm=>dq (hR s' (hm.mono up) (kept hm hS)))
 | succ n ih=>
  intro i s h0 hi Xp hS hR;have Xe:i<all.length:=by omega
  have Yl:all[i]?=some all[i]:=cZ Xe;refine gX iu ?_;rw[ic gC _];refine cY (W.item i s _ _ Xe Xp λv s' hP Z0 hm=>?_);obtain⟨k1,k2⟩:=hval i v _ hP Yl;have YQ:=kept hm hS;show wpAny _ A.in1 (holding [v] (setAdd S v)>>=_) _ _ s';refine cY (eE ?_);unfold setAdd;refine eE (cY (knd.pyHash k1 ?_));have room:(sV (all.take i)).length+1<scanBound:=by have h1:=JK (all.take i);rw[fC]at h1;omega
  refine wpAny_setAddHashed_of (knd:=knd) (s:={s' with toks:=s'.toks+1}) k1 k2 YQ room λh' hsb hS2=>?_;have et:all.take (i+1)=all.take i++[all[i]]:=by rw[gK,Yl];rfl
  have hSi:h'.SetOf knd S (λx=>decide (x∈sV (all.take (i+1)))) (sV (all.take (i+1))).length:=by
   refine iw hS2 (λx=>?_) ?_
   .rw[et];by_cases W5:all[i]∈sV (all.take i)
    .rw[yc,dh W5];by_cases hx:x=all[i]
     .subst hx;simp[W5]
     .simp[hx]
    .rw[yc,df W5];by_cases hx:x=all[i]
     .subst hx;simp
     .simp[hx]
   .rw[et,yc];by_cases W5:all[i]∈sV (all.take i)
    .rw[dh W5];simp[W5]
    .rw[df W5];simp[W5]
  refine dq ⟨kH gC _,ih (i+1) _ (by omega) Xe (W.frame _ s' _ _ Z0 (gB _) λb hb o e=>?_) hSi λZT Z1 hS''=>?_⟩
  .rw[hsb.2 b (λz:b=S=>hSf (z ▸ hb))];exact e
  .refine hR ZT (mO W.gtrans ((hm.mono up).then_heap (gB _) λb o hb e=>?_) Z1) hS'';rw[hsb.2 b (λz:b=S=>hb (by rw[z];exact dU))];exact e
end
def EH:isSubtype (.type "list") (.type "set")=pure false:=by rw[jn];kernel_rfl
def AW:isSubtype (.type "list") (.type "frozenset")=pure false:=by rw[jn];kernel_rfl
section
variable {prog:Pg}{w:Wo}{A:Ar}{E:QQX}{κ:Type}[DecidableEq κ][BEq κ][LawfulBEq κ]{knd:PySem.KeyKind prog w κ}{s:Sd}
set_option maxHeartbeats 4000000 in
def Dw{l:Addr}{W4:Array Vl}{all:List κ}{Q:QQX}(hh:A.handled=none)(hl:s.heap.IsList l W4)(hn:W4.size=all.length)(hi:∀(i:Nat) (v:Vl) (k:κ),W4[i]?=some v->all[i]?=some k->knd.is k v=true/\v.scannable=true)(hb:all.length+1<scanBound) (h:∀(h':Heap) (tk:Nat),h'.SetOf knd s.heap.objs.size (λx=>decide (x∈sV all)) (sV all).length->(∀b o,s.heap.get? b=some o->h'.get? b=some o)->Q (.ref s.heap.objs.size) {s with heap:=h',toks:=tk}):
  wpAny (model prog w) A (call (.type "set") [.ref l]) Q E s:=by
 obtain⟨c,tl,Z2⟩:=fD.mro;have hmade:=fD.made;have YO:=fD.sub;refine ib (j6 ?_);show wpAny _ _ (callAny (.type "set") _) _ _ _;refine dq ⟨iy _ (by decide+kernel),gX lF ?_⟩;rw[lj (ko "set" [.ref l] []) rfl];have h1:=fD.notType;have h2:=fD.canCreate;have hct:=lY (.ref l)
 repeat (any_goals(first|assumption|wp_step))
 have fresh:∀Xv:Bool,(s.heap.push {cls:=.type "set",dict:=none,data:=.set #[] 0 (.fresh 0 0 Xv)}).get? s.heap.objs.size=some {cls:=.type "set",dict:=none,data:=.set #[] 0 (.fresh 0 0 Xv)}:=λXv=>dI _ rfl;refine gm (code_set_new_1 (.ref l) (E:=E) (Q₁:=λobj s₁=>∃Xv:Bool,obj=Value.ref s.heap.objs.size/\s₁={s with heap:=s.heap.push {cls:=.type "set",dict:=none,data:=.set #[] 0 (.fresh 0 0 Xv)}}) λXv=>⟨Xv,rfl,rfl⟩) λr s₁ hr=>?_;cases r with
 | error e=>exact hr
 | ok fl=>
  cases fl with
  | ret obj=>
   obtain⟨Xv,rfl,rfl⟩:=hr;have hS:=fresh Xv;have hT:Shared.TypeIs {s with heap:=s.heap.push {cls:=.type "set",dict:=none,data:=.set #[] 0 (.fresh 0 0 Xv)}} (.ref s.heap.objs.size) "set":=⟨_,hS,rfl⟩;have hli:=fD.init.lookup;have hbi:=fD.init.bind (.ref s.heap.objs.size)
   repeat (any_goals(first|assumption|wp_step))
   refine gm (ie (R:=wants (λr s₂=>r=.none/\∃h' tk,s₂={s with heap:=h',toks:=tk}/\h'.SetOf knd s.heap.objs.size (λx=>decide (x∈sV all)) (sV all).length/\(∀b o,s.heap.get? b=some o->h'.get? b=some o)) E) fD.init.plain lZ (l0 hT ?_)) λr₂ s₂ Z3=>?_
   .obtain⟨ol,hol,ZD,nl,hdl⟩:=hl;obtain⟨ocls,YR,odata,Ym⟩:=ol;simp only at ZD hdl;subst ZD;subst hdl;have Z4:(s.heap.push {cls:=.type "set",dict:=none,data:=.set #[] 0 (.fresh 0 0 Xv)}).get? l=some {cls:=.type "list",dict:=YR,data:=.seq W4 nl,slots:=Ym}:=dg _ hol;have hsls:=EH;have hslf:=AW;have hnd:(Value.type "list"==Value.type "dict")=false:=by decide
    have hl1:(s.heap.push {cls:=.type "set",dict:=none,data:=.set #[] 0 (.fresh 0 0 Xv)}).IsList l W4:=⟨_,Z4,rfl,nl,rfl⟩;unfold Builtin.«set.__init__» noKeywords Builtin.Frozenset.updateFrom;generalize hPI:pyIter=PI
    wp_walk
    subst hPI;refine gJ hl1 ?_;refine cY (wpAny_runValue ?_);have lS:l<s.heap.objs.size:=dA hol;have hh3:A.in1.in1.in1.handled=none:=by simp[hh]
    have lI:l≠(s.heap.push {cls:=.type "set",dict:=none,data:=.set #[] 0 (.fresh 0 0 Xv)}).objs.size:=by rw[fB];exact dG (fV lS)
    have W:=(kB (prog:=prog) (w:=w) hh3 _ l lI W4).toS;rw[hn]at W;refine GU W s.heap.objs.size ?hf (λi v k e1 e2=>hi i v k e1 e2) hb all.length 0 _ (by omega) (eP _) ⟨⟨_,dI _ rfl,rfl,rfl⟩,(hl1.push _)⟩ ?h0 ?hR;case hf=>rw[fB];simp only[dv,dJ,fg,fN];exact⟨dG (fJ _),gP lS⟩
    case h0=>exact iw ((js (knd:=knd) Xv).setOf (dg _ hS) (by unfold scanBound;omega)) (λ_=>rfl) rfl
    case hR=>intro s' hm YQ;obtain⟨h',g',d',tk',ZS⟩:=s';have eg:g'=s.gens:=hm.gens;have ed:d'=s.drawn:=hm.drawn;have eo:ZS=s.os:=hm.os;subst eg;subst ed;subst eo;refine dq ?_;show wpAny _ _ (ret Value.none) _ _ _;refine dq ⟨rfl,h',tk',rfl,YQ,λb o e=>?_⟩;have hb:=dA e;refine hm.heap b o ?_ (dg _ (dg _ e));rw[fB];simp only[dv,dJ,fg,fN];exact⟨dG hb,dG (fV hb)⟩
   .cases r₂ with
    | error e=>exact Z3
    | ok fl₂=>
     cases fl₂ with
     | ret r=>
      obtain⟨rfl,h',tk,rfl,YQ,ZY⟩:=Z3
      repeat (any_goals(first|assumption|wp_step))
      exact h _ _ YQ ZY
     | _=>exact Z3.elim
  | _=>exact hr.elim
end
def C8:isSubtype (.type "tuple") (.type "set")=pure false:=by rw[jn];kernel_rfl
def Ap:isSubtype (.type "tuple") (.type "frozenset")=pure false:=by rw[jn];kernel_rfl
section
variable {prog:Pg}{w:Wo}{A:Ar}{E:QQX}{κ:Type}[DecidableEq κ][BEq κ][LawfulBEq κ]{knd:PySem.KeyKind prog w κ}{s:Sd}
set_option maxHeartbeats 4000000 in
def Cm{l:Addr}{W4:Array Vl}{all:List κ}{Q:QQX}(hh:A.handled=none)(hl:s.heap.IsTuple l W4)(hn:W4.size=all.length)(hi:∀(i:Nat) (v:Vl) (k:κ),W4[i]?=some v->all[i]?=some k->knd.is k v=true/\v.scannable=true)(hb:all.length+1<scanBound) (h:∀(h':Heap) (tk:Nat),h'.SetOf knd s.heap.objs.size (λx=>decide (x∈sV all)) (sV all).length->(∀b o,s.heap.get? b=some o->h'.get? b=some o)->Q (.ref s.heap.objs.size) {s with heap:=h',toks:=tk}):
  wpAny (model prog w) A (call (.type "set") [.ref l]) Q E s:=by
 obtain⟨c,tl,Z2⟩:=fD.mro;have hmade:=fD.made;have YO:=fD.sub;refine ib (j6 ?_);show wpAny _ _ (callAny (.type "set") _) _ _ _;refine dq ⟨iy _ (by decide+kernel),gX lF ?_⟩;rw[lj (ko "set" [.ref l] []) rfl];have h1:=fD.notType;have h2:=fD.canCreate;have hct:=lY (.ref l)
 repeat (any_goals(first|assumption|wp_step))
 have fresh:∀Xv:Bool,(s.heap.push {cls:=.type "set",dict:=none,data:=.set #[] 0 (.fresh 0 0 Xv)}).get? s.heap.objs.size=some {cls:=.type "set",dict:=none,data:=.set #[] 0 (.fresh 0 0 Xv)}:=λXv=>dI _ rfl;refine gm (code_set_new_1 (.ref l) (E:=E) (Q₁:=λobj s₁=>∃Xv:Bool,obj=Value.ref s.heap.objs.size/\s₁={s with heap:=s.heap.push {cls:=.type "set",dict:=none,data:=.set #[] 0 (.fresh 0 0 Xv)}}) λXv=>⟨Xv,rfl,rfl⟩) λr s₁ hr=>?_;cases r with
 | error e=>exact hr
 | ok fl=>
  cases fl with
  | ret obj=>
   obtain⟨Xv,rfl,rfl⟩:=hr;have hS:=fresh Xv;have hT:Shared.TypeIs {s with heap:=s.heap.push {cls:=.type "set",dict:=none,data:=.set #[] 0 (.fresh 0 0 Xv)}} (.ref s.heap.objs.size) "set":=⟨_,hS,rfl⟩;have hli:=fD.init.lookup;have hbi:=fD.init.bind (.ref s.heap.objs.size)
   repeat (any_goals(first|assumption|wp_step))
   refine gm (ie (R:=wants (λr s₂=>r=.none/\∃h' tk,s₂={s with heap:=h',toks:=tk}/\h'.SetOf knd s.heap.objs.size (λx=>decide (x∈sV all)) (sV all).length/\(∀b o,s.heap.get? b=some o->h'.get? b=some o)) E) fD.init.plain lZ (l0 hT ?_)) λr₂ s₂ Z3=>?_
   .obtain⟨ol,hol,ZD,nl,hdl⟩:=hl;obtain⟨ocls,YR,odata,Ym⟩:=ol;simp only at ZD hdl;subst ZD;subst hdl;have Z4:(s.heap.push {cls:=.type "set",dict:=none,data:=.set #[] 0 (.fresh 0 0 Xv)}).get? l=some {cls:=.type "tuple",dict:=YR,data:=.seq W4 nl,slots:=Ym}:=dg _ hol;have hsls:=C8;have hslf:=Ap;have hnd:(Value.type "tuple"==Value.type "dict")=false:=by decide
    have hl1:(s.heap.push {cls:=.type "set",dict:=none,data:=.set #[] 0 (.fresh 0 0 Xv)}).IsTuple l W4:=⟨_,Z4,rfl,nl,rfl⟩;unfold Builtin.«set.__init__» noKeywords Builtin.Frozenset.updateFrom;generalize hPI:pyIter=PI
    wp_walk
    subst hPI;refine iz hl1 ?_;refine cY (wpAny_runValue ?_);have lS:l<s.heap.objs.size:=dA hol;have hh3:A.in1.in1.in1.handled=none:=by simp[hh]
    have lI:l≠(s.heap.push {cls:=.type "set",dict:=none,data:=.set #[] 0 (.fresh 0 0 Xv)}).objs.size:=by rw[fB];exact dG (fV lS)
    have W:=(Walks.tuple (prog:=prog) (w:=w) hh3 _ l lI W4).toS;rw[hn]at W;refine GU W s.heap.objs.size ?hf (λi v k e1 e2=>hi i v k e1 e2) hb all.length 0 _ (by omega) (eP _) ⟨⟨_,dI _ rfl,rfl,rfl⟩,(hl1.push _)⟩ ?h0 ?hR;case hf=>rw[fB];simp only[dv,dJ,fg,fN];exact⟨dG (fJ _),gP lS⟩
    case h0=>exact iw ((js (knd:=knd) Xv).setOf (dg _ hS) (by unfold scanBound;omega)) (λ_=>rfl) rfl
    case hR=>intro s' hm YQ;obtain⟨h',g',d',tk',ZS⟩:=s';have eg:g'=s.gens:=hm.gens;have ed:d'=s.drawn:=hm.drawn;have eo:ZS=s.os:=hm.os;subst eg;subst ed;subst eo;refine dq ?_;show wpAny _ _ (ret Value.none) _ _ _;refine dq ⟨rfl,h',tk',rfl,YQ,λb o e=>?_⟩;have hb:=dA e;refine hm.heap b o ?_ (dg _ (dg _ e));rw[fB];simp only[dv,dJ,fg,fN];exact⟨dG hb,dG (fV hb)⟩
   .cases r₂ with
    | error e=>exact Z3
    | ok fl₂=>
     cases fl₂ with
     | ret r=>
      obtain⟨rfl,h',tk,rfl,YQ,ZY⟩:=Z3
      repeat (any_goals(first|assumption|wp_step))
      exact h _ _ YQ ZY
     | _=>exact Z3.elim
  | _=>exact hr.elim
end
end L2
namespace HT
open PySem PyProof.Rows
variable {prog:Pg}{w:Wo}{A:Ar}{E:QQX}{s:Sd}
def zN{t sl:Addr}{W4:Array Vl}{vl vu:Vl}{lo hi:Option Int}{Q:QQX}(ht:IsTup s.heap t W4)(hs:s.heap.IsSliceOf sl vl vu .none)(pl:IsPart vl lo)(pu:IsPart vu hi) (hw:tj W4.size 0 lo=0/\tj W4.size W4.size hi=W4.size) (h:Q (.ref t) s):wpAny (model prog w) A (getItem (.ref t) (.ref sl)) Q E s:=by
 obtain⟨os,ZU,Zw,Yj⟩:=id hs;have hTs:s.TypeIs (.ref sl) "slice":=⟨os,ZU,Zw⟩;unfold getItem
 try with_reducible refine eE ?_
 first|refine cY (dq ?_)|skip
 refine cY (jz ht.typeIs (by decide) ?_);refine cY (fO (name:=Str.ofString "__getitem__") ht.typeIs fG (fT fG ht.typeIs kN ?_ (lb _ _)));show wpAny _ _ (Builtin.Tuple.tupleItemsOf (.ref t)>>=_) _ _ s;refine cY (tupleItemsOf_ ht ?_);refine cY (jP hTs ?_);rw[dh (by decide)];refine cY (wB hs pl pu ?_);have yes:(((tj W4.size 0 lo:Nat):Int)==0&&(1:Int)==1&&(tj W4.size W4.size hi - tj W4.size 0 lo)==W4.size)=true:=by rw[hw.1,hw.2];simp
 show wpAny _ _ (if (((tj W4.size 0 lo:Nat):Int)==0&&(1:Int)==1&&(tj W4.size W4.size hi - tj W4.size 0 lo)==W4.size)=true then _ else _) _ _ s;rw[dh yes];have hT:=ht.typeIs;obtain⟨hp,g,d,tk,o⟩:=s
 repeat (any_goals(first|assumption|wp_step))
 exact⟨_,rfl,dq h⟩
end HT
namespace L2
variable {X:Cx}{p p2 pos YS:Pos}{e:Expr}{te:TE}
section
def Vx(K:qw):V->Option Int->Option Int->Hp->VK->Prop:=λx lo hi H Q=>∃a xs,x=.ref a/\ve K H a xs/\(HT.tj xs.length 0 lo=0/\HT.tj xs.length xs.length hi=xs.length)/\Q (.ref a) H
def Rr:Uz X (Vx X.K):=by
 intro W2 s σ H x v vl vu lo hi sl Q I rx hs pl pu h;obtain⟨a,xs,rfl,hx,hw,q⟩:=h;cases rx;obtain⟨its,r,ht,hz⟩:=I.tuple hx;have W9:its.toArray.size=xs.length:=by rw[dB];exact r.length.symm
 exact⟨"tuple",_,fG.lookup,ht.typeIs,HT.zN ht hs pl pu (by rw[W9];exact hw) ⟨.ref a,H,I,rfl,q⟩⟩
local instance (priority:=5000) keyBEq:BEq rc:=instBEqOfDecidableEq
local instance (priority:=5000) keyLaw:LawfulBEq rc:=inferInstanceAs (LawfulBEq (Sum Int Str))
def Pl(K:qw)(te:TE):TE:=λσ H Q=>te σ H λx H1=>∃a,∃ss:QQQ,x=.ref a/\(yZ K H1 a (ss.map V.str)\/ve K H1 a (ss.map V.str))/\ss.length+1<scanBound/\Q (.int (sV ss).length) H1
def FZ{P:Pg}{w:Wo}{ss:QQQ}{us:List Vl}(r:qE (ss.map V.str) us):us.length=ss.length/\∀(i:Nat) (v:Vl) (k:rc),us[i]?=some v->(ss.map λx=>(Sum.inr x:rc))[i]?=some k->(rG P w).is k v=true/\v.scannable=true:=by
 refine⟨by rw[<-r.length,cX],λi v k e1 e2=>?_⟩;rw[dF]at e2;cases q:ss[i]? with
 | none=>rw[q]at e2;cases e2
 | some x=>rw[q]at e2;cases e2;obtain⟨u,e3,t,rfl⟩:=r.get (i:=i) (x:=V.str x) (by rw[dF,q];rfl);rw[e3]at e1;cases e1;exact⟨AD P w x t,rfl⟩
def MM{ss:QQQ}:(sV (ss.map λx=>(Sum.inr x:rc))).length=(sV ss).length:=by
 have go:∀(l acc:QQQ),(l.map λx=>(Sum.inr x:rc)).foldl (λacc k=>if k∈acc then acc else acc++[k]) (acc.map Sum.inr)=(l.foldl (λacc k=>if k∈acc then acc else acc++[k]) acc).map Sum.inr:=by
  intro l;induction l with
  | nil=>intro acc;rfl
  | cons k r ih=>
   intro acc;rw[dY,fX,fX];have hm:(Sum.inr k:rc)∈acc.map Sum.inr↔k∈acc:=by
    rw[dE];constructor
    .rintro ⟨y,h1,h2⟩;cases h2;exact h1
    .exact λh=>⟨k,h,rfl⟩
   by_cases h:k∈acc
   .rw[dh h,dh (hm.mpr h)];exact ih acc
   .rw[df h,df λz=>h (hm.mp z)];have:=ih (acc++[k]);rw[dQ]at this;exact this
 have:=go ss [];unfold sV;rw[iT]at this;rw[this,cX]
def Kh(hc:X.calm=true)(he:PE X e te)(hg1:Gl X "len")(W5:X.mg "len"=none)(hg2:Gl X "set")(Xk:X.mg "set"=none)(b1:bootBuiltins "len"=some (.builtin "len"))(b2:bootBuiltins "set"=some (.type "set")) (hs:starEach [e] X.env=[(false,eval e X.env)]:=by rfl):PE X (.Call (.Name "len" p) [.Call (.Name "set" p2) [e] [] YS] [] pos) (Pl X.K te):=by
 intro W2 s σ H Q I h;refine fS (wD I hg1 W5 b1 ?_);refine gW ?_ rfl rfl;show wpAny _ _ (spliced ((false,eval (.Call (.Name "set" p2) [e] [] YS) X.env)::backTo pos (starEach [] X.env))) _ _ s;refine ip ?_;refine fS (wD I hg2 Xk b2 ?_);refine fW ?_ hs rfl;rw[hs];show wpAny _ _ (spliced ((false,eval e X.env)::backTo YS (starEach [] X.env))) _ _ s;refine ip (sH (he W2 s σ H _ I h) λu s1 ⟨x,H1,I1,r1,a,ss,ex,hq,hb,q⟩=>iH ?_);subst ex;obtain rfl:u=Value.ref a:=r1;have XY:(ss.map λx=>(Sum.inr x:rc)).length+1<scanBound:=by rw[cX];exact hb
 have W7:∀(h':Heap) (tk:Nat),h'.SetOf (rG X.prog X.w) s1.heap.objs.size (λx=>decide (x∈sV (ss.map λx=>(Sum.inr x:rc)))) (sV (ss.map λx=>(Sum.inr x:rc))).length->(∀b o,s1.heap.get? b=some o->h'.get? b=some o)->
   wpAny (model X.prog X.w) X.A (spliced (backTo pos (starEach [] X.env))) (λvs s₁=>wpAny (model X.prog X.w) X.A (call (.builtin "len") (.ref s1.heap.objs.size::vs)) (EP X W2 σ Q) X.xe s₁) X.xe {s1 with heap:=h',toks:=tk}:=λh' tk hS keep=>by
  refine iH ?_;obtain⟨o,es,ep,t,ho,hex,hd,_,_,hz,hf,hn⟩:=hS;have Xe:(es.size:Int)<2 ^ 63:=by have:scanBound=4096:=rfl;omega
  refine call_len_set ho hex hd hf Xe ?_;refine⟨.int es.size,H1,I1.kept keep,⟨_,rfl⟩,?_⟩;rw[hn,MM];exact q
 rcases hq with hq|hq
 .obtain⟨its,r,pl,hz⟩:=I1.list hq;obtain⟨k1,k2⟩:=FZ (P:=X.prog) (w:=X.w) r;exact L2.Dw (knd:=rG X.prog X.w) (all:=ss.map λx=>(Sum.inr x:rc)) (I1.ok.hd hc) pl.isList (by rw[dB,k1,cX]) (λi v k e1 e2=>k2 i v k (by simpa using e1) e2) XY W7
 .obtain⟨its,r,pl,hz⟩:=I1.tuple hq;obtain⟨k1,k2⟩:=FZ (P:=X.prog) (w:=X.w) r;exact L2.Cm (knd:=rG X.prog X.w) (all:=ss.map λx=>(Sum.inr x:rc)) (I1.ok.hd hc) pl (by rw[dB,k1,cX]) (λi v k e1 e2=>k2 i v k (by simpa using e1) e2) XY W7
end
variable {W2:List (Addr × Obj)}{σ:St}{H:Hp}{s:Sd}
theorem Ef(I:Inv X W2 σ H s):∀(ts:QXQ) (kvs:List (rc×V)),ts.length=kvs.length->(∀(j:Nat) (t:Addr) (p:rc×V),ts[j]?=some t->kvs[j]?=some p->ve X.K H t [kV p.1,p.2])->
  ∃(us:List Vl) (all:List (rc×Vl)),us.length=kvs.length/\KV kvs all/\∀(j:Nat) (t:Addr) (p:rc×Vl),ts[j]?=some t->all[j]?=some p->∃u,us[j]?=some u/\s.heap.IsTuple t #[u,p.2]/\(rG X.prog X.w).is p.1 u=true
 | [],[],_,_=>⟨[],[],rfl,.nil,λj t p e=>by simp at e⟩
 | [],_::_,h,_=>by simp at h
 | _::_,[],h,_=>by simp at h
 | t::ts,(k,v)::kvs,h,hq=>by
  obtain⟨us,all,h1,h2,h3⟩:=Ef I ts kvs (by simpa using h) (λj t p e1 e2=>hq (j+1) t p (by simpa using e1) (by simpa using e2));obtain⟨its,r,pl,_⟩:=I.tuple (hq 0 t (k,v) (by simp) (by simp));cases r with
  | cons r1 r2=>
   cases r2 with
   | cons r3 r4=>
    cases r4;rename_i u w;refine⟨u::us,(k,w)::all,by simpa using h1,.cons ⟨rfl,r3⟩ h2,λj t' p e1 e2=>?_⟩;cases j with
    | zero=>
     have e1':t=t':=by simpa using e1
     have Zf:(k,w)=p:=by simpa using e2
     subst e1' Zf;exact⟨u,by simp,pl,GR r1⟩
    | succ j=>simpa using h3 j t' p (by simpa using e1) (by simpa using e2)
theorem LF:∀{kvs:List (rc×V)} {all:List (rc×Vl)},KV kvs all->all.map (·.1)=kvs.map (·.1)
 | _,_,.nil=>rfl
 | _,_,.cons r rs=>by rw[dY,dY,LF rs,r.1]
def Iv(hc:X.calm=true):zp X (.type "dict") (λxs H Q=>∃l,∃ts:QXQ,∃kvs:List (rc×V),xs=[V.ref l]/\yZ X.K H l (ts.map V.ref)/\ts.length=kvs.length/\
  (∀(j:Nat) (t:Addr) (p:rc×V),ts[j]?=some t->kvs[j]?=some p->ve X.K H t [kV p.1,p.2])/\(kvs.map (·.1)).Nodup/\∀d,H d=none->Q (.ref d) (upd H d (.dK kvs))):=by
 intro W2 s σ H xs us Q I r h;obtain⟨l,ts,kvs,rfl,hl,W9,hq,hnd,q⟩:=h;obtain⟨u,rfl,ru⟩:=yu r;cases ru;obtain⟨its,rv,⟨⟨c1,d1,t1,sl1⟩,n,g1,e1,e2,e3⟩,hz⟩:=I.list hl;simp only at e1 e2 e3;subst e1 e2 e3;obtain⟨ks,all,h1,h2,h3⟩:=Ef I ts kvs W9 hq;have la:all.length=kvs.length:=(jw h2).symm;have li:its.length=kvs.length:=by rw[<-rv.length,cX,W9]
 have zl:all.length<=sizeLine:=by rw[la,<-W9];simpa using hz
 have at_:∀(j:Nat) (p:rc×Vl),all[j]?=some p->∃t,ts[j]?=some t:=λj p e=>by have:=(c9.mp e).1;exact⟨ts[j],cZ (by omega)⟩
 refine AZ (knd:=rG X.prog X.w) (all:=all) (λj=>(ks[j]?).getD .none) (λj=>(ts[j]?).getD 0) (I.ok.hd hc) g1 (λj v e=>?_) (by rw[dB,li,la]) (λj p e=>?_) (λj p e=>?_) zl λh' tk hD keep=>?_
 .have e':its[j]?=some v:=by simpa using e
  have hj:=(c9.mp e').1;have hj2:j<ts.length:=by omega
  obtain⟨w,e4,e5⟩:=rv.get (i:=j) (x:=V.ref ts[j]) (by rw[dF,cZ hj2];rfl);rw[e']at e4;cases e4;show v=Value.ref ((ts[j]?).getD 0);rw[cZ hj2];exact e5
 .obtain⟨t,et⟩:=at_ j p e;obtain⟨u,e4,e5,_⟩:=h3 j t p et e;show s.heap.IsTuple ((ts[j]?).getD 0) #[(ks[j]?).getD .none,p.2];rw[et,e4];exact e5
 .obtain⟨t,et⟩:=at_ j p e;obtain⟨u,e4,_,e6⟩:=h3 j t p et e;show(rG X.prog X.w).is p.1 ((ks[j]?).getD .none)=true;rw[e4];exact e6
 .rw[merged_nil_of_nodup all (by rw[LF h2];exact hnd)]at hD;have fr:=I.mZ.fresh (dz s.heap.objs.size);exact⟨.ref s.heap.objs.size,_,I.laid (t':=tk) (o:=.dK kvs) keep (dz _) (Md (by rw[<-la];exact zl) (gx.mpr (dR (dG I.big))) h2 hD),rfl,q _ fr⟩
def Vk:R2:=λx y H Q=>∃a v,x=.ref a/\E8 H a y (some v)/\Q v H
def OQ(hu:X.A.units+1<cLine):Te X Vk:=by
 intro value Xf W2 s σ H x y o i Q I rx ry h hs;obtain⟨a,v,rfl,g,q⟩:=h;obtain rfl:o=Value.ref a:=rx;have hT:=F' I g;have h2:wpAny (model X.prog X.w) X.A (getItem (.ref a) i) (EP X W2 σ Q) X.xe s:=Kk hu I g ry λw' s3 I3 Zd=>⟨v,H,I3,Zd,q⟩;unfold subscriptTail;refine cY ?_;rw[kr hT.not_modules];refine cY (iU hT jF.lookup ?_);have W7:wpAny (model X.prog X.w) X.A (subscripted Xf false (.ref a) i) (λr s₃=>wpAny (model X.prog X.w) X.A (letTemporaryGo value (.ref a) r>>=λ_=>pure r) (EP X W2 σ Q) X.xe s₃) X.xe s:=by rw[hs];exact wpAny_operating (eB h2 (λr s₃ h₃=>cY (kC (dq h₃))) λ_ _ x=>x)
 first
  | exact dq (cY W7)
  | exact cY (dq (cY W7))
  | exact cY W7
def Rz(hu:X.A.units+1<cLine):xJ X (compareOp .In) (λx y H Q=>∃a o,y=.ref a/\E8 H a x o/\Q (.bl o.isSome) H):=by intro W2 s σ H x y v u Q I rx ry h;obtain⟨a,o,rfl,g,q⟩:=h;obtain rfl:u=Value.ref a:=ry;exact Wm hu I g rx λs3 I3=>⟨.bl o.isSome,H,I3,rfl,q⟩
variable {prog:Pg}{w:Wo}{A:Ar}{E:QQX}{a:Addr}{δ:Type}{k:Str}{tk:Tok}
section
variable {R:δ→Vl→Prop}{D:List (Str × δ)}
def yP(T:KTD.TabOf R s.heap a D):s.TypeIs (.ref a) "dict":=let⟨_,o,_,_,ho,hc,_⟩:=T;⟨o,ho,hc.1⟩
def JF{Q:Option Vl->Sd->Prop}(T:KTD.TabOf R s.heap a D)(h1:∀d v,KTD.datumAt k D=some d->R d v->Q (some v) {s with toks:=s.toks+1})(h2:KTD.datumAt k D=none->Q none {s with toks:=s.toks+1}):
  wpAny (model prog w) A (dictGet a (.str k tk)) Q E s:=by
 obtain⟨_,o,es,ep,ho,hc,hd,hr⟩:=T;have hq:Q (findBy (λk v=>v.isStr k) es k) {s with toks:=s.toks+1}:=by
  have hf:findBy (λk v=>v.isStr k) es k=(es.toList.find? λe=>e.key.isStr k).map (·.val):=by obtain⟨l⟩:=es;simp[findBy]
  rw[hf];cases ZE:KTD.datumAt k D with
  | none=>rw[hr.find_none ZE];exact h2 ZE
  | some d=>obtain⟨v,hv,hfl⟩:=hr.find_some ZE;rw[hv];exact h1 d v ZE hfl
 have XJ:(es.all λe=>isExactStrKey e.key)=true:=by
  obtain⟨l⟩:=es
  simpa using hr.exact
 unfold dictGet
 try with_reducible refine eE ?_
 refine cY (lP (cY (KTD.kt_dictFind_strs (s:={s with toks:=s.toks+1}) ho hd XJ ?_)));rw[findBy_of_findIdx?]at hq;cases hi:es.findIdx? λe=>e.key.isStr k with
 | none=>rw[hi]at hq;exact dq hq
 | some i=>rw[hi]at hq;exact cY (wpAny_dictEntries (s:={s with toks:=s.toks+1}) ho hd (dq hq))
def RY{Q:QQX}(T:KTD.TabOf R s.heap a D)(h:Q (.bool (KTD.datumAt k D).isSome) {s with toks:=s.toks+1}):wpAny (model prog w) A (compareOp .In (.str k tk) (.ref a)) Q E s:=by
 have hT:=yP T;show wpAny _ _ (do return .bool (<-contains (.ref a) (.str k tk))) Q E s;refine cY ?_;unfold contains
 try with_reducible refine eE ?_
 refine cY (iU hT jt.lookup ?_);show wpAny _ _ (if (some (Value.builtin "dict.__contains__")==some Value.none)=true then _ else _) _ E s;rw[df (by rw[beq_builtin_none];exact dC)];refine cY (wpAny_callSpecialUnlessNone?_slot (name:=Str.ofString "__contains__") hT jt (fT jt hT entry_dict_contains ?_ (args_dict_contains _ _)));show wpAny _ _ (dictGet a (.str k tk)>>=_) _ _ s;refine cY (JF T (λd v ha _=>?_) λhn=>?_)
 .rw[ha]at h;show wpAny _ _ (ret (.bool true)) _ _ _;exact dq ⟨_,rfl,fv (dq h)⟩
 .rw[hn]at h;show wpAny _ _ (Builtin.Dict.pendingKey? a (.str k tk)>>=_) _ _ _;exact cY (wpAny_pendingKey_other T.1 (dq ⟨_,rfl,fv (dq h)⟩))
def NM{Q:QQX}{d:δ}(T:KTD.TabOf R s.heap a D)(hd:KTD.datumAt k D=some d)(h:∀v,R d v->Q v {s with toks:=s.toks+1}):wpAny (model prog w) A (getItem (.ref a) (.str k tk)) Q E s:=by
 have hT:=yP T;unfold getItem
 try with_reducible refine eE ?_
 refine cY (jz hT (by decide) ?_);refine cY (fO (name:=Str.ofString "__getitem__") hT lG (fT lG hT entry_dict_getitem ?_ (args_dict_getitem _ _)));show wpAny _ _ (dictGet a (.str k tk)>>=_) _ _ s;refine cY (JF T (λd' v ha hv=>dq ⟨v,rfl,dq (h v ?_)⟩) λhn=>?_)
 .rw[hd]at ha;cases ha;exact hv
 .rw[hd]at hn;cases hn
end
def Mt(K:qw)(mg:QQZ)(x:Str)(F:List (Str×QQQ)):Prop:=∃a o es ep,mg x=some (.ref a)/\(a==sysModules)=false/\K.lookup a=some o/\o.ExactDict/\o.data=.dict es ep/\
 KTD.Rows (λ(ss:QQQ) v=>∃t,v=Value.ref t/\ve K (λ_=>none) t (ss.map V.str)) es.toList F
variable {x:Str}{F:List (Str × QQQ)}
def JC{K:qw}{t:Addr}{xs:List V}{H:Hp}(h:ve K (λ_=>none) t xs):ve K H t xs:=by
 rcases h with(h|⟨o,h⟩)|h
 .cases h
 .cases h
 .exact .inr h
def Gr{K:qw}{mg:QQZ}(T:Mt K mg x F):∃a,mg x=some (.ref a)/\∀h:Heap,K.In h->KTD.TabOf (λ(ss:QQQ) v=>∃t,v=Value.ref t/\ve K (λ_=>none) t (ss.map V.str)) h a F:=by obtain⟨a,o,es,ep,h1,h2,h3,h4,h5,h6⟩:=T;exact⟨a,h1,λh hk=>⟨h2,o,es,ep,hk a o h3,h4,h5,h6⟩⟩
def VF(x:Str):It:=⟨λi _=>i<x.cps.size,λi H v H'=>H'=H/\∃c,x.cps[i]?=some c/\v=.str ⟨#[c]⟩,λi _=>i=x.cps.size⟩
def GM{P:Pg}{w:Wo}{K:qw}{tg:Expr}{ty:String}{x:Str}{t:Tok}(it:Addr)(W:∀A':Ar,A'.handled=none->Walks P w A' it [it] [it] x.cps.size (SignAt x) (λi h=>h.IsStrIter it ty x t i)) (hself:∀(A:Ar) (i:Nat) (s:Sd) (Q:QQX) (E:QQX),s.heap.IsStrIter it ty x t i->Q (.ref it) s->wpAny (model P w) A (pyIter (.ref it)) Q E s) (hn:["enumerate","zip","dict_itemiterator","dict_reverseitemiterator","odict_iterator","itertools.zip_longest","itertools.pairwise"].contains ty=false):FV P w K tg (VF x) [it] it (λi h=>h.IsStrIter it ty x t i) where
 mem:=by simp
 obj:=λi h st b hb=>by
  obtain rfl:b=it:=by simpa using hb
  obtain⟨o,e,c,d⟩:=st;exact⟨o,e,λv z=>by rw[d]at z;cases z⟩
 keep:=λi h h' st k=>by obtain⟨o,e,r⟩:=st;exact⟨o,k it (by simp) o e,r⟩
 item:=by intro X hP hw hK hc i W2 s σ H E I hf st hg;subst hP hw hK;obtain⟨f0,f1,f2,f3,f4,f5⟩:=hf it (by simp);refine(W X.A (I.ok.hd hc)).item i s _ _ hg st λv h' tk hv XU kp=>?_;obtain⟨c,u,e1,e2⟩:=hv;have I1:Inv X W2 σ H {s with heap:=h',toks:=tk}:=I.turned (t':=tk) (λb o hb e=>kp b o (by simpa using hb) e) f0 f1 f3 f4 f5;obtain⟨o,e,cl,d⟩:=id XU;exact⟨v,rfl,Jt (s:={s with heap:=h',toks:=tk}) e cl d hn ⟨.str ⟨#[c]⟩,H,I1,⟨u,e2⟩,⟨rfl,c,e1,rfl⟩,XU,λb hb=>(hf b hb).1⟩⟩
 done:=by intro X hP hw hK hc i W2 s σ H E I hf st hg;subst hP hw hK;obtain⟨f0,f1,f2,f3,f4,f5⟩:=hf it (by simp);obtain rfl:i=x.cps.size:=hg;exact(W X.A (I.ok.hd hc)).done s _ _ st λh' tk kp=>⟨rfl,I.turned (t':=tk) (λb o hb e=>kp b o (by simpa using hb) e) f0 f1 f3 f4 f5⟩
 self:=hself
variable {tg:Expr}
def Ph{l:Expr}{tl:TE}(hc:X.calm=true)(hl:PE X l tl):PI X tg l (λσ H R=>tl σ H λx H1=>(∃a,x=.ref a/\(((∃xs,yZ X.K H1 a xs)/\R (Vd X.K a) H1)\/((∃xs,ve X.K H1 a xs)/\R (VJ X.K a) H1)))\/∃z,x=.str z/\R (VF z) H1):=by
 intro W2 s σ H R I h;refine sH (hl W2 s σ H _ I h) λv s1 zz=>x5 zz λx H1 I1 r1 q1=>?_;rcases q1 with⟨a,e,q1⟩|⟨z,e,q⟩
 .subst e;cases r1;rcases q1 with⟨⟨xs,hq⟩,q⟩|⟨⟨xs,hq⟩,q⟩
  .obtain⟨its,rv,p,hz⟩:=I1.list hq;refine gJ p.isList ?_;refine⟨s1.heap.objs.size,[s1.heap.objs.size],_,_,H1,rfl,I1.kept (t':=s1.toks) λb o e=>dg _ e,JQ a _,⟨_,dI _ rfl,rfl,rfl⟩,λb hb=>?_,q⟩;obtain rfl:b=s1.heap.objs.size:=by simpa using hb
   exact I1.oi (dz _) (I1.mZ.fresh (dz _))
  .obtain⟨its,rv,p,hz⟩:=I1.tuple hq;refine iz (show s1.heap.IsTuple a its.toArray from p) ?_;refine⟨s1.heap.objs.size,[s1.heap.objs.size],_,_,H1,rfl,I1.kept (t':=s1.toks) λb o e=>dg _ e,HB a _,⟨_,dI _ rfl,rfl,rfl⟩,λb hb=>?_,q⟩;obtain rfl:b=s1.heap.objs.size:=by simpa using hb
   exact I1.oi (dz _) (I1.mZ.fresh (dz _))
 .subst e;obtain⟨t,rfl⟩:=r1;have fp:∀b∈[s1.heap.objs.size],A9 X W2 H1 b:=λb hb=>by
   obtain rfl:b=s1.heap.objs.size:=by simpa using hb
   exact I1.oi (dz _) (I1.mZ.fresh (dz _))
  cases ha:z.cps.all (·<128)
  .refine wpAny_pyIter_wide ha ?_;exact⟨s1.heap.objs.size,[s1.heap.objs.size],_,_,H1,rfl,I1.kept (t':=s1.toks) λb o e=>dg _ e,GM _ (λA' hA=>Walks.strWide hA _ z t) (λA i s Q E st h=>wpAny_pyIter_striter_wide st h) (by decide),⟨_,dI _ rfl,rfl,rfl⟩,fp,q⟩
  .refine wpAny_pyIter_ascii ha ?_;exact⟨s1.heap.objs.size,[s1.heap.objs.size],_,_,H1,rfl,I1.kept (t':=s1.toks) λb o e=>dg _ e,GM _ (λA' hA=>Walks.strAscii hA _ z t) (λA i s Q E st h=>wpAny_pyIter_striter_ascii st h) (by decide),⟨_,dI _ rfl,rfl,rfl⟩,fp,q⟩
end L2
namespace L2
inductive AC{α0:Sort u}{α1:Sort v}(p:α0->α1->Prop):Prop
 | mk (a0:α0) (a1:α1) (h:p a0 a1):AC p
inductive CT{α0:Sort u}{α1:Sort v}{α2:Sort w}(p:α0->α1->α2->Prop):Prop
 | mk (a0:α0) (a1:α1) (a2:α2) (h:p a0 a1 a2):CT p
def x7{α:Sort u}{β:Sort v}{γ:Sort w}{p q r s:α->β->γ->Prop}{C:Prop}(h:CT λa b c=>p a b c/\q a b c/\r a b c/\s a b c)(f:∀a b c,p a b c->q a b c->r a b c->s a b c->C):C:=by obtain⟨a,b,c,h1,h2,h3,h4⟩:=h;exact f a b c h1 h2 h3 h4
def J3{α:Sort u}{β:Sort v}{γ:Sort w}{p q r s s1 s2 s3:α->β->γ->Prop}{C:Prop}(h:CT λa b c=>p a b c/\q a b c/\r a b c/\s a b c/\s1 a b c/\s2 a b c/\s3 a b c)(f:∀a b c,p a b c->q a b c->r a b c->s a b c->s1 a b c->s2 a b c->s3 a b c->C):C:=by obtain⟨a,b,c,h1,h2,h3,h4,h5,h6,h7⟩:=h;exact f a b c h1 h2 h3 h4 h5 h6 h7
inductive BU{α0:Sort u}{α1:Sort v}{α2:Sort w}{α3:Sort u1}(p:α0->α1->α2->α3->Prop):Prop
 | mk (a0:α0) (a1:α1) (a2:α2) (a3:α3) (h:p a0 a1 a2 a3):BU p
inductive Ha{α0:Sort u}{α1:Sort v}{α2:Sort w}{α3:Sort u1}{α4:Sort u2}(p:α0->α1->α2->α3->α4->Prop):Prop
 | mk (a0:α0) (a1:α1) (a2:α2) (a3:α3) (a4:α4) (h:p a0 a1 a2 a3 a4):Ha p
inductive Kt{α0:Sort u}{α1:Sort v}{α2:Sort w}{α3:Sort u1}{α4:Sort u2}{α5:Sort u3}(p:α0->α1->α2->α3->α4->α5->Prop):Prop
 | mk (a0:α0) (a1:α1) (a2:α2) (a3:α3) (a4:α4) (a5:α5) (h:p a0 a1 a2 a3 a4 a5):Kt p
inductive Th{α0:Sort u}{α1:Sort v}{α2:Sort w}{α3:Sort u1}{α4:Sort u2}{α5:Sort u3}{α6:Sort u4}(p:α0->α1->α2->α3->α4->α5->α6->Prop):Prop
 | mk (a0:α0) (a1:α1) (a2:α2) (a3:α3) (a4:α4) (a5:α5) (a6:α6) (h:p a0 a1 a2 a3 a4 a5 a6):Th p
inductive Tb{α0:Sort u}{α1:Sort v}{α2:Sort w}{α3:Sort u1}{α4:Sort u2}{α5:Sort u3}{α6:Sort u4}{α7:Sort u5}(p:α0->α1->α2->α3->α4->α5->α6->α7->Prop):Prop
 | mk (a0:α0) (a1:α1) (a2:α2) (a3:α3) (a4:α4) (a5:α5) (a6:α6) (a7:α7) (h:p a0 a1 a2 a3 a4 a5 a6 a7):Tb p
inductive UQ{α0:Sort u}{α1:Sort v}{α2:Sort w}{α3:Sort u1}{α4:Sort u2}{α5:Sort u3}{α6:Sort u4}{α7:Sort u5}{α8:Sort u6}(p:α0->α1->α2->α3->α4->α5->α6->α7->α8->Prop):Prop
 | mk (a0:α0) (a1:α1) (a2:α2) (a3:α3) (a4:α4) (a5:α5) (a6:α6) (a7:α7) (a8:α8) (h:p a0 a1 a2 a3 a4 a5 a6 a7 a8):UQ p
inductive NB{α0:Sort u}{α1:Sort v}{α2:Sort w}{α3:Sort u1}{α4:Sort u2}{α5:Sort u3}{α6:Sort u4}{α7:Sort u5}{α8:Sort u6}{α9:Sort u7}(p:α0->α1->α2->α3->α4->α5->α6->α7->α8->α9->Prop):Prop
 | mk (a0:α0) (a1:α1) (a2:α2) (a3:α3) (a4:α4) (a5:α5) (a6:α6) (a7:α7) (a8:α8) (a9:α9) (h:p a0 a1 a2 a3 a4 a5 a6 a7 a8 a9):NB p
inductive Vp{α0:Sort u}{α1:Sort v}{α2:Sort w}{α3:Sort u1}{α4:Sort u2}{α5:Sort u3}{α6:Sort u4}{α7:Sort u5}{α8:Sort u6}{α9:Sort u7}{α10:Sort u8}(p:α0->α1->α2->α3->α4->α5->α6->α7->α8->α9->α10->Prop):Prop
 | mk (a0:α0) (a1:α1) (a2:α2) (a3:α3) (a4:α4) (a5:α5) (a6:α6) (a7:α7) (a8:α8) (a9:α9) (pB:α10) (h:p a0 a1 a2 a3 a4 a5 a6 a7 a8 a9 pB):Vp p
inductive VW{α0:Sort u}{α1:Sort v}{α2:Sort w}{α3:Sort u1}{α4:Sort u2}{α5:Sort u3}{α6:Sort u4}{α7:Sort u5}{α8:Sort u6}{α9:Sort u7}{α10:Sort u8}{α11:Sort u9}(p:α0->α1->α2->α3->α4->α5->α6->α7->α8->α9->α10->α11->Prop):Prop
 | mk (a0:α0) (a1:α1) (a2:α2) (a3:α3) (a4:α4) (a5:α5) (a6:α6) (a7:α7) (a8:α8) (a9:α9) (pB:α10) (a11:α11) (h:p a0 a1 a2 a3 a4 a5 a6 a7 a8 a9 pB a11):VW p
end L2
namespace L2
open PySem
def Ut(a C:Addr)(h:Heap):Prop:=AC λoe vs=>h.get? a=some oe/\oe.cls=.ref C/\oe.data=.fields vs/\oe.dict=none
end L2
namespace L3
open L2
inductive D where
 | mW|bl (b:Bool)|int (i:Int)|str (x:Str)|tup (ds:List D)|ref (a:Addr)|ty (n:String)
 | rl (ds:List D)
def Qt(K:qw)(H:Hp)(a:Addr)(xs:List V):Prop:=(∃o,H a=some (.frz o (.lst xs)))\/
 ∃(o:Obj) (its:Array Vl) (n:Nat),K.lookup a=some o/\o.cls=.type "list"/\o.dict=none/\o.data=.seq its n/\its.size<=sizeLine/\qE xs its.toList
def Qt.sq{K:qw}{H:Hp}{a:Addr}{xs:List V}(h:Qt K H a xs):yZ K H a xs:=by
 rcases h with⟨o,h⟩|h
 .exact .inl (.inr ⟨o,h⟩)
 .exact .inr h
mutual
def rV(K:qw)(H:Hp):D->V->Prop
 | .mW,v=>v=.mW
 | .bl b,v=>v=.bl b
 | .int i,v=>v=.int i
 | .str x,v=>v=.str x
 | .ref a,v=>v=.ref a
 | .ty n,v=>v=.ty n
 | .tup ds,v=>∃a xs,v=.ref a/\ve K H a xs/\qu K H ds xs
 | .rl ds,v=>∃a xs,v=.ref a/\Qt K H a xs/\qu K H ds xs
def qu(K:qw)(H:Hp):List D->List V->Prop
 | [],xs=>xs=[]
 | d::ds,xs=>∃x r,xs=x::r/\rV K H d x/\qu K H ds r
end
structure qS(K:qw)(H H':Hp):Prop where
 t:∀a xs,ve K H a xs->ve K H' a xs
 f:∀a o xs,H a=some (.frz o (.lst xs))->H' a=some (.frz o (.lst xs))
def qS.refl{K:qw}{H:Hp}:qS K H H:=⟨λ_ _ h=>h,λ_ _ _ h=>h⟩
def qS.trans{K:qw}{H H1 H2:Hp}(a:qS K H H1)(b:qS K H1 H2):qS K H H2:=⟨λc xs h=>b.t c xs (a.t c xs h),λc o xs h=>b.f c o xs (a.f c o xs h)⟩
def qS.upd{K:qw}{H:Hp}{p:Addr}{o:HO}(h:∀xs,¬Rd H p (.tup xs))(h':∀u xs,H p≠some (.frz u (.lst xs))):qS K H (upd H p o):=⟨λa xs q=>by
 rcases q with q|q
 .have ne:a≠p:=λz=>h xs (z ▸ q);rcases q with q|⟨u,q⟩
  .exact .inl (.inl (by rw[qd ne];exact q))
  .exact .inl (.inr ⟨u,by rw[qd ne];exact q⟩)
 .exact .inr q,λa u xs q=>by
 have ne:a≠p:=λz=>h' u xs (z ▸ q);rw[qd ne];exact q⟩
def qS.new{K:qw}{H:Hp}{p:Addr}{o:HO}(h:H p=none):qS K H (L2.upd H p o):=.upd (λxs q=>by
 rcases q with q|⟨u,q⟩<;>(rw[h]at q;cases q)) λu xs q=>by rw[h]at q;cases q
def Qt.mono{K:qw}{H H':Hp}{a:Addr}{xs:List V}(e:qS K H H')(h:Qt K H a xs):Qt K H' a xs:=by
 rcases h with⟨o,h⟩|h
 .exact .inl ⟨o,e.f a o xs h⟩
 .exact .inr h
mutual
theorem rV.mono{K:qw}{H H':Hp}(e:qS K H H'):∀{d:D} {v:V},rV K H d v->rV K H' d v
 | .mW,_,h=>h
 | .bl _,_,h=>h
 | .int _,_,h=>h
 | .str _,_,h=>h
 | .ref _,_,h=>h
 | .ty _,_,h=>h
 | .tup ds,v,h=>by unfold rV at h ⊢;obtain⟨a,xs,e1,e2,e3⟩:=h;exact⟨a,xs,e1,e.t _ _ e2,qu.mono e e3⟩
 | .rl ds,v,h=>by unfold rV at h ⊢;obtain⟨a,xs,e1,e2,e3⟩:=h;exact⟨a,xs,e1,e2.mono e,qu.mono e e3⟩
theorem qu.mono{K:qw}{H H':Hp}(e:qS K H H'):∀{ds:List D} {xs:List V},qu K H ds xs->qu K H' ds xs
 | [],_,h=>h
 | d::ds,xs,h=>by unfold qu at h ⊢;obtain⟨x,r,e1,e2,e3⟩:=h;exact⟨x,r,e1,rV.mono e e2,qu.mono e e3⟩
end
variable {K:qw}{H H':Hp}
def qu.nil:qu K H [] []:=by unfold qu;rfl
def qu.cons{d:D}{ds:List D}{x:V}{xs:List V}(a:rV K H d x)(b:qu K H ds xs):qu K H (d::ds) (x::xs):=by unfold qu;exact⟨x,xs,rfl,a,b⟩
def qu.inv{d:D}{ds:List D}{xs:List V}(h:qu K H (d::ds) xs):∃x r,xs=x::r/\rV K H d x/\qu K H ds r:=by unfold qu at h;exact h
def qu.nil_inv{xs:List V}(h:qu K H [] xs):xs=[]:=by unfold qu at h;exact h
theorem qu.length:∀{ds:List D} {xs:List V},qu K H ds xs->ds.length=xs.length
 | [],_,h=>by rw[h.nil_inv];rfl
 | d::ds,_,h=>by obtain⟨x,r,rfl,_,e⟩:=h.inv;simp[qu.length e]
theorem qu.get:∀{ds:List D} {xs:List V} {i:Nat} {d:D},qu K H ds xs->ds[i]?=some d->∃x,xs[i]?=some x/\rV K H d x
 | [],_,_,_,_,e=>by simp at e
 | d::ds,_,0,_,h,e=>by obtain⟨x,r,rfl,a,_⟩:=h.inv;simp at e;subst e;exact⟨x,by simp,a⟩
 | d::ds,_,i+1,_,h,e=>by obtain⟨x,r,rfl,_,b⟩:=h.inv;obtain⟨y,e1,e2⟩:=qu.get b (by simpa using e);exact⟨y,by simpa using e1,e2⟩
theorem qu.append:∀{ds es:List D} {xs ys:List V},qu K H ds xs->qu K H es ys->qu K H (ds++es) (xs++ys)
 | [],_,_,_,h,g=>by rw[h.nil_inv];exact g
 | d::ds,_,_,_,h,g=>by obtain⟨x,r,rfl,a,b⟩:=h.inv;exact .cons a (qu.append b g)
theorem qu.take:∀{ds:List D} {xs:List V} (n:Nat),qu K H ds xs->qu K H (ds.take n) (xs.take n)
 | _,_,0,_=>by simp only[List.take_zero];exact .nil
 | [],_,n+1,h=>by rw[h.nil_inv];exact .nil
 | d::ds,_,n+1,h=>by obtain⟨x,r,rfl,a,b⟩:=h.inv;exact .cons a (qu.take n b)
theorem qu.drop:∀{ds:List D} {xs:List V} (n:Nat),qu K H ds xs->qu K H (ds.drop n) (xs.drop n)
 | _,_,0,h=>h
 | [],_,n+1,h=>by rw[h.nil_inv];exact .nil
 | d::ds,_,n+1,h=>by obtain⟨x,r,rfl,a,b⟩:=h.inv;exact qu.drop n b
def qu.snoc{ds:List D}{xs:List V}{d:D}{x:V}(h:qu K H ds xs)(a:rV K H d x):qu K H (ds++[d]) (xs++[x]):=h.append (.cons a .nil)
theorem qu.ints:∀{ns:List Int},qu K H (ns.map D.int) (ns.map V.int)
 | []=>.nil
 | n::r=>.cons (by unfold rV;rfl) qu.ints
def rV.tup{ds:List D}{a:Addr}{xs:List V}(q:ve K H a xs)(h:qu K H ds xs):rV K H (.tup ds) (.ref a):=by unfold rV;exact⟨a,xs,rfl,q,h⟩
def rV.mY{ds:List D}{v:V}(h:rV K H (.tup ds) v):∃a xs,v=.ref a/\ve K H a xs/\qu K H ds xs:=by unfold rV at h;exact h
def rV.nv{ds:List D}{v:V}(h:rV K H (.rl ds) v):∃a xs,v=.ref a/\Qt K H a xs/\qu K H ds xs:=by unfold rV at h;exact h
def rV.int{i:Int}:rV K H (.int i) (.int i):=by unfold rV;rfl
def rV.bl{i:Bool}:rV K H (.bl i) (.bl i):=by unfold rV;rfl
def rV.str{i:Str}:rV K H (.str i) (.str i):=by unfold rV;rfl
def rV.ref{i:Addr}:rV K H (.ref i) (.ref i):=by unfold rV;rfl
def rV.mW:rV K H .mW .mW:=by unfold rV;rfl
def rV.int_inv{i:Int}{v:V}(h:rV K H (.int i) v):v=.int i:=by unfold rV at h;exact h
def rV.mV{i:Bool}{v:V}(h:rV K H (.bl i) v):v=.bl i:=by unfold rV at h;exact h
def rV.str_inv{i:Str}{v:V}(h:rV K H (.str i) v):v=.str i:=by unfold rV at h;exact h
def rV.mR{i:Addr}{v:V}(h:rV K H (.ref i) v):v=.ref i:=by unfold rV at h;exact h
def rV.oa{i:String}{v:V}(h:rV K H (.ty i) v):v=.ty i:=by unfold rV at h;exact h
def rV.mU{v:V}(h:rV K H .mW v):v=.mW:=by unfold rV at h;exact h
inductive uT where
 | lst (ds:List D)
 | ins (C:Addr) (fs:List (Str×D))
 | dk (kvs:List (rc×D))
 | exc (C:Addr)
abbrev Mp:=Addr->Option uT
def pL(M:Mp)(a:Addr)(c:uT):Mp:=λb=>if b=a then some c else M b
def pX{M:Mp}{a:Addr}{c:uT}:pL M a c a=some c:=by unfold pL;rw[dh rfl]
def uh{M:Mp}{a b:Addr}{c:uT}(h:b≠a):pL M a c b=M b:=by unfold pL;rw[df h]
def rT{M:Mp}{a:Addr}{c d:uT}:pL (pL M a c) a d=pL M a d:=by funext b;unfold pL;split<;>rfl
def Qi{M:Mp}{a b:Addr}{c:uT}(h:M a=some c)(h':M b=none):a≠b:=by intro e;subst e;rw[h]at h';cases h'
def BS(K:qw)(H:Hp)(fs:List (Str×D))(vs:List (Str×V)):Prop:=vs.map (·.1)=fs.map (·.1)/\qu K H (fs.map (·.2)) (vs.map (·.2))
def xI(K:qw)(H:Hp)(a:Addr):uT->Prop
 | .lst ds=>∃xs,H a=some (.lst xs)/\qu K H ds xs
 | .ins C fs=>∃dx vs,H a=some (.ins C dx vs)/\Cls K C/\(∀f,f∈fs.map (·.1)->uj K C f)/\BS K H fs vs
 | .dk kvs=>∃vs,H a=some (.dK vs)/\vs.map (·.1)=kvs.map (·.1)/\qu K H (kvs.map (·.2)) (vs.map (·.2))
 | .exc C=>H a=some (.ext (Ut a C))
def HM(K:qw)(H:Hp)(M:Mp):Prop:=∀a c,M a=some c->xI K H a c
variable {M:Mp}
def BS.mono{fs:List (Str×D)}{vs:List (Str×V)}(e:qS K H H')(h:BS K H fs vs):BS K H' fs vs:=⟨h.1,h.2.mono e⟩
def xI.keep{a:Addr}{c:uT}(e:qS K H H')(k:H' a=H a)(h:xI K H a c):xI K H' a c:=by
 cases c with
 | lst ds=>obtain⟨xs,e1,e2⟩:=h;exact⟨xs,by rw[k];exact e1,e2.mono e⟩
 | ins C fs=>obtain⟨dx,vs,e1,c,n,e2⟩:=h;exact⟨dx,vs,by rw[k];exact e1,c,n,e2.mono e⟩
 | dk kvs=>obtain⟨vs,e1,e2,e3⟩:=h;exact⟨vs,by rw[k];exact e1,e2,e3.mono e⟩
 | exc C=>exact k.trans h
def xI.there{a:Addr}{c:uT}(h:xI K H a c):∃o,H a=some o/\(∀xs,¬Rd H a (.tup xs))/\∀u xs,H a≠some (.frz u (.lst xs)):=by
 have go:∀o,H a=some o->(∀xs,o≠.tup xs)->(∀u v,o≠.frz u v)->∃o,H a=some o/\(∀xs,¬Rd H a (.tup xs))/\∀u xs,H a≠some (.frz u (.lst xs)):=λo e n1 n2=>⟨o,e,λxs q=>by
  rcases q with q|⟨u,q⟩
  .rw[e]at q;exact n1 xs (dw q)
  .rw[e]at q;exact n2 u _ (dw q),λu xs q=>by rw[e]at q;exact n2 u _ (dw q)⟩
 cases c with
 | lst ds=>obtain⟨xs,e1,e2⟩:=h;exact go _ e1 (λ_ z=>by cases z) λ_ _ z=>by cases z
 | ins C fs=>obtain⟨dx,vs,e1,e2⟩:=h;exact go _ e1 (λ_ z=>by cases z) λ_ _ z=>by cases z
 | dk kvs=>obtain⟨vs,e1,e2,e3⟩:=h;exact go _ e1 (λ_ z=>by cases z) λ_ _ z=>by cases z
 | exc C=>exact go _ h (λ_ z=>by cases z) λ_ _ z=>by cases z
def HM.fresh(h:HM K H M){p:Addr}(n:H p=none):M p=none:=by
 cases e:M p with
 | none=>rfl
 | some c=>obtain⟨o,q,_⟩:=(h p c e).there;rw[n]at q;cases q
def HM.keep(h:HM K H M)(e:qS K H H')(k:∀a c,M a=some c->H' a=H a):HM K H' M:=λa c q=>(h a c q).keep e (k a c q)
def HM.add(h:HM K H M){p:Addr}{o:HO}(n:H p=none):HM K (upd H p o) M:=h.keep (.new n) λa c q=>by obtain⟨u,e,_⟩:=(h a c q).there;rw[qd (qT e n)]
def HM.new(h:HM K H M){p:Addr}{o:HO}{c:uT}(n:H p=none)(ok:xI K (upd H p o) p c):HM K (upd H p o) (pL M p c):=λa d q=>by
 by_cases e:a=p
 .subst e;rw[pX]at q;cases q;exact ok
 .rw[uh e]at q;exact h.add n a d q
def HM.put(h:HM K H M){p:Addr}{o:HO}{c c0:uT}(e0:M p=some c0)(ok:qS K H (upd H p o)->xI K (upd H p o) p c):HM K (upd H p o) (pL M p c)/\qS K H (upd H p o):=by
 obtain⟨u,eu,nt,nf⟩:=(h p c0 e0).there;have x:qS K H (upd H p o):=.upd nt nf;refine⟨λa d q=>?_,x⟩;by_cases e:a=p
 .subst e;rw[pX]at q;cases q;exact ok x
 .rw[uh e]at q;exact(h a d q).keep x (qd e)
abbrev St:=L2.St
abbrev vg:=List (Option D)
abbrev DK:=D->Mp->Prop
abbrev T3:=vg->Mp->DK->Prop
abbrev AH:=vg->Mp->(Bool->Mp->Prop)->Prop
abbrev xA:=vg->Mp->(List D->Mp->Prop)->Prop
structure F4 where
 nx:vg->Mp->Prop
 rt:DK
 bk:vg->Mp->Prop:=λ_ _=>False
 ct:vg->Mp->Prop:=λ_ _=>False
abbrev xq:=F4->vg->Mp->Prop
def yX(K:qw)(H:Hp)(σ:St)(δ:vg):Prop:=∀(i:Nat) (d:D),δ[i]?=some (some d)->∃v,σ[i]?=some (some v)/\rV K H d v
def yX.mono{K:qw}{H H':Hp}{σ:St}{δ:vg}(e:qS K H H')(h:yX K H σ δ):yX K H' σ δ:=λi d q=>by obtain⟨v,e1,e2⟩:=h i d q;exact⟨v,e1,e2.mono e⟩
def yX.set{K:qw}{H:Hp}{σ:St}{δ:vg}{i:Nat}{d:D}{v:V}(h:yX K H σ δ)(hv:rV K H d v)(hi:i<σ.length):yX K H (σ.set i (some v)) (δ.set i (some d)):=λj e q=>by
 by_cases hj:j=i
 .subst hj;rw[eO hi];by_cases hl:j<δ.length
  .rw[eO hl]at q;cases q;exact⟨v,rfl,hv⟩
  .rw[gG (by simpa using hl)]at q;cases q
 .rw[eU (dR hj)]at q ⊢;exact h j e q
def lo(K:qw)(t:T3):TE:=λσ H Q'=>CT λδ M Q=>yX K H σ δ/\HM K H M/\t δ M Q/\∀v H' d M',rV K H' d v->HM K H' M'->qS K H H'->Q d M'->Q' v H'
def Td(K:qw)(t:AH):TT:=λσ H Q'=>CT λδ M Q=>yX K H σ δ/\HM K H M/\t δ M Q/\∀b H' M',HM K H' M'->qS K H H'->Q b M'->Q' b H'
def WH(K:qw)(t:xA):TA:=λσ H Q'=>CT λδ M Q=>yX K H σ δ/\HM K H M/\t δ M Q/\∀vs H' ds M',qu K H' ds vs->HM K H' M'->qS K H H'->Q ds M'->Q' vs H'
def Vn(K:qw)(t:xq):TS:=λD' σ H=>CT λδ M D=>yX K H σ δ/\HM K H M/\t D δ M/\(∀σ' H' δ' M',yX K H' σ' δ'->HM K H' M'->qS K H H'->σ'.length=σ.length->D.nx δ' M'->D'.nx σ' H')/\
 (∀v H' d M',rV K H' d v->HM K H' M'->qS K H H'->D.rt d M'->D'.rt v H')/\(∀σ' H' δ' M',yX K H' σ' δ'->HM K H' M'->qS K H H'->σ'.length=σ.length->D.bk δ' M'->D'.bk σ' H')/\
 (∀σ' H' δ' M',yX K H' σ' δ'->HM K H' M'->qS K H H'->σ'.length=σ.length->D.ct δ' M'->D'.ct σ' H')
def E3(X:Cx)(e:Expr)(t:T3):Prop:=PE X e (lo X.K t)
def B3(X:Cx)(e:Expr)(t:AH):Prop:=PT X e (Td X.K t)
def A3(X:Cx)(es:List Expr)(t:xA):Prop:=PA X es (WH X.K t)
def S3(X:Cx)(st:Stmt)(t:xq):Prop:=PS X st (Vn X.K t)
def Hn(X:Cx)(st:List Stmt)(t:xq):Prop:=Cn X st (Vn X.K t)
def PE.mono{X:Cx}{e:Expr}{t t':TE}(h:PE X e t)(m:∀σ H Q,t' σ H Q->t σ H Q):PE X e t':=λW2 s σ H Q I q=>h W2 s σ H Q I (m σ H Q q)
def PT.mono{X:Cx}{e:Expr}{t t':TT}(h:PT X e t)(m:∀σ H Q,t' σ H Q->t σ H Q):PT X e t':=λW2 s σ H Q I q=>h W2 s σ H Q I (m σ H Q q)
def PA.mono{X:Cx}{e:List Expr}{t t':TA}(h:PA X e t)(m:∀σ H Q,t' σ H Q->t σ H Q):PA X e t':=λpos W2 s σ H Q I q=>h pos W2 s σ H Q I (m σ H Q q)
def PS.mono{X:Cx}{e:Stmt}{t t':TS}(h:PS X e t)(m:∀D σ H,t' D σ H->t D σ H):PS X e t':=λW2 s σ H D I q=>h W2 s σ H D I (m D σ H q)
def Cn.mono{X:Cx}{e:List Stmt}{t t':TS}(h:Cn X e t)(m:∀D σ H,t' D σ H->t D σ H):Cn X e t':=λW2 s σ H D I q=>h W2 s σ H D I (m D σ H q)
def PS.nY{X:Cx}{e:Stmt}{t t':TS}(h:PS X e t)(m:∀D σ H,σ.length=X.N.length->t' D σ H->t D σ H):PS X e t':=λW2 s σ H D I q=>h W2 s σ H D I (m D σ H I.len q)
def vL{K:qw}{H H1:Hp}{Q':VK}{Q:DK}(x:qS K H H1)(f:∀v H' d M',rV K H' d v->HM K H' M'->qS K H H'->Q d M'->Q' v H'):∀v H' d M',rV K H' d v->HM K H' M'->qS K H1 H'->Q d M'->Q' v H':=
 λv H' d M' a b c e=>f v H' d M' a b (x.trans c) e
variable {X:Cx}{pos:Pos}
def v3(i:Nat):T3:=λδ M Q=>(δ.getD i none).elim False λd=>Q d M
def KC{δ:vg}{i:Nat}{P:D->Prop}(h:(δ.getD i none).elim False P):∃d,δ[i]?=some (some d)/\P d:=by
 cases e:δ[i]? with
 | none=>rw[gf,e]at h;exact h.elim
 | some o=>
  rw[gf,e]at h;cases o with
  | none=>exact h.elim
  | some d=>exact⟨d,rfl,h⟩
def RC(i:Nat){x:Str}(h:PE X (.Name x pos) (EM i)):E3 X (.Name x pos) (v3 i):=PE.mono h λσ H Q' zz=>x7 zz λδ M Q hs hm ht k=>by obtain⟨d,e,q⟩:=KC ht;obtain⟨v,e1,e2⟩:=hs i d e;exact⟨v,e1,k v H d M e2 hm .refl q⟩
def c3(d:D):T3:=λ_ M Q=>Q d M
def pF{i j}:E3 X (.Constant (.int i) j pos) (c3 (.int i)):=PE.mono SC λσ H Q' zz=>x7 zz λδ M Q hs hm ht k=>k _ H _ M .int hm .refl ht
def yt{i j}:E3 X (.Constant (.bool i) j pos) (c3 (.bl i)):=PE.mono Uh λσ H Q' zz=>x7 zz λδ M Q hs hm ht k=>k _ H _ M .bl hm .refl ht
def pG{i j}:E3 X (.Constant (.str i) j pos) (c3 (.str i)):=PE.mono SA λσ H Q' zz=>x7 zz λδ M Q hs hm ht k=>k _ H _ M .str hm .refl ht
def sr{j}:E3 X (.Constant .none j pos) (c3 .mW):=PE.mono SQ λσ H Q' zz=>x7 zz λδ M Q hs hm ht k=>k _ H _ M .mW hm .refl ht
def Nr{x:Str}{n:String}(hg:Gl X x)(hm:X.mg x=none)(hv:bootBuiltins x=some (.type n))(hn:x≠"__name__":=by decide)(hd:yJ x:=by decide):E3 X (.Name x pos) (c3 (.ty n)):=
 PE.mono (OF (v:=.ty n) hg hm hv rfl hn hd) λσ H Q' zz=>x7 zz λδ M Q hs hm ht k=>k _ H _ M (by unfold rV;rfl) hm .refl ht
def pf(M:Mp)(a:Addr):Option (List D):=match M a with
 | some (.lst ds)=>some ds
 | _=>none
def yK(x:Str)(n:Int):Str:=⟨(List.replicate n.toNat x.cps).foldl (·++·) #[]⟩
def Vf(op:Operator)(x y:D)(M:Mp)(Q:DK):Prop:=match op,x,y with
 | .Add,.int i,.int j=>Q (.int (i+j)) M
 | .Add,.str i,.str j=>i.length+j.length<=sizeLine/\Q (.str (i++j)) M
 | .Add,.tup i,.tup j=>i≠[]/\i.length+j.length<=sizeLine/\Q (.tup (i++j)) M
 | .Add,.ref a,.ref b=>(pf M a).elim False λi=>(pf M b).elim False λj=>i.length+j.length<=sizeLine/\∀p,M p=none->Q (.ref p) (pL M p (.lst (i++j)))
 | .Add,.rl i,.ref b=>(pf M b).elim False λj=>i.length+j.length<=sizeLine/\∀p,M p=none->Q (.ref p) (pL M p (.lst (i++j)))
 | .Sub,.int i,.int j=>Q (.int (i - j)) M
 | .Mult,.int i,.int j=>Dv i j/\Q (.int (i*j)) M
 | .Mult,.str i,.int j=>(j<4096/\-4096<j/\i.length<4096)/\Q (.str (yK i j)) M
 | .FloorDiv,.int i,.int j=>UW i j/\Q (.int (i / j)) M
 | .Mod,.int i,.int j=>0<j/\Q (.int (i % j)) M
 | _,_,_=>False
def o3(op:Operator)(ta tb:T3):T3:=λδ M Q=>ta δ M λx M1=>tb δ M1 λy M2=>Vf op x y M2 Q
def Up(K:qw)(H:Hp)(Q':VK)(Q:DK):Prop:=∀v H' d M',rV K H' d v->HM K H' M'->qS K H H'->Q d M'->Q' v H'
variable {ta tb:T3}
section
def qy{K:qw}{H:Hp}{M:Mp}{a:Addr}{ds:List D}(hm:HM K H M)(h:pf M a=some ds):∃xs,yZ K H a xs/\qu K H ds xs/\Rd H a (.lst xs):=by
 unfold pf at h;cases e:M a with
 | none=>rw[e]at h;cases h
 | some c=>
  rw[e]at h;have ok:=hm a c e;cases c with
  | lst es=>cases h;obtain⟨xs,e1,e2⟩:=ok;exact⟨xs,.inl (.inl e1),e2,.inl e1⟩
  | ins _ _=>cases h
  | dk _=>cases h
  | exc _=>cases h
def qX{α:Type}{o:Option α}{P:α->Prop}(h:o.elim False P):∃a,o=some a/\P a:=by
 cases o with
 | none=>exact h.elim
 | some a=>exact⟨a,rfl,h⟩
def IE:xJ X (binaryOp .Add) (λx y H Q=>∃l b xs zs,x=.ref l/\y=.ref b/\yZ X.K H l xs/\yZ X.K H b zs/\xs.length+zs.length<=sizeLine/\∀p,H p=none->Q (.ref p) (upd H p (.lst (xs++zs)))):=by
 intro W2 s σ H x y v u Q I rx ry h;obtain⟨l,b,xs,zs,rfl,rfl,hH,hB,hz,q⟩:=h;cases rx;cases ry;obtain⟨its,r,⟨⟨c1,d1,t1,sl1⟩,n,g1,e1,_,f1⟩,_⟩:=I.list hH;obtain⟨Y2,r2,⟨⟨c2,d2,t2,sl2⟩,m,g2,e2,_,f2⟩,_⟩:=I.list hB;simp only at e1 f1 e2 f2;subst e1 f1 e2 f2;have hl:=r.length;have ZC:=r2.length;refine k9 ⟨_,g1,rfl⟩ ⟨_,g2,rfl⟩ noFill_list_add seq_list_add PySem.F.slot_list_add PySem.F.entry_list_add (PySem.F.args_list_add_2 _ _) (list_addW l b its.toArray Y2.toArray n m d1 d2 sl1 sl2 (by rw[dB,dB];omega)) ⟨g1,g2,?_⟩;have ea:its.toArray++Y2.toArray=(its++Y2).toArray:=by simp
 rw[ea];exact⟨.ref _,_,I.oX (t':=s.toks) (r.append r2) (by rw[de];omega),rfl,q _ I.fresh⟩
def JA(x:Array Nat):∀k,((List.replicate k x).foldl (·++·) #[]:Array Nat).size=k*x.size:=by
 have go:∀(k:Nat) (acc:Array Nat),((List.replicate k x).foldl (·++·) acc).size=acc.size+k*x.size:=by
  intro k;induction k with
  | zero=>intro acc;simp
  | succ k ih=>intro acc;rw[eL,fX,ih,Array.size_append,mG];omega
 intro k;rw[go];simp
def Ov:xJ X (binaryOp .Mult) (λx y H Q=>∃i j,x=.str i/\y=.int j/\(j<4096/\-4096<j/\i.length<4096)/\Q (.str (yK i j)) H):=by
 intro W2 s σ H x y v u Q I rx ry h;obtain⟨i,j,rfl,rfl,⟨h1,h2,h3⟩,q⟩:=h;obtain⟨t,rfl⟩:=rx;obtain⟨t',rfl⟩:=ry;refine PySem.P.mul_str ?_ ?_ ?_ ?_
 .rw[eR (by omega),eR (by omega)];rfl
 .intro h0 _;have:(4096:Int)<=(2 ^ 63 - 1) / j:=by
   have:(4096:Int)*j<=2 ^ 63 - 1:=by omega
   exact(Int.le_ediv_iff_mul_le (by omega)).mpr this
  omega
 .intro h0 _;have hm:i.length*j.toNat<=4096*4096:=kt (by omega) (by omega);have hz:=dN;unfold Builtin.Str.tooLong;exact eR (by omega)
 .by_cases h0:j<1
  .rw[dh h0];have e:yK i j=Str.empty:=by unfold yK;rw[show j.toNat=0 by omega];rfl
   rw[e]at q;exact⟨by decide,⟨.str Str.empty,H,I.tok _,⟨_,rfl⟩,q⟩⟩
  .rw[df h0];by_cases hj:(j==1||i.length==0)=true
   .rw[dh hj];have e:yK i j=i:=by
     have hj':j=1\/i.length=0:=by simpa using hj
     unfold yK;rcases hj' with z|z
     .subst z;show(⟨#[]++i.cps⟩:Str)=i;simp
     .have ec:i.cps=#[]:=Array.size_eq_zero_iff.mp z;have er:∀k:Nat,((List.replicate k (#[]:Array Nat)).foldl (·++·) #[]:Array Nat)=#[]:=by
       intro k;induction k with
       | zero=>rfl
       | succ k ih=>rw[eL,fX];simpa using ih
      rw[ec,er,<-ec]
    rw[e]at q;exact⟨.str i,H,I,⟨t,rfl⟩,q⟩
   .rw[df hj];refine⟨?_,⟨.str _,H,I.tok _,⟨_,rfl⟩,q⟩⟩;have hz:=dN;have hm:j.toNat*i.length<=4096*4096:=kt (by omega) (by omega);show((List.replicate j.toNat i.cps).foldl (·++·) #[]:Array Nat).size<=_;rw[JA];have Yx:j.toNat*i.cps.size<=4096*4096:=hm;omega
def R3(K:qw)(f:D->D->Mp->DK->Prop):R2:=λvx vy H Q'=>BU λx y M Q=>rV K H x vx/\rV K H y vy/\HM K H M/\f x y M Q/\Up K H Q' Q
def WR(op:Operator):xJ X (binaryOp op) (R3 X.K (Vf op)):=by
 intro W2 s σ H vx vy v u Q' I rx ry h;obtain⟨x,y,M,Q,hx,hy,hm,q,k⟩:=h;unfold Vf at q;split at q
 .cases hx.int_inv;cases hy.int_inv;exact Su W2 s σ H _ _ v u Q' I rx ry ⟨_,_,rfl,rfl,k _ _ _ _ .int hm .refl q⟩
 .cases hx.str_inv;cases hy.str_inv;exact HV W2 s σ H _ _ v u Q' I rx ry ⟨_,_,rfl,rfl,q.1,k _ _ _ _ .str hm .refl q.2⟩
 .rename_i i j;obtain⟨q1,q2,q3⟩:=q;obtain⟨a,xs,rfl,ha,YE⟩:=hx.mY;obtain⟨b,ys,rfl,hb,XY⟩:=hy.mY;have l1:=YE.length;have l2:=XY.length;refine Og W2 s σ H _ _ v u Q' I rx ry ⟨a,b,xs,ys,rfl,rfl,ha,hb,λz=>q1 (by rw[z]at l1;exact gw.mp l1),by omega,λz=>?_,λz p hp=>?_⟩
  .refine k _ _ _ _ (.tup ha ?_) hm .refl q3;rw[z]at XY;have e0:j=[]:=gw.mp (by simpa using XY.length);rw[e0,fh];exact YE
  .have e:qS X.K H (upd H p (.tup (xs++ys))):=.new hp;exact k _ _ _ _ (.tup (.of qp) ((YE.append XY).mono e)) (hm.add hp) e q3
 .obtain⟨i,ei,q⟩:=qX q;obtain⟨j,ej,q1,q2⟩:=qX q;cases hx.mR;cases hy.mR;obtain⟨xs,rx',Z5,_⟩:=qy hm ei;obtain⟨ys,ry',hys,_⟩:=qy hm ej;have l1:=Z5.length;have l2:=hys.length;refine IE W2 s σ H _ _ v u Q' I rx ry ⟨_,_,xs,ys,rfl,rfl,rx',ry',by omega,λp hp=>?_⟩;have e:qS X.K H (upd H p (.lst (xs++ys))):=.new hp;exact k _ _ _ _ .ref (hm.new (c:=.lst (i++j)) hp ⟨_,qp,(Z5.append hys).mono e⟩) e (q2 p (hm.fresh hp))
 .obtain⟨j,ej,q1,q2⟩:=qX q;obtain⟨l,xs,rfl,rx',Z5⟩:=hx.nv;cases hy.mR;obtain⟨ys,ry',hys,_⟩:=qy hm ej;have l1:=Z5.length;have l2:=hys.length;refine IE W2 s σ H _ _ v u Q' I rx ry ⟨_,_,xs,ys,rfl,rfl,rx'.sq,ry',by omega,λp hp=>?_⟩;have e:qS X.K H (upd H p (.lst (xs++ys))):=.new hp;exact k _ _ _ _ .ref (hm.new (c:=.lst (_++j)) hp ⟨_,qp,(Z5.append hys).mono e⟩) e (q2 p (hm.fresh hp))
 .cases hx.int_inv;cases hy.int_inv;exact Q4 W2 s σ H _ _ v u Q' I rx ry ⟨_,_,rfl,rfl,k _ _ _ _ .int hm .refl q⟩
 .cases hx.int_inv;cases hy.int_inv;exact S9 W2 s σ H _ _ v u Q' I rx ry ⟨_,_,rfl,rfl,q.1,k _ _ _ _ .int hm .refl q.2⟩
 .cases hx.str_inv;cases hy.int_inv;exact Ov W2 s σ H _ _ v u Q' I rx ry ⟨_,_,rfl,rfl,q.1,k _ _ _ _ .str hm .refl q.2⟩
 .cases hx.int_inv;cases hy.int_inv;exact Ol W2 s σ H _ _ v u Q' I rx ry ⟨_,_,rfl,rfl,q.1,k _ _ _ _ .int hm .refl q.2⟩
 .cases hx.int_inv;cases hy.int_inv;exact Sk W2 s σ H _ _ v u Q' I rx ry ⟨_,_,rfl,rfl,q.1,k _ _ _ _ .int hm .refl q.2⟩
 .exact q.elim
variable {a b:Expr}
def HJ{f:D->D->Mp->DK->Prop}:∀σ H Q',lo X.K (λδ M Q=>ta δ M λx M1=>tb δ M1 λy M2=>f x y M2 Q) σ H Q'->TH (R3 X.K f) (lo X.K ta) (lo X.K tb) σ H Q':=λσ H Q' zz=>x7 zz λδ M Q hs hm ht k=>⟨δ,M,_,hs,hm,ht,λv H1 x M1 hx W5 e1 q1=>⟨δ,M1,_,hs.mono e1,W5,q1,λu H2 y M2 hy Xk e2 q2=>⟨x,y,M2,Q,hx.mono e2,hy,Xk,q2,vL (e1.trans e2) k⟩⟩⟩
def qc{op:Operator}(ha:E3 X a ta)(hb:E3 X b tb):E3 X (.BinOp a op b pos) (o3 op ta tb):=PE.mono (QG (WR op) ha hb) HJ
end
def sP(f:D->D->Option Bool):List D->List D->Option Bool
 | x::a,y::b=>(f x y).bind λp=>(sP f a b).map λq=>p&&q
 | _,_=>some true
def yY(M:Mp):Nat->D->D->Option Bool
 | 0,_,_=>none
 | n+1,x,y=>match x,y with
  | .mW,.mW=>some true
  | .bl a,.bl b=>some (a==b)
  | .int a,.int b=>some (a==b)
  | .str a,.str b=>some (a==b)
  | .mW,.bl _=>some false
  | .mW,.int _=>some false
  | .mW,.str _=>some false
  | .bl _,.mW=>some false
  | .bl _,.str _=>some false
  | .int _,.mW=>some false
  | .int _,.str _=>some false
  | .str _,.mW=>some false
  | .str _,.bl _=>some false
  | .str _,.int _=>some false
  | .tup a,.tup b=>(sP (yY M n) a b).map λp=>p&&a.length==b.length
  | .ref a,.ref b=>(pf M a).bind λi=>(pf M b).bind λj=>if i.length=j.length then sP (yY M n) i j else some false
  | _,_=>none
variable {W2:List (Addr × Obj)}{σ:St}{s:Sd}
theorem yD{f:D->D->Option Bool}:∀{ds es:List D} {xs:List V} {b:Bool},qu X.K H ds xs->qu X.K H es xs->(∀x y v b,rV X.K H x v->rV X.K H y v->f x y=some b->b=true)->sP f ds es=some b->b=true
 | [],[],_,_,_,_,_,e=>(dw e).symm
 | [],_::_,_,_,h,g,_,_=>by have h1:=h.length;have h2:=g.length;rw[<-h1]at h2;simp at h2
 | _::_,[],_,_,h,g,_,_=>by have h1:=h.length;have h2:=g.length;rw[<-h1]at h2;simp at h2
 | d::ds,e::es,xs,b,h,g,k,q=>by
  obtain⟨x,r,rfl,h1,h2⟩:=h.inv;obtain⟨x',r',e',g1,g2⟩:=g.inv;cases e';unfold sP at q;cases p1:f d e with
  | none=>rw[p1]at q;cases q
  | some b1=>
   rw[p1]at q;cases p2:sP f ds es with
   | none=>rw[p2]at q;cases q
   | some b2=>rw[p2]at q;have q':(b1&&b2)=b:=dw q;rw[<-q',k _ _ _ _ h1 g1 p1,yD h2 g2 k p2];rfl
theorem za(I:Inv X W2 σ H s)(hm:HM X.K H M):∀(n:Nat) (x y:D) (v:V) (b:Bool),rV X.K H x v->rV X.K H y v->yY M n x y=some b->b=true
 | 0,_,_,_,_,_,_,e=>by cases e
 | n+1,x,y,v,b,hx,hy,e=>by
  unfold yY at e;split at e
  .exact(dw e).symm
  .rw[hx.mV]at hy;cases hy.mV;exact(dw e).symm.trans (by simp)
  .rw[hx.int_inv]at hy;cases hy.int_inv;exact(dw e).symm.trans (by simp)
  .rw[hx.str_inv]at hy;cases hy.str_inv;exact(dw e).symm.trans (by simp)
  .rw[hx.mU]at hy;cases hy.mV
  .rw[hx.mU]at hy;cases hy.int_inv
  .rw[hx.mU]at hy;cases hy.str_inv
  .rw[hx.mV]at hy;cases hy.mU
  .rw[hx.mV]at hy;cases hy.str_inv
  .rw[hx.int_inv]at hy;cases hy.mU
  .rw[hx.int_inv]at hy;cases hy.str_inv
  .rw[hx.str_inv]at hy;cases hy.mU
  .rw[hx.str_inv]at hy;cases hy.mV
  .rw[hx.str_inv]at hy;cases hy.int_inv
  .obtain⟨a,xs,rfl,h1,h2⟩:=hx.mY;obtain⟨a',ys,e',g1,g2⟩:=hy.mY;cases e';rw[I.nC g1 h1]at g2;cases p:sP (yY M n) _ _ with
   | none=>rw[p]at e;cases e
   | some b1=>rw[p]at e;have e':=dw e;rw[<-e',yD h2 g2 (za I hm n) p,h2.length,g2.length];simp
  .rw[hx.mR]at hy;cases hy.mR;cases p:pf M _ with
   | none=>rw[p]at e;cases e
   | some i=>rw[p]at e;have e:(if i.length=i.length then sP (yY M n) i i else some false)=some b:=e;rw[dh rfl]at e;obtain⟨xs,_,h2,_⟩:=qy hm p;exact yD h2 h2 (za I hm n) e
  .cases e
theorem BH{f:D->D->Option Bool}{A:Ar}:∀{ds es:List D} {xs ys:List V} {us ws:List Vl} {b:Bool},sP f ds es=some b->qu X.K H ds xs->qu X.K H es ys->qE xs us->qE ys ws->
  (∀x y b vx vy u w,f x y=some b->rV X.K H x vx->rV X.K H y vy->qN vx u->qN vy w->SeqAt.EqAt A s u w b)->
  ∃e:Nat->Bool,(∀j (h1:j<us.length) (h2:j<ws.length),SeqAt.EqAt A s us[j] ws[j] (e j))/\(List.range (min us.length ws.length)).all e=b
 | [],es,xs,ys,us,ws,b,q,hx,hy,rx,ry,k=>by
  have e1:=hx.nil_inv;subst e1;cases rx;refine⟨λ_=>true,λj h1=>absurd h1 (by simp),?_⟩;have q':some true=some b:=by cases es<;>exact q
  simpa using(dw q')
 | d::ds,[],xs,ys,us,ws,b,q,hx,hy,rx,ry,k=>by
  have e1:=hy.nil_inv;subst e1;cases ry;refine⟨λ_=>true,λj _ h2=>absurd h2 (by simp),?_⟩;have q':some true=some b:=q
  simpa using(dw q')
 | d::ds,e::es,xs,ys,us,ws,b,q,hx,hy,rx,ry,k=>by
  obtain⟨x,r,rfl,h1,h2⟩:=hx.inv;obtain⟨y,r',rfl,g1,g2⟩:=hy.inv;cases rx with
  | cons r1 r2=>
   cases ry with
   | cons t1 t2=>
    unfold sP at q;cases p1:f d e with
    | none=>rw[p1]at q;cases q
    | some b1=>
     rw[p1]at q;cases p2:sP f ds es with
     | none=>rw[p2]at q;cases q
     | some b2=>
      rw[p2]at q;have q':(b1&&b2)=b:=dw q;obtain⟨e',he,ha⟩:=BH p2 h2 g2 r2 t2 k;refine⟨λj=>match j with|0=>b1|j+1=>e' j,λj l1 l2=>?_,?_⟩
      .cases j with
       | zero=>exact k _ _ _ _ _ _ _ p1 h1 g1 r1 t1
       | succ j=>exact he j (by simpa using l1) (by simpa using l2)
      .rw[<-q',<-ha];simp only[eD];rw[Nat.succ_min_succ,List.range_succ_eq_map,e9,iV];rfl
theorem FJ(I:Inv X W2 σ H s)(hm:HM X.K H M):∀(n:Nat) (A:Ar) (x y:D) (b:Bool) (vx vy:V) (u w:Vl),A.units+n<cLine->yY M n x y=some b->rV X.K H x vx->rV X.K H y vy->qN vx u->qN vy w->
  SeqAt.RcAt A s u w b/\SeqAt.EqAt A s u w b/\SeqAt.RcNeAt A s u w (!b)
 | 0,_,_,_,_,_,_,_,_,_,e,_,_,_,_=>by cases e
 | n+1,A,x,y,b,vx,vy,u,w,hu,e,hx,hy,rx,ry=>by
  have hu1:A.units<cLine:=by omega
  have hui:A.in1.units+n<cLine:=by show A.units+1+n<cLine;omega
  unfold yY at e;split at e
  .cases hx.mU;cases hy.mU;cases rx;cases ry;cases e;exact⟨.none_none,.same _,.none_none⟩
  .cases hx.mV;cases hy.mV;cases rx;cases ry;cases e;exact⟨.bool_bool _ _,.bool_bool _ _,.bool_bool _ _⟩
  .cases hx.int_inv;cases hy.int_inv;obtain⟨t,rfl⟩:=rx;obtain⟨t',rfl⟩:=ry;cases e;exact⟨.int_int _ _ _ _,.int_int _ _ _ _,.int_int _ _ _ _⟩
  .cases hx.str_inv;cases hy.str_inv;obtain⟨t,rfl⟩:=rx;obtain⟨t',rfl⟩:=ry;cases e;exact⟨.str_str _ _ _ _,.str_str _ _ _ _,.str_str _ _ _ _⟩
  .cases hx.mU;cases hy.mV;cases rx;cases ry;cases e;exact⟨.none_bool _,.none_bool _,.none_bool _⟩
  .cases hx.mU;cases hy.int_inv;cases rx;obtain⟨t',rfl⟩:=ry;cases e;exact⟨.none_int _ _,.none_int _ _,.none_int _ _⟩
  .cases hx.mU;cases hy.str_inv;cases rx;obtain⟨t',rfl⟩:=ry;cases e;exact⟨.none_str _ _,.none_str _ _,.none_str _ _⟩
  .cases hx.mV;cases hy.mU;cases rx;cases ry;cases e;exact⟨.bool_none _,.bool_none _,.bool_none _⟩
  .cases hx.mV;cases hy.str_inv;cases rx;obtain⟨t',rfl⟩:=ry;cases e;exact⟨.bool_str _ _ _,.bool_str _ _ _,.bool_str _ _ _⟩
  .cases hx.int_inv;cases hy.mU;obtain⟨t,rfl⟩:=rx;cases ry;cases e;exact⟨.int_none _ _,.int_none _ _,.int_none _ _⟩
  .cases hx.int_inv;cases hy.str_inv;obtain⟨t,rfl⟩:=rx;obtain⟨t',rfl⟩:=ry;cases e;exact⟨.int_str _ _ _ _,.int_str _ _ _ _,.int_str _ _ _ _⟩
  .cases hx.str_inv;cases hy.mU;obtain⟨t,rfl⟩:=rx;cases ry;cases e;exact⟨.str_none _ _,.str_none _ _,.str_none _ _⟩
  .cases hx.str_inv;cases hy.mV;obtain⟨t,rfl⟩:=rx;cases ry;cases e;exact⟨.str_bool _ _ _,.str_bool _ _ _,.str_bool _ _ _⟩
  .cases hx.str_inv;cases hy.int_inv;obtain⟨t,rfl⟩:=rx;obtain⟨t',rfl⟩:=ry;cases e;exact⟨.str_int _ _ _ _,.str_int _ _ _ _,.str_int _ _ _ _⟩
  .rename_i da db;obtain⟨a1,xs,rfl,h1,h2⟩:=hx.mY;obtain⟨a2,ys,rfl,g1,g2⟩:=hy.mY;cases rx;cases ry;obtain⟨us,r1,p1,_⟩:=I.tuple h1;obtain⟨ws,r2,p2,_⟩:=I.tuple g1;cases p:sP (yY M n) da db with
   | none=>rw[p]at e;cases e
   | some b1=>
    have e0:=e;rw[p]at e;have e':(b1&&da.length==db.length)=b:=dw e;obtain⟨f,hf,ha⟩:=BH (A:=A.in1) (s:=s) p h2 g2 r1 r2 λx y b vx vy u w q1 q2 q3 q4 q5=>(FJ I hm n A.in1 x y b vx vy u w hui q1 q2 q3 q4 q5).2.1;have hb:((List.range (min us.toArray.size ws.toArray.size)).all f&&us.toArray.size==ws.toArray.size)=b:=by rw[dB,dB,ha,<-e',<-r1.length,<-r2.length,h2.length,g2.length]
    have hf':∀j (l1:j<us.toArray.size) (l2:j<ws.toArray.size),SeqAt.EqAt A.in1 s us.toArray[j] ws.toArray[j] (f j):=λj l1 l2=>by simpa using hf j (by simpa using l1) (by simpa using l2)
    have c1:SeqAt.RcAt A s (.ref a1) (.ref a2) b:=by rw[<-hb];exact .tuples p1 p2 hu1 hf'
    have c3:SeqAt.RcNeAt A s (.ref a1) (.ref a2) (!b):=by have:=SeqAt.RcNeAt.tuples p1 p2 hu1 hf';rw[hb]at this;exact this
    refine⟨c1,?_,c3⟩;by_cases ea:a1=a2
    .subst ea;have:b=true:=za I hm (n+1) (.tup da) (.tup db) (.ref a1) b hx hy (by unfold yY;exact e0);rw[this];exact .same _
    .exact .of_refs ea c1
  .cases hx.mR;cases hy.mR;cases rx;cases ry;rename_i a1 a2;have e0:=e;cases p:pf M a1 with
   | none=>rw[p]at e;cases e
   | some i=>
    cases p':pf M a2 with
    | none=>rw[p,p']at e;cases e
    | some j=>
     rw[p,p']at e;have e:(if i.length=j.length then sP (yY M n) i j else some false)=some b:=e;obtain⟨xs,q1,h2,_⟩:=qy hm p;obtain⟨ys,q2,g2,_⟩:=qy hm p';obtain⟨us,r1,p1,_⟩:=I.list q1;obtain⟨ws,r2,p2,_⟩:=I.list q2;have W7:SeqAt.RcAt A s (.ref a1) (.ref a2) b/\SeqAt.RcNeAt A s (.ref a1) (.ref a2) (!b):=by
      by_cases hl:i.length=j.length
      .rw[dh hl]at e;obtain⟨f,hf,ha⟩:=BH (A:=A.in1) (s:=s) e h2 g2 r1 r2 λx y b vx vy u w q1 q2 q3 q4 q5=>(FJ I hm n A.in1 x y b vx vy u w hui q1 q2 q3 q4 q5).2.1;have hsz:us.toArray.size=ws.toArray.size:=by rw[dB,dB,<-r1.length,<-r2.length,<-h2.length,<-g2.length];exact hl
       have hf':∀j (l1:j<us.toArray.size) (l2:j<ws.toArray.size),SeqAt.EqAt A.in1 s us.toArray[j] ws.toArray[j] (f j):=λj l1 l2=>by simpa using hf j (by simpa using l1) (by simpa using l2)
       have hb:(List.range us.toArray.size).all f=b:=by rw[<-ha];rw[dB,dB]at hsz;rw[dB,<-hsz,Nat.min_self]
       rw[<-hb];exact⟨.lists p1.isList p2.isList hsz hu1 hf',.lists p1.isList p2.isList hsz hu1 hf'⟩
      .rw[df hl]at e;cases e;have hsz:(us.toArray.size != ws.toArray.size)=true:=by
        rw[dB,dB,<-r1.length,<-r2.length,<-h2.length,<-g2.length]
        simpa using hl
       exact⟨.lists_lengths p1.isList p2.isList hsz hu1,.lists_lengths p1.isList p2.isList hsz hu1⟩
     refine⟨W7.1,?_,W7.2⟩;by_cases ea:a1=a2
     .subst ea;have:b=true:=za I hm (n+1) (.ref a1) (.ref a1) (.ref a1) b .ref .ref (by unfold yY;exact e0);rw[this];exact .same _
     .exact .of_refs ea W7.1
  .cases e
def uZ:D->Bool
 | .mW=>true
 | .bl _=>true
 | .int _=>true
 | .str _=>true
 | _=>false
def Oy:D->D->Bool
 | .mW,.mW=>true
 | .bl a,.bl b=>a==b
 | .bl a,.int b=>(if a then 1 else 0)==b
 | .int a,.bl b=>a==(if b then 1 else 0)
 | .int a,.int b=>a==b
 | .str a,.str b=>a==b
 | _,_=>false
def inD(x:D)(ds:List D):Bool:=ds.any λy=>Oy y x
def MD(M:Mp):D->Option (List D)
 | .tup ds=>some ds
 | .ref a=>pf M a
 | .rl ds=>some ds
 | _=>none
def C5(i j:Str):Bool:=!(Builtin.Str.occurrences j i 0 j.length 1).isEmpty
def Se(YD:Bool)(x y:D)(M:Mp)(Q:DK):Prop:=match x,y with
 | .str i,.str j=>Q (.bl (if YD then !C5 i j else C5 i j)) M
 | _,_=>(MD M y).elim False λds=>uZ x=true/\ds.all uZ=true/\Q (.bl (if YD then !inD x ds else inD x ds)) M
def Oo(op:CmpOp)(x y:D)(M:Mp)(Q:DK):Prop:=match op with
 | .Eq=>(yY M 9 x y).elim False λb=>Q (.bl b) M
 | .NotEq=>(yY M 9 x y).elim False λb=>Q (.bl (!b)) M
 | .Lt=>match x,y with|.int i,.int j=>Q (.bl (decide (i<j))) M|_,_=>False
 | .LtE=>match x,y with|.int i,.int j=>Q (.bl (decide (i<=j))) M|_,_=>False
 | .Gt=>match x,y with|.int i,.int j=>Q (.bl (decide (j<i))) M|_,_=>False
 | .GtE=>match x,y with|.int i,.int j=>Q (.bl (decide (j<=i))) M|_,_=>False
 | .Is=>match y with|.mW=>Q (.bl (match x with|.mW=>true|_=>false)) M|_=>False
 | .IsNot=>match y with|.mW=>Q (.bl (match x with|.mW=>false|_=>true)) M|_=>False
 | .In=>Se false x y M Q
 | .NotIn=>Se true x y M Q
def k3(op:CmpOp)(ta tb:T3):T3:=λδ M Q=>ta δ M λx M1=>tb δ M1 λy M2=>Oo op x y M2 Q
def zK{d:D}{v:V}(h:rV K H d v)(f:uZ d=true):yw v=true:=by
 cases d with
 | mW=>rw[h.mU];rfl
 | bl _=>rw[h.mV];rfl
 | int _=>rw[h.int_inv];rfl
 | str _=>rw[h.str_inv];rfl
 | _=>cases f
def JG{d e:D}{v w:V}(h:rV K H d v)(g:rV K H e w)(f:uZ d=true)(f':uZ e=true):NU v w=Oy d e:=by
 cases d with
 | mW=>
  rw[h.mU];cases e with
  | mW=>rw[g.mU];rfl
  | bl _=>rw[g.mV];rfl
  | int _=>rw[g.int_inv];rfl
  | str _=>rw[g.str_inv];rfl
  | _=>cases f'
 | bl _=>
  rw[h.mV];cases e with
  | mW=>rw[g.mU];rfl
  | bl _=>rw[g.mV];rfl
  | int _=>rw[g.int_inv];rfl
  | str _=>rw[g.str_inv];rfl
  | _=>cases f'
 | int _=>
  rw[h.int_inv];cases e with
  | mW=>rw[g.mU];rfl
  | bl _=>rw[g.mV];rfl
  | int _=>rw[g.int_inv];rfl
  | str _=>rw[g.str_inv];rfl
  | _=>cases f'
 | str _=>
  rw[h.str_inv];cases e with
  | mW=>rw[g.mU];rfl
  | bl _=>rw[g.mV];rfl
  | int _=>rw[g.int_inv];rfl
  | str _=>rw[g.str_inv];rfl
  | _=>cases f'
 | _=>cases f
theorem Fv:∀{ds:List D} {xs:List V},qu K H ds xs->ds.all uZ=true->xs.all yw=true
 | [],_,h,_=>by rw[h.nil_inv];rfl
 | d::ds,_,h,f=>by obtain⟨x,r,rfl,h1,h2⟩:=h.inv;rw[e9,dX]at f ⊢;exact⟨zK h1 f.1,Fv h2 f.2⟩
theorem Nv{e:D}{w:V}(g:rV K H e w)(f':uZ e=true):∀{ds:List D} {xs:List V},qu K H ds xs->ds.all uZ=true->inV w xs=inD e ds
 | [],_,h,_=>by rw[h.nil_inv];rfl
 | d::ds,_,h,f=>by obtain⟨x,r,rfl,h1,h2⟩:=h.inv;rw[e9,dX]at f;show(NU x w||inV w r)=(Oy d e||inD e ds);rw[JG h1 g f.1 f',Nv g f' h2 f.2]
def EO(hm:HM K H M){y:D}{v:V}{ds:List D}(h:rV K H y v)(q:MD M y=some ds):∃p xs,v=.ref p/\(yZ K H p xs\/ve K H p xs)/\qu K H ds xs:=by
 cases y with
 | tup es=>cases q;obtain⟨a,xs,rfl,h1,h2⟩:=h.mY;exact⟨a,xs,rfl,.inr h1,h2⟩
 | ref a=>cases h.mR;obtain⟨xs,h1,h2,_⟩:=qy hm q;exact⟨a,xs,rfl,.inl h1,h2⟩
 | rl es=>cases q;obtain⟨a,xs,rfl,h1,h2⟩:=h.nv;exact⟨a,xs,rfl,.inl h1.sq,h2⟩
 | _=>cases q
variable {c:Expr}{tc:T3}
section
def Kx(op:CmpOp)(hu:X.A.units+9<cLine):xJ X (compareOp op) (R3 X.K (Oo op)):=by
 intro W2 s σ H vx vy v u Q' I rx ry h;obtain⟨x,y,M,Q,hx,hy,hm,q,k⟩:=h;have bk:∀b,Q (.bl b) M->EP X W2 σ Q' (.bool b) s:=λb q=>⟨.bl b,H,I,rfl,k _ _ _ _ .bl hm .refl q⟩;have inn:∀YD:Bool,((MD M y).elim False λds=>uZ x=true/\ds.all uZ=true/\Q (.bl (if YD then !inD x ds else inD x ds)) M)->We X.K YD vx vy H Q':=λYD q=>by obtain⟨ds,e,f1,f2,q⟩:=qX q;obtain⟨p,xs,rfl,h1,h2⟩:=EO hm hy e;refine⟨p,xs,rfl,h1,zK hx f1,Fv h2 f2,?_⟩;rw[Nv hx f1 h2 f2];exact k _ _ _ _ .bl hm .refl q
 cases op with
 | Eq=>obtain⟨b,e,q⟩:=qX q;exact(FJ I hm 9 X.A x y b vx vy v u hu e hx hy rx ry).1 _ _ _ _ (bk b q)
 | NotEq=>obtain⟨b,e,q⟩:=qX q;exact(FJ I hm 9 X.A x y b vx vy v u hu e hx hy rx ry).2.2 _ _ _ _ (bk _ q)
 | Lt=>
  cases x<;>first|exact q.elim|skip
  cases y<;>first|exact q.elim|skip
  cases hx.int_inv;cases hy.int_inv;exact Uw W2 s σ H _ _ v u Q' I rx ry ⟨_,_,rfl,rfl,k _ _ _ _ .bl hm .refl q⟩
 | LtE=>
  cases x<;>first|exact q.elim|skip
  cases y<;>first|exact q.elim|skip
  cases hx.int_inv;cases hy.int_inv;exact UP W2 s σ H _ _ v u Q' I rx ry ⟨_,_,rfl,rfl,k _ _ _ _ .bl hm .refl q⟩
 | Gt=>
  cases x<;>first|exact q.elim|skip
  cases y<;>first|exact q.elim|skip
  cases hx.int_inv;cases hy.int_inv;exact Tv W2 s σ H _ _ v u Q' I rx ry ⟨_,_,rfl,rfl,k _ _ _ _ .bl hm .refl q⟩
 | GtE=>
  cases x<;>first|exact q.elim|skip
  cases y<;>first|exact q.elim|skip
  cases hx.int_inv;cases hy.int_inv;exact UX W2 s σ H _ _ v u Q' I rx ry ⟨_,_,rfl,rfl,k _ _ _ _ .bl hm .refl q⟩
 | Is=>
  cases y<;>first|exact q.elim|skip
  cases hy.mU;refine Sx W2 s σ H _ _ v u Q' I rx ry ⟨rfl,k _ _ _ _ ?_ hm .refl q⟩;cases x with
  | mW=>rw[hx.mU];exact .bl
  | bl _=>rw[hx.mV];exact .bl
  | int _=>rw[hx.int_inv];exact .bl
  | str _=>rw[hx.str_inv];exact .bl
  | tup _=>obtain⟨a,xs,rfl,_⟩:=hx.mY;exact .bl
  | ref _=>rw[hx.mR];exact .bl
  | ty _=>rw[hx.oa];exact .bl
  | rl _=>obtain⟨a,xs,rfl,_⟩:=hx.nv;exact .bl
 | IsNot=>
  cases y<;>first|exact q.elim|skip
  cases hy.mU;refine OL W2 s σ H _ _ v u Q' I rx ry ⟨rfl,k _ _ _ _ ?_ hm .refl q⟩;cases x with
  | mW=>rw[hx.mU];exact .bl
  | bl _=>rw[hx.mV];exact .bl
  | int _=>rw[hx.int_inv];exact .bl
  | str _=>rw[hx.str_inv];exact .bl
  | tup _=>obtain⟨a,xs,rfl,_⟩:=hx.mY;exact .bl
  | ref _=>rw[hx.mR];exact .bl
  | ty _=>rw[hx.oa];exact .bl
  | rl _=>obtain⟨a,xs,rfl,_⟩:=hx.nv;exact .bl
 | In=>
  have q:Se false x y M Q:=q;unfold Se at q;split at q
  .cases hx.str_inv;cases hy.str_inv;exact J9 W2 s σ H _ _ v u Q' I rx ry ⟨_,_,rfl,rfl,k _ _ _ _ .bl hm .refl q⟩
  .exact J6 W2 s σ H _ _ v u Q' I rx ry (inn false q)
 | NotIn=>
  have q:Se true x y M Q:=q;unfold Se at q;split at q
  .cases hx.str_inv;cases hy.str_inv;exact FI W2 s σ H _ _ v u Q' I rx ry ⟨_,_,rfl,rfl,k _ _ _ _ .bl hm .refl q⟩
  .exact Fm W2 s σ H _ _ v u Q' I rx ry (inn true q)
variable {a b:Expr}
def qv{op:CmpOp}(hu:X.A.units+9<cLine)(ha:E3 X a ta)(hb:E3 X b tb)(hm:behindInMarks op b=false:=by first|exact HD _|with_unfolding_all rfl):E3 X (.Compare a [op] [b] pos) (k3 op ta tb):=PE.mono (IZ (Kx op hu) ha hb hm) HJ
def b3(t:T3):AH:=λδ M Q=>t δ M λd M1=>match d with|.bl c=>Q c M1|_=>False
def uR{e:Expr}{t:T3}(h:E3 X e t)(he:∀XB,isTrue e X.env XB=(do let v<-XB;standAt e.pos;holding [v] (truthy v)):=by intro _;rfl):B3 X e (b3 t):=PT.mono (RI h he) λσ H Q' zz=>x7 zz λδ M Q hs hm ht k=>
 ⟨δ,M,_,hs,hm,ht,λv H1 d M1 hd W5 e1 q1=>by
  cases d with
  | bl c=>exact⟨c,hd.mV,k c H1 M1 W5 e1 q1⟩
  | _=>exact q1.elim⟩
def pM{op:CmpOp}(hu:X.A.units+9<cLine)(ha:E3 X a ta)(hb:E3 X b tb)(hm:behindInMarks op b=false:=by first|exact HD _|with_unfolding_all rfl):B3 X (.Compare a [op] [b] pos) (b3 (k3 op ta tb)):=PT.mono (JJ (Kx op hu) ha hb hm) λσ H Q' zz=>x7 zz λδ M Q hs hm ht k=>
 HJ σ H _ ⟨δ,M,_,hs,hm,ht,λv H1 d M1 hd W5 e1 q1=>by
  cases d with
  | bl c=>exact⟨c,hd.mV,k c H1 M1 W5 e1 q1⟩
  | _=>exact q1.elim⟩
end
variable {tA tB:AH}{rest:List Expr}
section
variable {a b:Expr}
def N0(t u:AH):AH:=λδ M Q=>t δ M λc M1=>if c=true then u δ M1 Q else Q false M1
def WO(t u:AH):AH:=λδ M Q=>t δ M λc M1=>if c=true then Q true M1 else u δ M1 Q
def Us(t:AH):AH:=λδ M Q=>t δ M λc M1=>Q (!c) M1
def W3(X:Cx)(e:Expr)(t:AH):Prop:=PW X e (Td X.K t)
def PW.mono{X:Cx}{e:Expr}{t t':TT}(h:PW X e t)(m:∀σ H Q,t' σ H Q->t σ H Q):PW X e t':=λwh W2 s σ H Q I q=>h wh W2 s σ H Q I (m σ H Q q)
def W3.b3{e:Expr}{t:AH}(h:W3 X e t):B3 X e t:=PW.pt h
def yk(h:B3 X a tA):W3 X (.BoolOp .And [a] pos) tA:=O5 h
def wJ(h:B3 X a tA):W3 X (.BoolOp .Or [a] pos) tA:=Rh h
def yF(ha:B3 X a tA)(hb:W3 X (.BoolOp .And (b::rest) pos) tB):W3 X (.BoolOp .And (a::b::rest) pos) (N0 tA tB):=PW.mono (Sw ha hb) λσ H Q' zz=>x7 zz λδ M Q hs hm ht k=>
 ⟨δ,M,_,hs,hm,ht,λc H1 M1 W5 e1 q1=>by
  cases c with
  | true=>exact(dh rfl).mpr ⟨δ,M1,Q,hs.mono e1,W5,(dh rfl).mp q1,λb H' M' x1 x2 x3=>k b H' M' x1 (e1.trans x2) x3⟩
  | false=>exact(df dC).mpr (k false H1 M1 W5 e1 ((df dC).mp q1))⟩
def x8(ha:B3 X a tA)(hb:W3 X (.BoolOp .Or (b::rest) pos) tB):W3 X (.BoolOp .Or (a::b::rest) pos) (WO tA tB):=PW.mono (TC ha hb) λσ H Q' zz=>x7 zz λδ M Q hs hm ht k=>
 ⟨δ,M,_,hs,hm,ht,λc H1 M1 W5 e1 q1=>by
  cases c with
  | true=>exact(dh rfl).mpr (k true H1 M1 W5 e1 ((dh rfl).mp q1))
  | false=>exact(df dC).mpr ⟨δ,M1,Q,hs.mono e1,W5,(df dC).mp q1,λb H' M' x1 x2 x3=>k b H' M' x1 (e1.trans x2) x3⟩⟩
def wU(ha:B3 X a tA):B3 X (.UnaryOp .Not a pos) (Us tA):=PT.mono (RL ha) λσ H Q' zz=>x7 zz λδ M Q hs hm ht k=>⟨δ,M,_,hs,hm,ht,λc H1 M1 W5 e1 q1=>k _ H1 M1 W5 e1 q1⟩
def UJ(ta tb:T3):T3:=λδ M Q=>ta δ M λd M1=>match d with|.bl c=>if c=true then tb δ M1 Q else Q (.bl false) M1|_=>False
def Wl(ta tb:T3):T3:=λδ M Q=>ta δ M λd M1=>match d with|.bl c=>if c=true then Q (.bl true) M1 else tb δ M1 Q|_=>False
def TY(ta:T3):T3:=λδ M Q=>ta δ M λd M1=>match d with|.bl c=>Q (.bl (!c)) M1|_=>False
def sU{op}(h:E3 X a ta):E3 X (.BoolOp op [a] pos) ta:=S7 h
def tE(ha:E3 X a ta)(hb:E3 X (.BoolOp .And (b::rest) pos) tb):E3 X (.BoolOp .And (a::b::rest) pos) (UJ ta tb):=PE.mono (SU ha hb) λσ H Q' zz=>x7 zz λδ M Q hs hm ht k=>
 ⟨δ,M,_,hs,hm,ht,λv H1 d M1 hd W5 e1 q1=>by
  cases d with
  | bl c=>
   refine⟨c,hd.mV,?_⟩;cases c with
   | true=>exact(dh rfl).mpr ⟨δ,M1,Q,hs.mono e1,W5,(dh rfl).mp q1,vL e1 k⟩
   | false=>exact(df dC).mpr (k _ H1 _ M1 .bl W5 e1 ((df dC).mp q1))
  | _=>exact q1.elim⟩
def Jq(ha:E3 X a ta)(hb:E3 X (.BoolOp .Or (b::rest) pos) tb):E3 X (.BoolOp .Or (a::b::rest) pos) (Wl ta tb):=PE.mono (UL ha hb) λσ H Q' zz=>x7 zz λδ M Q hs hm ht k=>
 ⟨δ,M,_,hs,hm,ht,λv H1 d M1 hd W5 e1 q1=>by
  cases d with
  | bl c=>
   refine⟨c,hd.mV,?_⟩;cases c with
   | true=>exact(dh rfl).mpr (k _ H1 _ M1 .bl W5 e1 ((dh rfl).mp q1))
   | false=>exact(df dC).mpr ⟨δ,M1,Q,hs.mono e1,W5,(df dC).mp q1,vL e1 k⟩
  | _=>exact q1.elim⟩
def SH(ha:E3 X a ta):E3 X (.UnaryOp .Not a pos) (TY ta):=PE.mono (Ss ha) λσ H Q' zz=>x7 zz λδ M Q hs hm ht k=>
 ⟨δ,M,_,hs,hm,ht,λv H1 d M1 hd W5 e1 q1=>by
  cases d with
  | bl c=>exact⟨c,hd.mV,k _ H1 _ M1 .bl W5 e1 q1⟩
  | _=>exact q1.elim⟩
def WY(t:AH)(ta tb:T3):T3:=λδ M Q=>t δ M λc M1=>if c=true then ta δ M1 Q else tb δ M1 Q
def L'(hc:B3 X c tA)(ha:E3 X a ta)(hb:E3 X b tb):E3 X (.IfExp c a b pos) (WY tA ta tb):=PE.mono (NF hc ha hb) λσ H Q' zz=>x7 zz λδ M Q hs hm ht k=>
 ⟨δ,M,_,hs,hm,ht,λc H1 M1 W5 e1 q1=>by
  cases c with
  | true=>exact(dh rfl).mpr ⟨δ,M1,Q,hs.mono e1,W5,(dh rfl).mp q1,vL e1 k⟩
  | false=>exact(df dC).mpr ⟨δ,M1,Q,hs.mono e1,W5,(df dC).mp q1,vL e1 k⟩⟩
def Wp(x y:D)(M:Mp)(Q:DK):Prop:=match x,y with
 | .tup ds,.int i=>(wC ds i).elim False λd=>Q d M
 | .ref a,.int i=>(pf M a).elim False λds=>(wC ds i).elim False λd=>Q d M
 | .rl ds,.int i=>(wC ds i).elim False λd=>Q d M
 | .str z,.int i=>z.length<=sizeLine/\(wC z.cps.toList i).elim False λc=>Q (.str ⟨#[c]⟩) M
 | _,_=>False
def i3(ta tb:T3):T3:=λδ M Q=>ta δ M λx M1=>tb δ M1 λy M2=>Wp x y M2 Q
def Es{K:qw}{H:Hp}{ds:List D}{xs:List V}{i:Int}{d:D}(h:qu K H ds xs)(e:wC ds i=some d):∃v,wC xs i=some v/\rV K H d v:=by
 unfold wC at e ⊢;rw[<-h.length];cases q:GP ds.length i with
 | none=>rw[q]at e;cases e
 | some j=>rw[q]at e;exact h.get e
def WN:Te X (R3 X.K Wp):=by
 intro value Xf W2 s σ H vx vy v u Q' I rx ry h hs;obtain⟨x,y,M,Q,hx,hy,hm,q,k⟩:=h;unfold Wp at q;split at q
 .obtain⟨d,e,q⟩:=qX q;obtain⟨p,xs,rfl,h1,h2⟩:=hx.mY;cases hy.int_inv;obtain⟨w,e1,e2⟩:=Es h2 e;exact So value Xf W2 s σ H _ _ v u Q' I rx ry ⟨p,xs,_,w,rfl,rfl,h1,e1,k _ _ _ _ e2 hm .refl q⟩ hs
 .obtain⟨ds,e0,q⟩:=qX q;obtain⟨d,e,q⟩:=qX q;cases hx.mR;cases hy.int_inv;obtain⟨xs,h1,h2,_⟩:=qy hm e0;obtain⟨w,e1,e2⟩:=Es h2 e;exact Iz value Xf W2 s σ H _ _ v u Q' I rx ry ⟨_,xs,_,w,rfl,rfl,h1,e1,k _ _ _ _ e2 hm .refl q⟩ hs
 .obtain⟨d,e,q⟩:=qX q;obtain⟨p,xs,rfl,h1,h2⟩:=hx.nv;cases hy.int_inv;obtain⟨w,e1,e2⟩:=Es h2 e;exact Iz value Xf W2 s σ H _ _ v u Q' I rx ry ⟨p,xs,_,w,rfl,rfl,h1.sq,e1,k _ _ _ _ e2 hm .refl q⟩ hs
 .obtain⟨q1,q⟩:=q;obtain⟨c,e,q⟩:=qX q;cases hx.str_inv;cases hy.int_inv;exact RS value Xf W2 s σ H _ _ v u Q' I rx ry ⟨_,_,c,rfl,rfl,q1,e,k _ _ _ _ .str hm .refl q⟩ hs
 .exact q.elim
def pQ(ha:E3 X a ta)(hb:E3 X b tb)(hs:Bs b:=by exact λ_ _=>rfl):E3 X (.Subscript a b pos) (i3 ta tb):=PE.mono (Ml WN ha hb hs) HJ
def tZ(ds:List D)(lo hi:Option Int):List D:=(ds.drop (HT.tj ds.length 0 lo)).take (HT.tj ds.length ds.length hi - HT.tj ds.length 0 lo)
def Fp{K:qw}{H:Hp}{ds:List D}{xs:List V}{l h:Option Int}(q:qu K H ds xs):qu K H (tZ ds l h) (Bw xs l h):=by unfold tZ Bw;rw[q.length];exact(q.drop _).take _
abbrev Tg:=vg->Mp->(Option Int->Mp->Prop)->Prop
def WX(K:qw)(t:Tg):TO:=λσ H Q'=>CT λδ M Q=>yX K H σ δ/\HM K H M/\t δ M Q/\∀o H' M',HM K H' M'->qS K H H'->Q o M'->Q' o H'
def O3(X:Cx)(e:Option Expr)(t:Tg):Prop:=PO X e (WX X.K t)
def Pe:Tg:=λ_ M Q=>Q none M
def UG(t:T3):Tg:=λδ M Q=>t δ M λd M1=>match d with|.int i=>Q (some i) M1|_=>False
def PO.mono{X:Cx}{e:Option Expr}{t t':TO}(h:PO X e t)(m:∀σ H Q,t' σ H Q->t σ H Q):PO X e t':=λW2 s σ H Q I q=>h W2 s σ H Q I (m σ H Q q)
def sS:O3 X none Pe:=PO.mono PP λσ H Q' zz=>x7 zz λδ M Q hs hm ht k=>k none H M hm .refl ht
def sD{e:Expr}{t:T3}(h:E3 X e t):O3 X (some e) (UG t):=PO.mono (On h) λσ H Q' zz=>x7 zz λδ M Q hs hm ht k=>
 ⟨δ,M,_,hs,hm,ht,λv H1 d M1 hd W5 e1 q1=>by
  cases d with
  | int i=>exact⟨i,hd.int_inv,k (some i) H1 M1 W5 e1 q1⟩
  | _=>exact q1.elim⟩
def WB(x:D)(lo hi:Option Int)(M:Mp)(Q:DK):Prop:=match x with
 | .tup ds=>Q (.tup (tZ ds lo hi)) M
 | .ref a=>(pf M a).elim False λds=>∀p,M p=none->Q (.ref p) (pL M p (.lst (tZ ds lo hi)))
 | .rl ds=>∀p,M p=none->Q (.ref p) (pL M p (.lst (tZ ds lo hi)))
 | _=>False
def s3(te:T3)(tl th:Tg):T3:=λδ M Q=>te δ M λx M1=>tl δ M1 λl M2=>th δ M2 λu M3=>WB x l u M3 Q
def VC(K:qw):V->Option Int->Option Int->Hp->VK->Prop:=λvx l u H Q'=>CT λx M Q=>rV K H x vx/\HM K H M/\WB x l u M Q/\Up K H Q' Q
def Qe{ds:List D}{lo hi:Option Int}(h:HT.tj ds.length 0 lo=0/\HT.tj ds.length ds.length hi=ds.length):tZ ds lo hi=ds:=by unfold tZ;rw[h.1,h.2,jo,lq,fu]
def VD:Uz X (VC X.K):=by
 intro W2 s σ H vx v vl vu l u sl Q' I rx Y3 pl pu h;obtain⟨x,M,Q,hx,hm,q,k⟩:=h;cases x with
 | tup ds=>
  have q2:Q (.tup (tZ ds l u)) M:=q;obtain⟨a,xs,rfl,h1,h2⟩:=hx.mY;by_cases q1:HT.tj ds.length 0 l=0/\HT.tj ds.length ds.length u=ds.length
  .rw[Qe q1]at q2;exact Rr W2 s σ H _ v vl vu l u sl Q' I rx Y3 pl pu ⟨a,xs,rfl,h1,by rw[<-h2.length];exact q1,k _ _ _ _ hx hm .refl q2⟩
  refine RJ W2 s σ H _ v vl vu l u sl Q' I rx Y3 pl pu ⟨a,xs,rfl,h1,by rw[<-h2.length];exact q1,λp hp=>?_⟩;have e:qS X.K H (upd H p (.tup (Bw xs l u))):=.new hp;exact k _ _ _ _ (.tup (.of qp) ((Fp h2).mono e)) (hm.add hp) e q2
 | ref a=>obtain⟨ds,e0,q⟩:=qX q;cases hx.mR;obtain⟨xs,h1,h2,_⟩:=qy hm e0;refine IA W2 s σ H _ v vl vu l u sl Q' I rx Y3 pl pu ⟨a,xs,rfl,h1,λp hp=>?_⟩;have e:qS X.K H (upd H p (.lst (Bw xs l u))):=.new hp;exact k _ _ _ _ .ref (hm.new (c:=.lst (tZ ds l u)) hp ⟨_,qp,(Fp h2).mono e⟩) e (q p (hm.fresh hp))
 | rl ds=>obtain⟨a,xs,rfl,h1,h2⟩:=hx.nv;refine IA W2 s σ H _ v vl vu l u sl Q' I rx Y3 pl pu ⟨a,xs,rfl,h1.sq,λp hp=>?_⟩;have e:qS X.K H (upd H p (.lst (Bw xs l u))):=.new hp;exact k _ _ _ _ .ref (hm.new (c:=.lst (tZ ds l u)) hp ⟨_,qp,(Fp h2).mono e⟩) e (q p (hm.fresh hp))
 | _=>exact q.elim
def rW{e:Expr}{te:T3}{lo hi:Option Expr}{tl th:Tg}{p2:Pos}(he:E3 X e te)(hl:O3 X lo tl)(hu:O3 X hi th):E3 X (.Subscript e (.Slice lo hi none p2) pos) (s3 te tl th):=PE.mono (K8 VD he hl hu) λσ H Q' zz=>x7 zz λδ M Q hs hm ht k=>⟨δ,M,_,hs,hm,ht,λv H1 x M1 hx W5 e1 q1=>⟨δ,M1,_,hs.mono e1,W5,q1,λl H2 M2 Xk e2 q2=>⟨δ,M2,_,hs.mono (e1.trans e2),Xk,q2,λu H3 M3 X2 e3 q3=>⟨x,M3,Q,hx.mono (e2.trans e3),X2,q3,vL (e1.trans (e2.trans e3)) k⟩⟩⟩⟩
def xC:xA:=λ_ M Q=>Q [] M
def vw(ta:T3)(tr:xA):xA:=λδ M Q=>ta δ M λx M1=>tr δ M1 λxs M2=>Q (x::xs) M2
def sG:A3 X [] xC:=PA.mono Sv λσ H Q' zz=>x7 zz λδ M Q hs hm ht k=>k [] H [] M .nil hm .refl ht
def qg{e:Expr}{es:List Expr}{te:T3}{t:xA}(ha:E3 X e te)(hr:A3 X es t)(hs:Bj X e es:=by rfl):A3 X (e::es) (vw te t):=PA.mono (Ot ha hr hs) λσ H Q' zz=>x7 zz λδ M Q hs hm ht k=>⟨δ,M,_,hs,hm,ht,λv H1 x M1 hx W5 e1 q1=>⟨δ,M1,_,hs.mono e1,W5,q1,λvs H2 xs M2 Z5 Xk e2 q2=>k _ H2 _ M2 (.cons (hx.mono e2) Z5) Xk (e1.trans e2) q2⟩⟩
def Wc(t:xA):T3:=λδ M Q=>t δ M λds M1=>ds.length<=sizeLine/\Q (.tup ds) M1
def UA(t:xA):T3:=λδ M Q=>t δ M λds M1=>ds.length<=sizeLine/\∀p,M1 p=none->Q (.ref p) (pL M1 p (.lst ds))
def pS{x1}{es:List Expr}{t:xA}(h:A3 X es t):E3 X (.Tuple es x1 pos) (Wc t):=PE.mono (Sg h) λσ H Q' zz=>x7 zz λδ M Q hs hm ht k=>
 ⟨δ,M,_,hs,hm,ht,λvs H1 ds M1 Yj W5 e1 q1=>⟨by rw[<-Yj.length];exact q1.1,λp hp=>by
  have e:qS X.K H1 (upd H1 p (.tup vs)):=.new hp;exact k _ _ _ M1 (.tup (.of qp) (Yj.mono e)) (W5.add hp) (e1.trans e) q1.2⟩⟩
def qP{es:List Expr}{t:xA}(h:A3 X es t):E3 X (.List es pos) (UA t):=PE.mono (Ro h) λσ H Q' zz=>x7 zz λδ M Q hs hm ht k=>
 ⟨δ,M,_,hs,hm,ht,λvs H1 ds M1 Yj W5 e1 q1=>⟨by rw[<-Yj.length];exact q1.1,λp hp=>by
  have e:qS X.K H1 (upd H1 p (.lst vs)):=.new hp;exact k _ _ _ _ .ref (W5.new (c:=.lst ds) hp ⟨_,qp,Yj.mono e⟩) (e1.trans e) (q1.2 p (W5.fresh hp))⟩⟩
def uF(t u:xq):xq:=λD δ M=>t {D with nx:=u D} δ M
def Vs:xq:=λD δ M=>D.nx δ M
def pP:Hn X [] Vs:=Cn.mono Pu λD' σ H zz=>J3 zz λδ M D hs hm ht k1 k2 k3 k4=>k1 σ H δ M hs hm .refl rfl ht
def pC{st:Stmt}{rest:List Stmt}{t u:xq}(h1:S3 X st t)(h2:Hn X rest u):Hn X (st::rest) (uF t u):=Cn.mono (Mh h1 h2) λD' σ H zz=>J3 zz λδ M D hs hm ht k1 k2 k3 k4=>
 ⟨δ,M,{D with nx:=u D},hs,hm,ht,λσ1 H1 δ1 M1 Z6 W5 e1 l1 q1=>⟨δ1,M1,D,Z6,W5,q1,λσ' H' δ' M' x1 x2 x3 x4 x5=>k1 σ' H' δ' M' x1 x2 (e1.trans x3) (x4.trans l1) x5,λv H' d M' x1 x2 x3 x4=>k2 v H' d M' x1 x2 (e1.trans x3) x4,λσ' H' δ' M' x1 x2 x3 x4 x5=>k3 σ' H' δ' M' x1 x2 (e1.trans x3) (x4.trans l1) x5,λσ' H' δ' M' x1 x2 x3 x4 x5=>k4 σ' H' δ' M' x1 x2 (e1.trans x3) (x4.trans l1) x5⟩,k2,k3,k4⟩
def pE{st:Stmt}{t:xq}(h1:S3 X st t):Hn X [st] t:=Cn.mono (EK h1) λD' σ H h=>h
def Wk:xq:=λD δ M=>D.ct δ M
def GZ:S3 X (.Continue pos) Wk:=PS.mono Gx λD' σ H zz=>J3 zz λδ M D hs hm ht k1 k2 k3 k4=>k4 σ H δ M hs hm .refl rfl ht
def Tu(te:T3):xq:=λD δ M=>te δ M λ_ M1=>D.nx δ M1
def pU{e:Expr}{te:T3}(he:E3 X e te)(Yw:swapsWith e none pos.line X.env=pure false:=by rfl):S3 X (.Expr e pos) (Tu te):=PS.mono (PX he Yw) λD' σ H zz=>J3 zz λδ M D hs hm ht k1 k2 k3 k4=>⟨δ,M,_,hs,hm,ht,λv H1 d M1 hd W5 e1 q1=>k1 σ H1 δ M1 (hs.mono e1) W5 e1 rfl q1⟩
def Q2(te:T3):xq:=λD δ M=>te δ M D.rt
def pJ{e:Expr}{te:T3}(he:E3 X e te):S3 X (.Return (some e) pos) (Q2 te):=PS.mono (RD he) λD' σ H zz=>J3 zz λδ M D hs hm ht k1 k2 k3 k4=>⟨δ,M,_,hs,hm,ht,λv H1 d M1 hd W5 e1 q1=>k2 v H1 d M1 hd W5 e1 q1⟩
def Rc(c:AH)(t u:xq):xq:=λD δ M=>c δ M λb M1=>if b=true then t D δ M1 else u D δ M1
def pV{c:Expr}{as bs:List Stmt}{tc:AH}{t u:xq}(hc:B3 X c tc)(ha:Hn X as t)(hb:Hn X bs u):S3 X (.If c as bs pos) (Rc tc t u):=PS.mono (Ur hc ha hb) λD' σ H zz=>J3 zz λδ M D hs hm ht k1 k2 k3 k4=>
 ⟨δ,M,_,hs,hm,ht,λb H1 M1 W5 e1 q1=>by
  have up:∀t:xq,t D δ M1->Vn X.K t D' σ H1:=λt q=>⟨δ,M1,D,hs.mono e1,W5,q,λσ' H' δ' M' x1 x2 x3 x4 x5=>k1 σ' H' δ' M' x1 x2 (e1.trans x3) x4 x5,λv H' d M' x1 x2 x3 x4=>k2 v H' d M' x1 x2 (e1.trans x3) x4,λσ' H' δ' M' x1 x2 x3 x4 x5=>k3 σ' H' δ' M' x1 x2 (e1.trans x3) x4 x5,λσ' H' δ' M' x1 x2 x3 x4 x5=>k4 σ' H' δ' M' x1 x2 (e1.trans x3) x4 x5⟩
  cases b with
  | true=>exact(dh rfl).mpr (up t ((dh rfl).mp q1))
  | false=>exact(df dC).mpr (up u ((df dC).mp q1))⟩
def Q5:xq:=λ_ _ _=>False
def Gw{st:Stmt}:S3 X st Q5:=PS.mono MU λD' σ H ⟨δ,M,D,hs,hm,ht,_⟩=>ht
abbrev Dd:=D->vg->Mp->(vg->Mp->Prop)->Prop
def Vj(K:qw)(g:Dd):TG:=λv σ H Q'=>BU λd δ M Q=>rV K H d v/\yX K H σ δ/\HM K H M/\g d δ M Q/\∀σ' H' δ' M',yX K H' σ' δ'->HM K H' M'->qS K H H'->σ'.length=σ.length->Q δ' M'->Q' σ' H'
def G3(X:Cx)(e:Expr)(g:Dd):Prop:=PG X e (Vj X.K g)
def PG.nY{X:Cx}{e:Expr}{t t':TG}(h:PG X e t)(m:∀v σ H Q,σ.length=X.N.length->t' v σ H Q->t v σ H Q):PG X e t':=λW2 s σ H v u Q I r q=>h W2 s σ H v u Q I r (m v σ H Q I.len q)
def tD(i:Nat):Dd:=λd δ M Q=>Q (δ.set i (some d)) M
def Js{i:Nat}{x:Str}(hN:X.N.Nodup)(hi:X.N[i]?=some x)(hx:KR X.env.scope x)(hf:KQ X x:=by first|exact .inl rfl|exact .inr rfl|assumption):G3 X (.Name x pos) (tD i):=
 PG.nY (Ou hN hi hx hf) λv σ H Q' hl ⟨d,δ,M,Q,hd,hs,hm,ht,k⟩=>k _ H _ M (hs.set hd (by rw[hl];exact(c9.mp hi).1)) hm .refl (by simp) ht
abbrev Ds:=List D->vg->Mp->(vg->Mp->Prop)->Prop
def Vu(K:qw)(g:Ds):OB:=λvs σ H Q'=>BU λds δ M Q=>qu K H ds vs/\yX K H σ δ/\HM K H M/\g ds δ M Q/\∀σ' H' δ' M',yX K H' σ' δ'->HM K H' M'->qS K H H'->σ'.length=σ.length->Q δ' M'->Q' σ' H'
def Ub(X:Cx)(es:List Expr)(g:Ds):Prop:=NW X es (Vu X.K g)
def NW.mono{X:Cx}{e:List Expr}{t t':OB}(h:NW X e t)(m:∀v σ H Q,t' v σ H Q->t v σ H Q):NW X e t':=λW2 s σ H v u Q I r q=>h W2 s σ H v u Q I r (m v σ H Q q)
def PG.mono{X:Cx}{e:Expr}{t t':TG}(h:PG X e t)(m:∀v σ H Q,t' v σ H Q->t v σ H Q):PG X e t':=λW2 s σ H v u Q I r q=>h W2 s σ H v u Q I r (m v σ H Q q)
def G7:Ds:=λds δ M Q=>match ds with|[]=>Q δ M|_=>False
def zS(t:Dd)(u:Ds):Ds:=λds δ M Q=>match ds with|d::r=>t d δ M λδ' M'=>u r δ' M' Q|[]=>False
def ub:Ub X [] G7:=NW.mono OK λvs σ H Q' ⟨ds,δ,M,Q,hd,hs,hm,ht,k⟩=>by
 cases ds with
 | nil=>exact⟨hd.nil_inv,k σ H δ M hs hm .refl rfl ht⟩
 | cons _ _=>exact ht.elim
def qF{e:Expr}{es:List Expr}{t:Dd}{u:Ds}(h1:G3 X e t)(h2:Ub X es u)(hs:(assignEach (e::es) X.env).map (·.2)=assign e X.env::(assignEach es X.env).map (·.2):=by rfl):Ub X (e::es) (zS t u):=
 NW.mono (NO h1 h2 hs) λvs σ H Q' ⟨ds,δ,M,Q,hd,hs,hm,ht,k⟩=>by
 cases ds with
 | nil=>exact ht.elim
 | cons d r=>obtain⟨x,xr,rfl,hx,hr⟩:=hd.inv;exact⟨x,xr,rfl,d,δ,M,_,hx,hs,hm,ht,λσ1 H1 δ1 M1 Z6 W5 e1 l1 q1=>⟨r,δ1,M1,Q,hr.mono e1,Z6,W5,q1,λσ' H' δ' M' x1 x2 x3 x4 x5=>k σ' H' δ' M' x1 x2 (e1.trans x3) (x4.trans l1) x5⟩⟩
def QC(n:Nat)(t:Ds):Dd:=λd δ M Q=>match d with|.tup ds=>ds.length=n/\t ds δ M Q|_=>False
def vi{es:List Expr}{k:Nat}{t:Ds}{n:Nat}(hc:X.calm=true)(h:Ub X es t)(hn:(assignEach es X.env).length=n:=by rfl)(Xp:(assignEach es X.env).findIdx? (·.1)=none:=by rfl):G3 X (.Tuple es k pos) (QC n t):=
 PG.mono (RG hc h hn Xp) λv σ H Q' ⟨d,δ,M,Q,hd,hs,hm,ht,k⟩=>by
 cases d with
 | tup ds=>obtain⟨a,xs,rfl,h1,h2⟩:=hd.mY;exact⟨a,xs,rfl,h1,by rw[<-h2.length];exact ht.1,ds,δ,M,Q,h2,hs,hm,ht.2,k⟩
 | _=>exact ht.elim
def Gm(te:T3)(g:Dd):xq:=λD δ M=>te δ M λx M1=>g x δ M1 D.nx
def Hk{tg e:Expr}{te:T3}{g:Dd}(he:E3 X e te)(hg:G3 X tg g)(hs:swapsWithSole [tg] e pos.line X.env=pure false:=by rfl)(hw:swappedStores [tg] e X.env=pure none:=by rfl)
  (h1:(assignEach [tg] X.env).map (·.2)=[assign tg X.env]:=by rfl):S3 X (.Assign [tg] e pos) (Gm te g):=PS.mono (Rp he hg hs hw h1) λD' σ H zz=>J3 zz λδ M D hs hm ht k1 k2 k3 k4=>
 ⟨δ,M,_,hs,hm,ht,λv H1 d M1 hd W5 e1 q1=>⟨d,δ,M1,_,hd,hs.mono e1,W5,q1,λσ' H' δ' M' x1 x2 x3 x4 x5=>k1 σ' H' δ' M' x1 x2 (e1.trans x3) x4 x5⟩⟩
def S8{i:Nat}{x:Str}{e:Expr}{te:T3}{Xb:Pos}(hN:X.N.Nodup)(hi:X.N[i]?=some x)(hx:KR X.env.scope x)(he:E3 X e te)(Yw:swapsWith e (some (.Name x Xb)) pos.line X.env=pure false:=by rfl)
  (hf:KQ X x:=by first|exact .inl rfl|exact .inr rfl|assumption):S3 X (.Assign [.Name x Xb] e pos) (Gm te (tD i)):=PS.nY (Mj hN hi hx he Yw hf) λD' σ H hl zz=>J3 zz λδ M D hs hm ht k1 k2 k3 k4=>
 ⟨δ,M,_,hs,hm,ht,λv H1 d M1 hd W5 e1 q1=>k1 _ H1 _ M1 ((hs.mono e1).set hd (by rw[hl];exact(c9.mp hi).1)) W5 e1 (by simp) q1⟩
end
abbrev rC:=List D->Mp->DK->Prop
def NQ(K:qw)(sp:rC):Sp:=λvs H Q' _=>CT λds M Q=>qu K H ds vs/\HM K H M/\sp ds M Q/\Up K H Q' Q
def xi(N:QQQ)(ds:List D):vg:=ds.map some++List.replicate (N.length - ds.length) none
def DR{K:qw}{H:Hp}{N:QQQ}{ds:List D}{vs:List V}(h:qu K H ds vs):yX K H (L2.start N vs) (xi N ds):=λi d q=>by
 unfold xi at q;unfold L2.start;by_cases hi:i<ds.length
 .rw[fi (by simpa using hi),dF]at q;cases e:ds[i]? with
  | none=>rw[e]at q;cases q
  | some d'=>rw[e]at q;cases q;obtain⟨v,e1,e2⟩:=h.get e;refine⟨v,?_,e2⟩;rw[fi (by rw[cX,<-h.length];exact hi),dF,e1];rfl
 .rw[eZ (by simpa using hi),jX]at q;split at q<;>cases q
variable {P:Pg}{w:Wo}{mg:QQZ}{base:Heap}
abbrev Ti(P:Pg)(w:Wo)(K:qw)(mg:QQZ)(base:Heap)(k:Nat)(f:Addr)(fd:FuncData)(ps:QQQ)(sp:rC):Prop:=xo P w K mg base NR k f fd ps (NQ K sp)
variable {k:Nat}{f C:Addr}{fd:FuncData}{ps:QQQ}{sp:rC}{x m fn:Str}{p W6:Pos}{e o:Expr}{es:List Expr}{t:xA}
def Ea(sp:rC)(t:xA):T3:=λδ M Q=>t δ M λds M1=>sp ds M1 Q
def PL(F:Ti X.prog X.w X.K X.mg X.base k f fd ps sp)(hr:sj k X.A)(hg:Gl X x)(hm:X.mg x=some (.ref f))(hk:W.keepIn X.K (.ref f)=true)(hb:uS X.K fd ps [])(ha:A3 X (e::es) t) (Xn:yJ x:=by decide) (he:Bj X e es:=by rfl) (Xj:CS X pos es:=by rfl):
  E3 X (.Call (.Name x p) (e::es) [] pos) (Ea sp t):=PE.mono (O9 F hr hg hm hk hb .nil (GD (X:=X)) ha Xn he Xj) λσ H Q' zz=>x7 zz λδ M Q hs hm ht k=>
 ⟨δ,M,_,hs,hm,ht,λvs H1 ds M1 hd W5 e1 q1=>⟨ds,M1,Q,by rw[fh];exact hd,W5,q1,vL e1 k⟩⟩
def C3(X:Cx)(f:Vl)(r:rC):Prop:=zp X f λvs H Q'=>∃ds M Q,qu X.K H ds vs/\HM X.K H M/\r ds M Q/\Up X.K H Q' Q
def pY{id:String}{r:rC}(hc:C3 X (.builtin id) r)(hg:Gl X x)(hm:X.mg x=none)(hv:bootBuiltins x=some (.builtin id))(ha:A3 X (e::es) t)(hn:x≠"__name__":=by decide)(Xn:yJ x:=by decide)
  (he:Bj X e es:=by rfl) (Xj:CS X pos es:=by rfl):E3 X (.Call (.Name x p) (e::es) [] pos) (Ea r t):=
 PE.mono (K4 hc hg hm hv ha hn Xn he Xj) λσ H Q' zz=>x7 zz λδ M Q hs hm ht k=>⟨δ,M,_,hs,hm,ht,λvs H1 ds M1 hd W5 e1 q1=>⟨ds,M1,Q,hd,W5,q1,vL e1 k⟩⟩
def qa{T:String}{r:rC}(hc:C3 X (.type T) r)(hg:Gl X x)(hm:X.mg x=none)(hv:bootBuiltins x=some (.type T))(ha:A3 X (e::es) t)(hn:x≠"__name__":=by decide)(Xn:yJ x:=by decide)
  (he:Bj X e es:=by rfl) (Xj:CS X pos es:=by rfl):E3 X (.Call (.Name x p) (e::es) [] pos) (Ea r t):=
 PE.mono (J1 hc hg hm hv ha hn Xn he Xj) λσ H Q' zz=>x7 zz λδ M Q hs hm ht k=>⟨δ,M,_,hs,hm,ht,λvs H1 ds M1 hd W5 e1 q1=>⟨ds,M1,Q,hd,W5,q1,vL e1 k⟩⟩
def Uq(ds:List D)(M:Mp)(Q:DK):Prop:=match ds with
 | [.str z]=>z.length<=sizeLine/\Q (.int z.length) M
 | [.tup es]=>Q (.int es.length) M
 | [.ref a]=>(pf M a).elim False λes=>Q (.int es.length) M
 | [.rl es]=>Q (.int es.length) M
 | _=>False
def sE{K:qw}{H:Hp}{d:D}{vs:List V}(h:qu K H [d] vs):∃v,vs=[v]/\rV K H d v:=by obtain⟨x,r,rfl,a,b⟩:=h.inv;rw[b.nil_inv];exact⟨x,rfl,a⟩
def EY{K:qw}{H:Hp}{d e:D}{vs:List V}(h:qu K H [d,e] vs):∃v u,vs=[v,u]/\rV K H d v/\rV K H e u:=by obtain⟨x,r,rfl,a,b⟩:=h.inv;obtain⟨y,rfl,c⟩:=sE b;exact⟨x,y,rfl,a,c⟩
def qH:C3 X (.builtin "len") Uq:=by
 intro W2 s σ H vs us Q' I rv h;obtain⟨ds,M,Q,hd,hm,q,k⟩:=h;unfold Uq at q;split at q
 .obtain⟨v,rfl,hv⟩:=sE hd;cases hv.str_inv;exact Fu W2 s σ H _ us Q' I rv ⟨_,rfl,q.1,k _ _ _ _ .int hm .refl q.2⟩
 .obtain⟨v,rfl,hv⟩:=sE hd;obtain⟨a,xs,rfl,h1,h2⟩:=hv.mY;exact wQ W2 s σ H _ us Q' I rv ⟨a,xs,rfl,.inr h1,k _ _ _ _ (by rw[<-h2.length];exact .int) hm .refl q⟩
 .obtain⟨v,rfl,hv⟩:=sE hd;obtain⟨es,e0,q⟩:=qX q;cases hv.mR;obtain⟨xs,h1,h2,_⟩:=qy hm e0;exact wQ W2 s σ H _ us Q' I rv ⟨_,xs,rfl,.inl h1,k _ _ _ _ (by rw[<-h2.length];exact .int) hm .refl q⟩
 .obtain⟨v,rfl,hv⟩:=sE hd;obtain⟨a,xs,rfl,h1,h2⟩:=hv.nv;exact wQ W2 s σ H _ us Q' I rv ⟨a,xs,rfl,.inl h1.sq,k _ _ _ _ (by rw[<-h2.length];exact .int) hm .refl q⟩
 .exact q.elim
def Ul(ds:List D)(M:Mp)(Q:DK):Prop:=match ds with
 | [.int i,.int j]=>Q (.int (if j<i then j else i)) M
 | _=>False
def Rm(hc:X.calm=true):C3 X (.builtin "min") Ul:=by
 intro W2 s σ H vs us Q' I rv h;obtain⟨ds,M,Q,hd,hm,q,k⟩:=h;unfold Ul at q;split at q
 .obtain⟨v,u,rfl,hv,hw⟩:=EY hd;cases hv.int_inv;cases hw.int_inv;exact Kj hc W2 s σ H _ us Q' I rv ⟨_,_,rfl,k _ _ _ _ .int hm .refl q⟩
 .exact q.elim
def K3(ds:List D)(M:Mp)(Q:DK):Prop:=match ds with
 | [.tup es]=>Q (.tup es) M
 | [.ref a]=>(pf M a).elim False λes=>Q (.tup es) M
 | [.rl es]=>Q (.tup es) M
 | _=>False
def rh:C3 X (.type "tuple") K3:=by
 intro W2 s σ H vs us Q' I rv h;obtain⟨ds,M,Q,hd,hm,q,k⟩:=h;unfold K3 at q;split at q
 .obtain⟨v,rfl,hv⟩:=sE hd;obtain⟨a,xs,rfl,h1,h2⟩:=id hv.mY;exact wb W2 s σ H _ us Q' I rv ⟨a,xs,rfl,.inr ⟨h1,k _ _ _ _ hv hm .refl q⟩⟩
 .obtain⟨v,rfl,hv⟩:=sE hd;obtain⟨es,e0,q⟩:=qX q;cases hv.mR;obtain⟨xs,h1,h2,_⟩:=qy hm e0;refine wb W2 s σ H _ us Q' I rv ⟨_,xs,rfl,.inl ⟨h1,λl hl=>?_⟩⟩;have e:qS X.K H (upd H l (.tup xs)):=.new hl;exact k _ _ _ _ (.tup (.of qp) (h2.mono e)) (hm.add hl) e q
 .obtain⟨v,rfl,hv⟩:=sE hd;obtain⟨a,xs,rfl,h1,h2⟩:=hv.nv;refine wb W2 s σ H _ us Q' I rv ⟨_,xs,rfl,.inl ⟨h1.sq,λl hl=>?_⟩⟩;have e:qS X.K H (upd H l (.tup xs)):=.new hl;exact k _ _ _ _ (.tup (.of qp) (h2.mono e)) (hm.add hl) e q
 .exact q.elim
def QL(ds:List D)(M:Mp)(Q:DK):Prop:=match ds with
 | [d]=>(MD M d).elim False λes=>∀p,M p=none->Q (.ref p) (pL M p (.lst es))
 | _=>False
def ue:C3 X (.type "list") QL:=by
 intro W2 s σ H vs us Q' I rv h;obtain⟨ds,M,Q,hd,hm,q,k⟩:=h;unfold QL at q;split at q
 .obtain⟨v,rfl,hv⟩:=sE hd;obtain⟨es,e0,q⟩:=qX q;obtain⟨p,xs,rfl,h1,h2⟩:=EO hm hv e0;refine Er W2 s σ H _ us Q' I rv ⟨p,xs,rfl,h1,λl hl=>?_⟩;have e:qS X.K H (upd H l (.lst xs)):=.new hl;exact k _ _ _ _ .ref (hm.new (c:=.lst es) hl ⟨_,qp,h2.mono e⟩) e (q l (hm.fresh hl))
 .exact q.elim
theorem wH{K:qw}{H:Hp}{f:Str}:∀{fs:List (Str×D)} {vs:List (Str×V)},BS K H fs vs->(∀d,fs.lookup f=some d->∃v,vs.lookup f=some v/\rV K H d v)/\(fs.lookup f=none->vs.lookup f=none)
 | [],[],_=>⟨λd e=>by simp at e,λ_=>rfl⟩
 | [],_::_,h=>by have:=h.1;simp at this
 | _::_,[],h=>by have:=h.1;simp at this
 | (g,d)::fs,(g',v)::vs,h=>by
  have h1:g'=g/\vs.map (·.1)=fs.map (·.1):=by
   have:=h.1
   simpa using this
  obtain⟨x,r,e,a,b⟩:=h.2.inv;have e':v::vs.map (·.2)=x::r:=e;cases e';obtain⟨i1,i2⟩:=wH (f:=f) (fs:=fs) (vs:=vs) ⟨h1.2,b⟩;rw[h1.1];refine⟨λd' e=>?_,λe=>?_⟩
  .rw[eK]at e ⊢;cases q:f==g with
   | true=>rw[q]at e;cases e;exact⟨v,rfl,a⟩
   | false=>rw[q]at e;exact i1 d' e
  .rw[eK]at e ⊢;cases q:f==g with
   | true=>rw[q]at e;cases e
   | false=>rw[q]at e;exact i2 e
theorem Jb{f:Str}{d:D}:∀{fs:List (Str×D)},fs.lookup f=some d->f∈fs.map (·.1)
 | [],h=>by simp at h
 | (g,e)::r,h=>by
  rw[eK]at h;cases q:f==g with
  | true=>
   have z:f=g:=by simpa using q
   rw[z,dY];exact dU
  | false=>rw[q]at h;simp[Jb h]
def Ak(o:Option uT)(F:Addr->List (Str×D)->Prop):Prop:=match o with
 | some (.ins C fs)=>F C fs
 | _=>False
def pD{o:Option uT}{F:Addr->List (Str×D)->Prop}{C:Addr}{fs:List (Str×D)}(e:o=some (.ins C fs))(h:F C fs):Ak o F:=by rw[e];exact h
def xR{o:Option uT}{F:Addr->List (Str×D)->Prop}(h:Ak o F):∃C fs,o=some (.ins C fs)/\F C fs:=by
 unfold Ak at h;split at h
 .exact⟨_,_,rfl,h⟩
 .exact h.elim
def Wg(f:Str)(ta:T3):T3:=λδ M Q=>ta δ M λx M1=>match x with
 | .ref a=>Ak (M1 a) λ_ fs=>(fs.lookup f).elim False λd=>Q d M1
 | _=>False
def pH{f:Str}(he:E3 X o ta)(hb:attributeBase o f X.env (eval o X.env)=eval o X.env:=by rfl):E3 X (.Attribute o f pos) (Wg f ta):=PE.mono (S6 he hb) λσ H Q' zz=>x7 zz λδ M Q hs hm ht k=>
 ⟨δ,M,_,hs,hm,ht,λv H1 d M1 hd W5 e1 q1=>by
  cases d with
  | ref a=>cases hd.mR;obtain⟨C,fs,e,q1⟩:=xR q1;obtain⟨d,e2,q⟩:=qX q1;obtain⟨dx,vs,h1,cl,na,fo⟩:=W5 a _ e;obtain⟨v,e3,hv⟩:=(wH fo).1 d e2;exact⟨a,C,dx,vs,v,rfl,h1,cl,na f (Jb e2),e3,k v H1 d M1 hv W5 e1 q⟩
  | _=>exact q1.elim⟩
def vZ(f:Str)(v:D):List (Str×D)->List (Str×D)
 | []=>[(f,v)]
 | (g,u)::r=>if g=f then(g,v)::r else(g,u)::vZ f v r
theorem FP{K:qw}{H:Hp}{f:Str}{d:D}{v:V}(hv:rV K H d v):∀{fs:List (Str×D)} {vs:List (Str×V)},BS K H fs vs->BS K H (vZ f d fs) (vC f v vs)
 | [],[],_=>⟨rfl,.cons hv .nil⟩
 | [],_::_,h=>by have:=h.1;simp at this
 | _::_,[],h=>by have:=h.1;simp at this
 | (g,e)::fs,(g',u)::vs,h=>by
  have h1:g'=g/\vs.map (·.1)=fs.map (·.1):=by
   have:=h.1
   simpa using this
  obtain⟨x,r,e1,a,b⟩:=h.2.inv;have e':u::vs.map (·.2)=x::r:=e1;cases e';obtain⟨hg,ht⟩:=h1;subst hg;rw[show vZ f d ((g',e)::fs)=(if g'=f then(g',d)::fs else(g',e)::vZ f d fs)from rfl,show vC f v ((g',u)::vs)=(if g'=f then(g',v)::vs else(g',u)::vC f v vs)from rfl];by_cases q:g'=f
  .rw[dh q,dh q];exact⟨by simpa using ht,.cons hv b⟩
  .rw[df q,df q];obtain⟨i1,i2⟩:=FP hv (fs:=fs) (vs:=vs) ⟨ht,b⟩;exact⟨by simpa using i1,.cons a i2⟩
theorem BE{f:Str}{d:D}:∀{fs:List (Str×D)} {g:Str},g∈(vZ f d fs).map (·.1)->g=f\/g∈fs.map (·.1)
 | [],g,h=>.inl (by simpa [vZ]using h)
 | (k,e)::r,g,h=>by
  rw[show vZ f d ((k,e)::r)=(if k=f then(k,d)::r else(k,e)::vZ f d r)from rfl]at h;by_cases q:k=f
  .rw[dh q]at h;exact .inr (by simpa using h)
  .rw[df q]at h;rw[dY,dv]at h;rcases h with h|h
   .exact .inr (by simp[h])
   .rcases BE h with z|z
    .exact .inl z
    .exact .inr (by simp;right;simpa using z)
def U6(K:qw)(f:Str)(ta tv:T3):xq:=λD δ M=>tv δ M λy M1=>ta δ M1 λx M2=>match x with
 | .ref a=>Ak (M2 a) λC fs=>uj K C f/\fs.length<1000/\D.nx δ (pL M2 a (.ins C (vZ f y fs)))
 | _=>False
def qk{f:Str}{value:Expr}{tv:T3}{Xb:Pos}(ha:E3 X o ta)(hv:E3 X value tv)(Yw:swapsWith value (some (.Attribute o f Xb)) pos.line X.env=pure false:=by rfl):S3 X (.Assign [.Attribute o f Xb] value pos) (U6 X.K f ta tv):=
 PS.mono (Rj ha hv Yw) λD' σ H zz=>J3 zz λδ M D hs hm ht k1 k2 k3 k4=>
 ⟨δ,M,_,hs,hm,ht,λy H1 dy M1 hy W5 e1 q1=>⟨δ,M1,_,hs.mono e1,W5,q1,λv H2 d M2 hd Xk e2 q2=>by
  cases d with
  | ref a=>
   cases hd.mR;obtain⟨C,fs,e,q2⟩:=xR q2;obtain⟨na,hl,q⟩:=q2;obtain⟨dx,vs,h1,cl,nn,fo⟩:=Xk a _ e;have W9:vs.length=fs.length:=by have:=eV List.length fo.1;simpa using this
   refine⟨a,C,dx,vs,rfl,h1,cl,na,by omega,?_⟩;obtain⟨X2,e3⟩:=Xk.put (p:=a) (o:=.ins C dx (vC f y vs)) (c:=.ins C (vZ f dy fs)) e λx=>⟨dx,_,qp,cl,λg hg=>by
    rcases BE hg with z|z
    .rw[z];exact na
    .exact nn g z,FP ((hy.mono e2).mono x) (fo.mono x)⟩
   exact k1 σ _ δ _ (hs.mono (e1.trans (e2.trans e3))) X2 (e1.trans (e2.trans e3)) rfl q
  | _=>exact q2.elim⟩⟩
def QJ(C:Addr)(sp:rC)(t:xA):T3:=λδ M Q=>t δ M λds M1=>∀x,M1 x=none->sp (.ref x::ds) (pL M1 x (.ins C [])) λd M2=>d=.mW/\Q (.ref x) M2
def Ng{K:qw}{H:Hp}{M:Mp}{xa dx:Addr}(hm:HM K H M)(cl:Cls K C)(h1:H xa=none)(h2:H dx=none)(ne:dx≠xa):HM K (upd (upd H dx (.own xa)) xa (.ins C dx [])) (pL M xa (.ins C []))/\qS K H (upd (upd H dx (.own xa)) xa (.ins C dx [])):=by
 have XN:upd H dx (.own xa) xa=none:=by rw[qd (dR ne)];exact h1
 exact⟨(hm.add (p:=dx) (o:=.own xa) h2).new XN ⟨dx,[],qp,cl,λg hg=>by simp at hg,rfl,.nil⟩,qS.trans (.new h2) (.new XN)⟩
def OY(cl:Cls X.K C)(Mk':Mk X.K C f)(F:Ti X.prog X.w X.K X.mg X.base k f fd ps sp)(hr:sj (k+1) X.A)(hg:Gl X x)(hm:X.mg x=some (.ref C))(hb:uS X.K fd ps [])(ha:A3 X (e::es) t) (Xn:yJ x:=by decide) (he:Bj X e es:=by rfl) (Xj:CS X pos es:=by rfl):
  E3 X (.Call (.Name x p) (e::es) [] pos) (QJ C sp t):=PE.mono (Px Mk' F hr hg hm hb .nil (GD (X:=X)) ha Xn he Xj) λσ H Q' zz=>x7 zz λδ M Q hs hm ht k=>
 ⟨δ,M,_,hs,hm,ht,λvs H1 ds M1 hd W5 e1 q1=>λxa dx n1 n2 ne=>by
  obtain⟨Xk,e2⟩:=Ng W5 cl n1 n2 ne;refine⟨.ref xa::ds,_,_,?_,Xk,q1 xa (W5.fresh n1),λv H3 d M3 hd3 X2 e3 q3=>?_⟩
  .rw[fh];exact .cons .ref (hd.mono e2)
  .obtain⟨z,q3⟩:=q3;subst z;exact⟨hd3.mU,k _ H3 _ M3 .ref X2 (e1.trans (e2.trans e3)) q3⟩⟩
def Hi(m:Str)(R:Addr->Sp->Prop)(ta:TE)(t:TA):TE:=λσ H Q=>ta σ H λx H1=>∃a C dx fs sp,x=.ref a/\H1 a=some (.ins C dx fs)/\fs.lookup m=none/\R C sp/\t σ H1 λvs H2=>sp (x::vs) H2 Q E0
def xM(P:Pg)(w:Wo)(K:qw)(mg:QQZ)(base:Heap)(k:Nat)(m:Str)(C:Addr)(sp:Sp):Prop:=Cls K C/\∃f fd ps,vE K C m f/\xo P w K mg base NR k f fd ps sp/\uS K fd ps []
def LM{R:Addr->Sp->Prop}{ta:TE}{t:TA}{pl:Sem Bool}(he:PE X o ta)(hR:∀C sp,R C sp->xM X.prog X.w X.K X.mg X.base k m C sp)(hr:sj k X.A)(ha:PA X (e::es) t) (Xp:Bj X e es:=by rfl) (Xj:CS X pos es:=by rfl)
  (ht:eval (.Call (.Attribute o m W6) (e::es) [] pos) X.env=(do
   let ov<-eval o X.env
   standAt W6.atName
   let(f,first)<-holding [ov] (getMethod ov m pl)
   callWith pos f first (backTo pos (starEach (e::es) X.env)) (backToKw pos (keywordEach [] X.env))):=by rfl):
  PE X (.Call (.Attribute o m W6) (e::es) [] pos) (Hi m R ta t):=by
 intro W2 s σ H Q I h;refine j7 (pl:=pl) (sH (he W2 s σ H _ I h) λu s1 zz=>?_) ht;obtain⟨x,H1,I1,rx,a,C,dx,fs,sp,ex,ea,l,hRC,q⟩:=zz;obtain⟨c,f,fd,ps,hm,F,hb⟩:=hR C sp hRC;subst ex;obtain rfl:u=Value.ref a:=rx;refine BO I1 ea c hm l ?_;refine iS (first:=[.ref a]) (h₀:=X.base) I.ok.mod.oN hm.kp (sH (ha pos W2 s1 σ H1 _ I1 q) λus s2 zz=>x5 zz λvs H2 I2 r q2=>⟨I2.ny,?_⟩) Xp Xj;exact Fy (us:=.ref a::us) (vs:=.ref a::vs) F hr hb .nil (GD (X:=X)) I2 (.cons rfl r) (by rw[fh];exact q2)
def JW{R:Addr->Sp->Prop}{ta:TE}{pl:Sem Bool}(he:PE X o ta)(hR:∀C sp,R C sp->xM X.prog X.w X.K X.mg X.base k m C sp)(hr:sj k X.A) (ht:eval (.Call (.Attribute o m W6) [] [] pos) X.env=(do
   let ov<-eval o X.env
   standAt W6.atName
   let(f,first)<-holding [ov] (getMethod ov m pl)
   callWith pos f first (backTo pos (starEach [] X.env)) (backToKw pos (keywordEach [] X.env))):=by rfl):
  PE X (.Call (.Attribute o m W6) [] [] pos) (Hi m R ta UR):=by
 intro W2 s σ H Q I h;refine j7 (pl:=pl) (sH (he W2 s σ H _ I h) λu s1 zz=>?_) ht;obtain⟨x,H1,I1,rx,a,C,dx,fs,sp,ex,ea,l,hRC,q⟩:=zz;obtain⟨c,f,fd,ps,hm,F,hb⟩:=hR C sp hRC;subst ex;obtain rfl:u=Value.ref a:=rx;refine BO I1 ea c hm l ?_;exact W.callWith_K0 (first:=[.ref a]) I1.ny hm.kp (Fy (us:=[.ref a]) (vs:=[.ref a]) F hr hb .nil (GD (X:=X)) I1 (.cons rfl .nil) (by rw[fh];exact q))
def AG(m:Str)(R:Addr->rC->Prop)(ta:T3)(t:xA):T3:=λδ M Q=>ta δ M λx M1=>match x with
 | .ref a=>Ak (M1 a) λC fs=>fs.lookup m=none/\∃sp,R C sp/\t δ M1 λds M2=>sp (x::ds) M2 Q
 | _=>False
def Vv(K:qw)(R:Addr->rC->Prop):Addr->Sp->Prop:=λC sp'=>∃sp,R C sp/\sp'=NQ K sp
def IV{R:Addr->rC->Prop}:∀σ H Q',lo X.K (AG m R ta t) σ H Q'->Hi m (Vv X.K R) (lo X.K ta) (WH X.K t) σ H Q':=λσ H Q' zz=>x7 zz λδ M Q hs hm ht k=>
 ⟨δ,M,_,hs,hm,ht,λv H1 d M1 hd W5 e1 q1=>by
  cases d with
  | ref a=>cases hd.mR;obtain⟨C,fs,e,q1⟩:=xR q1;obtain⟨hn,sp,hR,q⟩:=q1;obtain⟨dx,vs,h1,cl,na,fo⟩:=W5 a _ e;exact⟨a,C,dx,vs,_,rfl,h1,(wH fo).2 hn,⟨sp,hR,rfl⟩,δ,M1,_,hs.mono e1,W5,q,λus H2 ds M2 Yj Xk e2 q2=>⟨.ref a::ds,M2,Q,.cons .ref Yj,Xk,q2,vL (e1.trans e2) k⟩⟩
  | _=>exact q1.elim⟩
def Fk{R:Addr->rC->Prop}{pl:Sem Bool}(he:E3 X o ta)(hR:∀C sp,R C sp->xM X.prog X.w X.K X.mg X.base k m C (NQ X.K sp))(hr:sj k X.A)(ha:A3 X (e::es) t) (Xp:Bj X e es:=by rfl) (Xj:CS X pos es:=by rfl)
  (ht:eval (.Call (.Attribute o m W6) (e::es) [] pos) X.env=(do
   let ov<-eval o X.env
   standAt W6.atName
   let(f,first)<-holding [ov] (getMethod ov m pl)
   callWith pos f first (backTo pos (starEach (e::es) X.env)) (backToKw pos (keywordEach [] X.env))):=by rfl):
  E3 X (.Call (.Attribute o m W6) (e::es) [] pos) (AG m R ta t):=PE.mono (LM (R:=Vv X.K R) he (λC sp' ⟨sp,h,z⟩=>by rw[z];exact hR C sp h) hr ha Xp Xj ht) IV
def B'{R:Addr->rC->Prop}{pl:Sem Bool}(he:E3 X o ta)(hR:∀C sp,R C sp->xM X.prog X.w X.K X.mg X.base k m C (NQ X.K sp))(hr:sj k X.A) (ht:eval (.Call (.Attribute o m W6) [] [] pos) X.env=(do
   let ov<-eval o X.env
   standAt W6.atName
   let(f,first)<-holding [ov] (getMethod ov m pl)
   callWith pos f first (backTo pos (starEach [] X.env)) (backToKw pos (keywordEach [] X.env))):=by rfl):
  E3 X (.Call (.Attribute o m W6) [] [] pos) (AG m R ta xC):=PE.mono (JW (R:=Vv X.K R) he (λC sp' ⟨sp,h,z⟩=>by rw[z];exact hR C sp h) hr ht) λσ H Q' h=>by
 obtain⟨δ,M,Q,hs,hm,ht,k⟩:=IV (t:=xC) σ H Q' h;refine⟨δ,M,Q,hs,hm,ht,λv H' d M' x1 x2 x3 x4=>?_⟩;obtain⟨a,C,dx,fs,sp,e1,e2,e3,e4,δ',W8,Q'',y1,y2,y3,y4⟩:=k v H' d M' x1 x2 x3 x4;exact⟨a,C,dx,fs,sp,e1,e2,e3,e4,y4 [] H' [] W8 .nil y2 .refl y3⟩
structure GN(K:qw)(H1:Hp)(J:It)(ds:List D)(ok:Mp->Prop):Prop where
 go:∀i H M,i<ds.length->HM K H M->ok M->qS K H1 H->J.go i H
 oU:∀i d H M x H',ds[i]?=some d->HM K H M->ok M->qS K H1 H->J.oU i H x H'->rV K H' d x/\HM K H' M/\qS K H H'
 stop:∀H M,HM K H M->ok M->qS K H1 H->J.stop ds.length H
abbrev NS:=vg->Mp->(List D->(Mp->Prop)->Mp->Prop)->Prop
def WC(K:qw)(wi:NS):TI:=λσ H R'=>CT λδ M R=>yX K H σ δ/\HM K H M/\wi δ M R/\∀J H1 ds ok M1,GN K H1 J ds ok->HM K H1 M1->qS K H H1->ok M1->R ds ok M1->R' J H1
def I3(X:Cx)(tg iter:Expr)(wi:NS):Prop:=PI X tg iter (WC X.K wi)
def PI.mono{X:Cx}{tg e:Expr}{t t':TI}(h:PI X tg e t)(m:∀σ H Q,t' σ H Q->t σ H Q):PI X tg e t':=λW2 s σ H Q I q=>h W2 s σ H Q I (m σ H Q q)
variable {H1:Hp}
def Lv{a:Addr}{ds:List D}:GN K H1 (Vd K a) ds (λM=>pf M a=some ds) where
 go:=λi H M hi hm ok _=>by obtain⟨xs,h1,h2,_⟩:=qy hm ok;obtain⟨x,e,_⟩:=h2.get (cZ hi);exact⟨xs,x,h1,e⟩
 oU:=λi d H M x H' hd hm ok _ y=>by obtain⟨xs,h1,h2,_⟩:=qy hm ok;obtain⟨e,y⟩:=y;subst e;obtain⟨x',e,hx⟩:=h2.get hd;have:=y xs h1;rw[e]at this;cases this;exact⟨hx,hm,.refl⟩
 stop:=λH M hm ok _=>by obtain⟨xs,h1,h2,_⟩:=qy hm ok;exact⟨xs,h1,by rw[h2.length];exact dz _⟩
def OC{a:Addr}{ds:List D}{xs:List V}(h1:ve K H1 a xs)(h2:qu K H1 ds xs):GN K H1 (VJ K a) ds (λ_=>True) where
 go:=λi H M hi hm ok e1=>by obtain⟨x,e,_⟩:=h2.get (cZ hi);exact⟨xs,x,e1.t _ _ h1,e⟩
 oU:=λi d H M x H' hd hm ok e1 y=>by obtain⟨e,y⟩:=y;subst e;obtain⟨x',e,hx⟩:=h2.get hd;have:=y xs (e1.t _ _ h1);rw[e]at this;cases this;exact⟨hx.mono e1,hm,.refl⟩
 stop:=λH M hm ok e1=>⟨xs,e1.t _ _ h1,by rw[h2.length];exact dz _⟩
def Rn{a:Addr}{ds:List D}{xs:List V}(h1:Qt K H1 a xs)(h2:qu K H1 ds xs):GN K H1 (Vd K a) ds (λ_=>True) where
 go:=λi H M hi hm ok e1=>by obtain⟨x,e,_⟩:=h2.get (cZ hi);exact⟨xs,x,(h1.mono e1).sq,e⟩
 oU:=λi d H M x H' hd hm ok e1 y=>by obtain⟨e,y⟩:=y;subst e;obtain⟨x',e,hx⟩:=h2.get hd;have:=y xs (h1.mono e1).sq;rw[e]at this;cases this;exact⟨hx.mono e1,hm,.refl⟩
 stop:=λH M hm ok e1=>⟨xs,(h1.mono e1).sq,by rw[h2.length];exact dz _⟩
def Kp{n:Nat}{lo:Int}:GN K H1 (Va lo n) ((List.range n).map λi=>D.int (lo+(i:Nat))) (λ_=>True) where
 go:=λi H M hi hm ok e1=>by
  have z:i<n:=by simpa using hi
  exact z
 oU:=λi d H M x H' hd hm ok e1 y=>by
  obtain⟨e,y⟩:=y;subst e;subst y;have hi:i<n:=by
   have:=(c9.mp hd).1
   simpa using this
  have hd':d=D.int (lo+(i:Nat)):=by rw[dF,kO hi]at hd;exact(dw hd).symm
  subst hd';exact⟨.int,hm,.refl⟩
 stop:=λH M hm ok e1=>by show n<=_;simp
variable {scope:Scope}{ix:List (Option Nat)}{N':QQQ}{iter XX:Expr}{XE:List Expr}{wi:NS}{g:Dd}{tt:AH}{te:T3}{tg:Expr}
def UB(t:T3):NS:=λδ M R=>t δ M λx M1=>match x with
 | .tup ds=>R ds (λ_=>True) M1
 | .ref a=>(pf M1 a).elim False λds=>R ds (λM=>pf M a=some ds) M1
 | .rl ds=>R ds (λ_=>True) M1
 | .str z=>R (z.cps.toList.map λc=>D.str ⟨#[c]⟩) (λ_=>True) M1
 | _=>False
def P4{K:qw}{H1:Hp}{z:Str}:GN K H1 (VF z) (z.cps.toList.map λc=>D.str ⟨#[c]⟩) (λ_=>True) where
 go:=λi H M hi hm ok _=>by
  show i<z.cps.size
  simpa using hi
 oU:=λi d H M x H' hd hm ok _ y=>by obtain⟨e,c,e1,e2⟩:=y;subst e e2;rw[dF,Array.getElem?_toList,e1]at hd;cases hd;exact⟨.str,hm,.refl⟩
 stop:=λH M hm ok _=>by show _=z.cps.size;simp
def qI{l:Expr}{t:T3}(h:E3 X l t)(hc:X.calm=true:=by rfl):I3 X tg l (UB t):=PI.mono (Ph hc h) λσ H R' zz=>x7 zz λδ M R hs hm ht k=>
 ⟨δ,M,_,hs,hm,ht,λv H1 d M1 hd W5 e1 q1=>by
  cases d with
  | tup ds=>obtain⟨a,xs,rfl,h1,h2⟩:=hd.mY;exact .inl ⟨a,rfl,.inr ⟨⟨xs,h1⟩,k _ H1 ds _ M1 (OC h1 h2) W5 e1 trivial q1⟩⟩
  | ref a=>cases hd.mR;obtain⟨ds,e0,q⟩:=qX q1;obtain⟨xs,h1,h2,_⟩:=qy W5 e0;exact .inl ⟨a,rfl,.inl ⟨⟨xs,h1⟩,k _ H1 ds _ M1 Lv W5 e1 e0 q⟩⟩
  | str z=>exact .inr ⟨z,hd.str_inv,k _ H1 _ _ M1 P4 W5 e1 trivial q1⟩
  | rl ds=>obtain⟨a,xs,rfl,h1,h2⟩:=hd.nv;exact .inl ⟨a,rfl,.inl ⟨⟨xs,h1.sq⟩,k _ H1 ds _ M1 (Rn h1 h2) W5 e1 trivial q1⟩⟩
  | _=>exact q1.elim⟩
def TZ(t:xA):NS:=λδ M R=>t δ M λds M1=>match ds with
 | [.int j]=>(-(2 ^ 62)<=j/\j<2 ^ 62)/\R ((List.range j.toNat).map λi=>D.int (0+(i:Nat))) (λ_=>True) M1
 | [.int i,.int j]=>(-(2 ^ 62)<=i/\i<2 ^ 62/\-(2 ^ 62)<=j/\j<2 ^ 62)/\R ((List.range (j - i).toNat).map λn=>D.int (i+(n:Nat))) (λ_=>True) M1
 | _=>False
def wu{a:Expr}{ta:xA}(hg:Gl X "range")(hm:X.mg "range"=none)(ha:A3 X [a] ta)(hs:starEach [a] X.env=[(false,eval a X.env)]:=by rfl):I3 X tg (.Call (.Name "range" p) [a] [] pos) (TZ λδ M Q=>ta δ M λds M1=>ds.length=1/\Q ds M1):=
 PI.mono (KA hg hm ha hs) λσ H R' zz=>x7 zz λδ M R hs hm ht k=>⟨δ,M,_,hs,hm,ht,λvs H1 ds M1 hd W5 e1 q1=>by
  obtain⟨hl,q1⟩:=q1;split at q1
  .obtain⟨v,rfl,hv⟩:=sE hd;cases hv.int_inv;exact⟨_,rfl,q1.1.1,q1.1.2,k _ H1 _ _ M1 Kp W5 e1 trivial q1.2⟩
  .simp at hl
  .exact q1.elim⟩
def E6(g:Dd)(tb:xq)(ok:Mp->Prop)(E:F4):List D->vg->Mp->Prop
 | [],δ,M=>E.nx δ M
 | d::r,δ,M=>g d δ M λδ2 M2=>tb {E with nx:=λδ' M'=>ok M'/\E6 g tb ok E r δ' M',ct:=λδ' M'=>ok M'/\E6 g tb ok E r δ' M',bk:=E.nx} δ2 M2
def Q7(wi:NS)(g:Dd)(tb:xq):xq:=λE δ M=>wi δ M λds ok M1=>E6 g tb ok E ds δ M1
def uN{iter:Expr}{body:List Stmt}{wi:NS}{g:Dd}{tb:xq}(hp:PassesOwn (model X.prog X.w) X.A X.env X.xe)(hc:X.calm=true)(hi:I3 X tg iter wi)(hg:G3 X tg g)(hb:Hn X body tb) (hs:∀x,foldedSetIterable iter X.env x=pure x:=by intro _;rfl):S3 X (.For tg iter body [] pos) (Q7 wi g tb):=PS.mono (Si hp hc hi hg hb hs) λD' σ H zz=>J3 zz λδ M E hs hm ht k1 k2 k3 k4=>
 ⟨δ,M,_,hs,hm,ht,λJ H1 ds ok M1 S W5 e1 ok1 q1=>by
  refine⟨λi m σ' H'=>m=ds.length - i/\i<=ds.length/\∃δ' M',yX X.K H' σ' δ'/\HM X.K H' M'/\ok M'/\qS X.K H1 H'/\σ'.length=σ.length/\E6 g tb ok E (ds.drop i) δ' M',⟨ds.length,by simp,eP _,δ,M1,hs.mono e1,W5,ok1,.refl,rfl,by simpa using q1⟩,?_⟩
  rintro i m σ' H' ⟨rfl,hi,δ',M',ZA,Yx,Z7,e',l',q'⟩
  by_cases Xe:i<ds.length
  .rw[gN Xe]at q';refine .inr ⟨S.go i H' M' Xe Yx Z7 e',λσ2 H2=>∃δ2 M2,yX X.K H2 σ2 δ2/\HM X.K H2 M2/\ok M2/\qS X.K H1 H2/\σ2.length=σ.length/\E6 g tb ok E (ds.drop (i+1)) δ2 M2,λσ2 H2 z=>⟨ds.length - (i+1),by omega,rfl,Xe,z⟩,λx H2 y=>?_⟩;obtain⟨hx,Xk,e2⟩:=S.oU i ds[i] H' M' x H2 (cZ Xe) Yx Z7 e' y;refine⟨ds[i],δ',M',_,hx,ZA.mono e2,Xk,q',λσ3 H3 δ3 M3 x1 x2 x3 x4 x5=>?_⟩;refine⟨δ3,M3,_,x1,x2,x5,λσ4 H4 δ4 M4 y1 y2 y3 y4 y5=>?_,λv H4 d M4 y1 y2 y3 y4=>?_,λσ4 H4 δ4 M4 y1 y2 y3 y4 y5=>?_,λσ4 H4 δ4 M4 y1 y2 y3 y4 y5=>?_⟩
   .exact⟨δ4,M4,y1,y2,y5.1,e'.trans (e2.trans (x3.trans y3)),by rw[y4,x4,l'],y5.2⟩
   .exact k2 v H4 d M4 y1 y2 (e1.trans (e'.trans (e2.trans (x3.trans y3)))) y4
   .exact k1 σ4 H4 δ4 M4 y1 y2 (e1.trans (e'.trans (e2.trans (x3.trans y3)))) (by rw[y4,x4,l']) y5
   .exact⟨δ4,M4,y1,y2,y5.1,e'.trans (e2.trans (x3.trans y3)),by rw[y4,x4,l'],y5.2⟩
  .have e:i=ds.length:=by omega
   subst e;rw[jS]at q';exact .inl ⟨S.stop H' M' Yx Z7 e',k1 σ' H' δ' M' ZA Yx (e1.trans e') l' q'⟩⟩
def Qg(ix:List (Option Nat))(δ:vg):vg:=ix.map λo=>o.bind λi=>(δ[i]?).join
def PH{K:qw}{H:Hp}{σ:St}{δ:vg}{ix:List (Option Nat)}(h:yX K H σ δ):yX K H (PQ ix σ) (Qg ix δ):=λi d q=>by
 unfold Qg at q;unfold PQ;rw[dF]at q ⊢;cases e:ix[i]? with
 | none=>rw[e]at q;cases q
 | some o=>
  rw[e]at q;cases o with
  | none=>cases q
  | some j=>
   have q':(δ[j]?).join=some d:=dw q;have e4:δ[j]?=some (some d):=by
    cases r:δ[j]? with
    | none=>rw[r]at q';cases q'
    | some w=>rw[r]at q';exact eV some q'
   obtain⟨v,e5,hv⟩:=h j d e4;refine⟨v,?_,hv⟩;show some ((σ[j]?).join)=some (some v);rw[e5];rfl
def uY(g:Dd)(tt:AH)(te:T3)(ok:Mp->Prop)(Q:DK):List D->List D->vg->Mp->Prop
 | [],acc,_,M=>acc.length<=sizeLine/\∀p,M p=none->Q (.ref p) (pL M p (.lst acc))
 | d::r,acc,δ,M=>acc.length<sizeLine/\g d δ M λδ2 M2=>tt δ2 M2 λb M3=>if b=true then te δ2 M3 λy M4=>ok M4/\uY g tt te ok Q r (acc++[y]) δ2 M4 else ok M3/\uY g tt te ok Q r acc δ2 M3
def L1(ix:List (Option Nat))(wi:NS)(g:Dd)(tt:AH)(te:T3):T3:=λδ M Q=>wi δ M λds ok M1=>uY g tt te ok Q ds [] (Qg ix δ) M1
def F3(X:Cx)(XE:List Expr)(t:AH):Prop:=PF X XE (Td X.K t)
def PF.mono{X:Cx}{e:List Expr}{t t':TT}(h:PF X e t)(m:∀σ H Q,t' σ H Q->t σ H Q):PF X e t':=λW2 s σ H Q I q=>h W2 s σ H Q I (m σ H Q q)
def BQ:AH:=λ_ M Q=>Q true M
def rN:F3 X [] BQ:=PF.mono Rk λσ H Q' zz=>x7 zz λδ M Q hs hm ht k=>k true H M hm .refl ht
def vV{c:Expr}{t:AH}(h:B3 X c t):F3 X [c] t:=Ru h
def IB:∀σ H Q',lo X.K (L1 ix wi g tt te) σ H Q'->Nb ix (WC X.K wi) (Vj X.K g) (Td X.K tt) (lo X.K te) σ H Q':=λσ H Q' zz=>x7 zz λδ M Q hs hm ht k=>
 ⟨δ,M,_,hs,hm,ht,λJ H1 ds ok M1 S W5 e1 ok1 q1=>by
  refine⟨λi m ys σ' H'=>m=ds.length - i/\i<=ds.length/\∃δ' M' acc,yX X.K H' σ' δ'/\HM X.K H' M'/\qu X.K H' acc ys/\ok M'/\qS X.K H1 H'/\uY g tt te ok Q (ds.drop i) acc δ' M',⟨ds.length,by simp,eP _,Qg ix δ,M1,[],PH (hs.mono e1),W5,.nil,ok1,.refl,by simpa using q1⟩,?_⟩
  rintro i m ys σ' H' ⟨rfl,hi,δ',M',acc,ZA,Yx,YE,Z7,e',q'⟩
  by_cases Xe:i<ds.length
  .rw[gN Xe]at q';obtain⟨hz,q'⟩:=q';refine .inr ⟨S.go i H' M' Xe Yx Z7 e',by rw[<-YE.length];exact hz,λx H2 y=>?_⟩;obtain⟨hx,Xk,e2⟩:=S.oU i ds[i] H' M' x H2 (cZ Xe) Yx Z7 e' y;refine⟨ds[i],δ',M',_,hx,ZA.mono e2,Xk,q',λσ3 H3 δ3 M3 x1 x2 x3 x4 x5=>?_⟩;refine⟨δ3,M3,_,x1,x2,x5,λb H4 M4 y2 y3 y5=>?_⟩;cases b with
   | true=>rw[dh rfl]at y5 ⊢;refine⟨δ3,M4,_,x1.mono y3,y2,y5,λv H5 d M5 z1 z2 z3 z4=>⟨ds.length - (i+1),by omega,rfl,Xe,δ3,M5,acc++[d],x1.mono (y3.trans z3),z2,(YE.mono (e2.trans (x3.trans (y3.trans z3)))).snoc z1,z4.1,e'.trans (e2.trans (x3.trans (y3.trans z3))),z4.2⟩⟩
   | false=>rw[df dC]at y5 ⊢;exact⟨ds.length - (i+1),by omega,rfl,Xe,δ3,M4,acc,x1.mono y3,y2,YE.mono (e2.trans (x3.trans y3)),y5.1,e'.trans (e2.trans (x3.trans y3)),y5.2⟩
  .have e:i=ds.length:=by omega
   subst e;rw[jS]at q';refine .inl ⟨S.stop H' M' Yx Z7 e',by rw[<-YE.length];exact q'.1,λp hp=>?_⟩;have e5:qS X.K H' (upd H' p (.lst ys)):=.new hp;exact k _ _ _ _ .ref (Yx.new (c:=.lst acc) hp ⟨_,qp,YE.mono e5⟩) (e1.trans (e'.trans e5)) (q'.2 p (Yx.fresh hp))⟩
def qK(hc:X.calm=true)(S:sy X scope ix N')(hi:I3 X tg iter wi)(hg:∀{C s0 H0 ex},G3 (X.comp scope N' C s0 H0 ex) tg g)(ht:∀{C s0 H0 ex},F3 (X.comp scope N' C s0 H0 ex) XE tt)(he:∀{C s0 H0 ex},E3 (X.comp scope N' C s0 H0 ex) XX te) (hs:∀x,foldedSetIterable iter X.env x=pure x:=by intro _;rfl):E3 X (.ListComp XX [⟨tg,iter,XE,0⟩] scope pos) (L1 ix wi g tt te):=PE.mono (Oc (g:=Vj X.K g) (tt:=Td X.K tt) (te:=lo X.K te) hc S hi (λ_ _ _ _=>hg) (λ_ _ _ _=>ht) (λ_ _ _ _=>he) hs) IB
def uM{i:Nat}{x:Str}{px YN:Pos}(hN:X.N.Nodup)(Zj:X.N[i]?=some x)(hx:KR X.env.scope x)(hc:X.calm=true)(S:sy X scope ix N')(hi:I3 X tg iter wi)(hg:∀{C s0 H0 ex},G3 (X.comp scope N' C s0 H0 ex) tg g)(ht:∀{C s0 H0 ex},F3 (X.comp scope N' C s0 H0 ex) XE tt) (he:∀{C s0 H0 ex},E3 (X.comp scope N' C s0 H0 ex) XX te) (Yw:swapsWith (.ListComp XX [⟨tg,iter,XE,0⟩] scope pos) (some (.Name x px)) YN.line X.env=pure true:=by rfl)
  (hf:KQ X x:=by first|exact .inl rfl|exact .inr rfl|assumption) (hs:∀x,foldedSetIterable iter X.env x=pure x:=by intro _;rfl):
  S3 X (.Assign [.Name x px] (.ListComp XX [⟨tg,iter,XE,0⟩] scope pos) YN) (Gm (L1 ix wi g tt te) (tD i)):=PS.nY (HI (g:=Vj X.K g) (tt:=Td X.K tt) (te:=lo X.K te) hN Zj hx hc S hi (λ_ _ _ _=>hg) (λ_ _ _ _=>ht) (λ_ _ _ _=>he) Yw hf hs) λD' σ H hl zz=>J3 zz λδ M D hs hm ht k1 k2 k3 k4=>
 IB σ H _ ⟨δ,M,_,hs,hm,ht,λv H1 d M1 hd W5 e1 q1=>k1 _ H1 _ M1 ((hs.mono e1).set hd (by rw[hl];exact(c9.mp Zj).1)) W5 e1 (by simp) q1⟩
def WG{A:Ar}{k:Nat}(hr:sj k A):A.units+9<cLine:=by have:=hr.units;omega
def HG(sc:Scope)(N:QQQ)(scope:Scope)(ix:List (Option Nat))(N':QQQ):Bool:=
 (scope.kind==.function)&&(scope.names.all λy=>!(y.2==.cell))&&(scope.names.all λy=>!(y.2==.local)||(scope.names.lookup y.1==some .local))&&
 (scope.names.all λy=>!(y.2==.free)||(sc.names.lookup y.1==some .cell)||(sc.names.lookup y.1==some .free))&&(ix.length==N'.length)&&
 ((ix.zip N').all λp=>match p.1 with|none=>true|some i=>(N[i]?==some p.2)&&(scope.names.lookup p.2==some .free))
def TL{X:Cx}{scope:Scope}{ix:List (Option Nat)}{N':QQQ}(h:HG X.env.scope X.N scope ix N'=true):sy X scope ix N':=by
 unfold HG at h;simp only[dX]at h;obtain⟨⟨⟨⟨⟨h1,h2⟩,h3⟩,h4⟩,h5⟩,h6⟩:=h;refine⟨by simpa using h1,λy hy e=>?_,λy hy e=>?_,λy hy e=>?_,by simpa using h5,λj i x e1 e2=>?_⟩
 .have:=eG.mp h2 y hy;rw[e]at this;simp at this
 .have:=eG.mp h3 y hy;rw[e]at this
  simpa using this
 .have:=eG.mp h4 y hy;rw[e]at this
  simpa using this
 .have hm:(some i,x)∈ix.zip N':=by
   have:(ix.zip N')[j]?=some (some i,x):=by rw[im];exact⟨e1,e2⟩
   exact fA this
  have:=eG.mp h6 _ hm
  simpa using this
section
variable {a b:Expr}
def JI(op XW:CmpOp)(ta tb tc:T3):T3:=λδ M Q=>ta δ M λx M1=>tb δ M1 λy M2=>Oo op x y M2 λz M3=>match z with
 | .bl k=>if k=true then tc δ M3 λw M4=>Oo XW y w M4 Q else Q (.bl false) M3
 | _=>False
def uz{op XW:CmpOp}(hu:X.A.units+9<cLine)(ha:E3 X a ta)(hb:E3 X b tb)(hc:E3 X c tc)(hmk:lastMarks [op,XW] [b,c]=false:=by rfl):
  E3 X (.Compare a [op,XW] [b,c] pos) (JI op XW ta tb tc):=PE.mono (Lr (Kx op hu) (Kx XW hu) ha hb hc hmk) λσ H Q' zz=>x7 zz λδ M Q hs hm ht k=>
 ⟨δ,M,_,hs,hm,ht,λv H1 x M1 hx W5 e1 q1=>⟨δ,M1,_,hs.mono e1,W5,q1,λu H2 y M2 hy Xk e2 q2=>⟨x,y,M2,_,hx.mono e2,hy,Xk,q2,λw H3 z M3 hz X2 e3 q3=>by
  cases z with
  | bl c=>
   refine⟨c,hz.mV,?_⟩;cases c with
   | true=>refine(dh rfl).mpr ⟨δ,M3,_,hs.mono (e1.trans (e2.trans e3)),X2,(dh rfl).mp q3,λw' H4 d M4 hd hm4 e4 q4=>⟨y,d,M4,Q,hy.mono (e3.trans e4),hd,hm4,q4,vL (e1.trans (e2.trans (e3.trans e4))) k⟩⟩
   | false=>exact(df dC).mpr (k _ H3 _ M3 .bl X2 (e1.trans (e2.trans e3)) ((df dC).mp q3))
  | _=>exact q3.elim⟩⟩⟩
def G2{op XW:CmpOp}(hu:X.A.units+9<cLine)(ha:E3 X a ta)(hb:E3 X b tb)(hc:E3 X c tc)(hmk:lastMarks [op,XW] [b,c]=false:=by rfl):
  B3 X (.Compare a [op,XW] [b,c] pos) (b3 (JI op XW ta tb tc)):=PT.mono (Lj (Kx op hu) (Kx XW hu) ha hb hc hmk) λσ H Q' zz=>x7 zz λδ M Q hs hm ht k=>
 ⟨δ,M,_,hs,hm,ht,λv H1 x M1 hx W5 e1 q1=>⟨δ,M1,_,hs.mono e1,W5,q1,λu H2 y M2 hy Xk e2 q2=>⟨x,y,M2,_,hx.mono e2,hy,Xk,q2,λw H3 z M3 hz X2 e3 q3=>by
  cases z with
  | bl c=>
   refine⟨c,hz.mV,?_⟩;cases c with
   | true=>
    refine(dh rfl).mpr ⟨δ,M3,_,hs.mono (e1.trans (e2.trans e3)),X2,(dh rfl).mp q3,λw' H4 d M4 hd hm4 e4 q4=>⟨y,d,M4,_,hy.mono (e3.trans e4),hd,hm4,q4,λw5 H5 d5 M5 hd5 hm5 e5 q5=>?_⟩⟩;cases d5 with
    | bl c5=>exact⟨c5,hd5.mV,k c5 H5 M5 hm5 (e1.trans (e2.trans (e3.trans (e4.trans e5)))) q5⟩
    | _=>exact q5.elim
   | false=>exact(df dC).mpr ⟨false,rfl,k false H3 M3 X2 (e1.trans (e2.trans e3)) ((df dC).mp q3)⟩
  | _=>exact q3.elim⟩⟩⟩
structure VL(K:qw)(C:Addr):Prop where
 ha:W.findIn K (.ref C) "__class__"=some (some (.builtin "object.__class__"))
 hn:W.specialIn K (.builtin "object.__class__") "__get__"=some (some (.builtin "getset_descriptor.__get__"))
 htk:W.takesIn K (.builtin "object.__class__")=some true
 hm:W.mroIn K C (.type "object")=some true
def Io:Option uT->Option Vl
 | some (.lst _)=>some (.type "list")
 | some (.ins C _)=>some (.ref C)
 | some (.dk _)=>some (.type "dict")
 | some (.exc _)=>none
 | none=>none
def Wr(M:Mp):D->Option Vl
 | .mW=>some (.type "NoneType")
 | .bl _=>some (.type "bool")
 | .int _=>some (.type "int")
 | .str _=>some (.type "str")
 | .tup _=>some (.type "tuple")
 | .ref a=>Io (M a)
 | .ty _=>none
 | .rl _=>some (.type "list")
def VO:D->Option Vl
 | .ref C=>some (.ref C)
 | .ty n=>some (.type n)
 | _=>none
def Nq(K:qw)(ds:List D)(M:Mp)(Q:DK):Prop:=match ds with
 | [x,c]=>(Wr M x).elim False λt=>(VO c).elim False λcv=>(∀C,t=.ref C->VL K C)/\(W.kitOne K t cv).elim False λb=>Q (.bl b) M
 | _=>False
def zX:C3 X (.builtin "isinstance") (Nq X.K):=by
 intro W2 s σ H vs us Q' I rv h;obtain⟨ds,M,Q,hd,hm,q,k⟩:=h;unfold Nq at q;split at q
 .rename_i x c;obtain⟨v,u,rfl,hv,hw⟩:=EY hd;obtain⟨t,et,q⟩:=qX q;obtain⟨cv,ec,hC,q⟩:=qX q;obtain⟨b,eb,qb⟩:=qX q;obtain⟨uv,uw,rfl,Zk,rv2⟩:=Mv rv;have ecv:uw=cv:=by
   cases c with
   | ref C=>cases hw.mR;cases ec;exact rv2
   | ty n=>cases hw.oa;cases ec;exact rv2
   | _=>cases ec
  subst ecv;have W7:∀tk,EP X W2 σ Q' (.bool b) {s with toks:=tk}:=λtk=>⟨.bl b,H,I.tok tk,rfl,k _ _ _ _ .bl hm .refl qb⟩;cases x with
  | mW=>cases hv.mU;cases et;exact uK I Zk .mW eb W7
  | bl y=>cases hv.mV;cases et;exact uK I Zk (.bl y) eb W7
  | int y=>cases hv.int_inv;cases et;exact uK I Zk (.int y) eb W7
  | str y=>cases hv.str_inv;cases et;exact uK I Zk (.str y) eb W7
  | tup ds=>obtain⟨a,xs,rfl,h1,h2⟩:=hv.mY;cases et;cases Zk;obtain⟨its,r,p,_⟩:=I.tuple h1;obtain⟨o,g1,g2,_⟩:=p;exact gu W.kitx_tuple I.ny ⟨o,g1,g2⟩ eb (λz=>nomatch z) W7
  | ref a=>
   cases hv.mR;have et:Io (M a)=some t:=et;cases e:M a with
   | none=>rw[e]at et;cases et
   | some cell=>
    rw[e]at et;have ok:=hm a cell e;cases cell with
    | lst ds=>cases et;obtain⟨xs,e1,_⟩:=ok;exact uK I Zk (.lst e1) eb W7
    | ins C fs=>cases et;obtain⟨dx,vs,e1,cl,_⟩:=ok;obtain⟨i1,i2,i3,i4⟩:=hC C rfl;exact uK I Zk (.ins e1 cl i1 i2 i3 i4) eb W7
    | dk kvs=>cases et;obtain⟨vs,e1,_⟩:=ok;exact uK I Zk (.dK e1) eb W7
    | exc C=>cases et
  | ty n=>cases et
  | rl ds=>obtain⟨p,xs,rfl,h1,h2⟩:=hv.nv;cases et;cases Zk;obtain⟨its,r,⟨o,n,g1,g2,_⟩,_⟩:=I.list h1.sq;exact gu lL I.ny ⟨o,g1,g2⟩ eb (λz=>nomatch z) W7
 .exact q.elim
def F6:List D->Option (List Bool)
 | []=>some []
 | .bl b::r=>(F6 r).map (b::·)
 | _::_=>none
theorem EZ{K:qw}{H:Hp}:∀{ds:List D} {bs:List Bool} {xs:List V} {us:List Vl},F6 ds=some bs->qu K H ds xs->qE xs us->us=bs.map Value.bool
 | [],bs,xs,us,e,h,r=>by cases e;have:=h.nil_inv;subst this;cases r;rfl
 | d::ds,bs,xs,us,e,h,r=>by
  cases d with
  | bl b=>
   obtain⟨y,ys,rfl,h1,h2⟩:=h.inv;cases h1.mV;unfold F6 at e;cases q:F6 ds with
   | none=>rw[q]at e;cases e
   | some cs=>
    rw[q]at e;cases e;cases r with
    | cons r1 r2=>cases r1;rw[EZ q h2 r2];rfl
  | _=>cases e
def UM(ds:List D)(M:Mp)(Q:DK):Prop:=match ds with
 | [.ref a]=>(pf M a).elim False λes=>(F6 es).elim False λbs=>Q (.bl (bs.all id)) M
 | _=>False
def BK(hc:X.calm=true):C3 X (.builtin "all") UM:=by
 intro W2 s σ H vs us Q' I rv h;obtain⟨ds,M,Q,hd,hm,q,k⟩:=h;unfold UM at q;split at q
 .rename_i a;obtain⟨v,rfl,hv⟩:=sE hd;obtain⟨es,e0,q⟩:=qX q;obtain⟨bs,e1,q⟩:=qX q;cases hv.mR;obtain⟨u,rfl,ru⟩:=yu rv;cases ru;obtain⟨xs,h1,h2,_⟩:=qy hm e0;obtain⟨its,r,pl,hz⟩:=I.list h1;have Z8:=EZ e1 h2 r;subst Z8;have Xm:a≠s.heap.objs.size:=by obtain⟨o,_,e,_⟩:=pl;exact dG (dA e)
  refine call_all_walk (gJ pl.isList ?_);refine⟨s.heap.objs.size,_,_,_,_,_,λi=>(bs[i]?).getD true,rfl,kB (A:=X.A.in1) (I.ok.hd hc) _ a Xm (bs.map Value.bool).toArray,⟨⟨_,dI _ rfl,rfl,rfl⟩,?_⟩,λi v s' Q E hP hQ=>?_,λh' tk hk=>?_⟩
  .obtain⟨o,n,e,c,d,q⟩:=pl;exact⟨o,dg _ e,c,n,q⟩
  .simp only[iQ,dF]at hP;cases e2:bs[i]? with
   | none=>rw[e2]at hP;cases hP
   | some b=>rw[e2]at hP;cases hP;have hQ:Q ((bs[i]?).getD true) s':=hQ;rw[e2]at hQ;exact fv hQ
  .have ea:(List.range (bs.map Value.bool).toArray.size).all (λi=>(bs[i]?).getD true)=bs.all id:=by
    rw[dB,cX];rw[gp,eG,eG];constructor
    .intro z b hb;obtain⟨i,hi,e⟩:=gS hb;have:=z i (gi.mpr hi);rw[cZ hi,e]at this;exact this
    .intro z i hi;have YF:=gi.mp hi;rw[cZ YF];exact z _ (ig YF)
   rw[ea];refine⟨.bl (bs.all id),H,?_,rfl,k _ _ _ _ .bl hm .refl q⟩;exact I.kept (h':=h') (t':=tk) λb o e=>hk b o (by simpa using dG (dA e)) (dg _ e)
 .exact q.elim
def AU(x:D):List D->Option Nat
 | []=>none
 | d::r=>if Oy d x=true then some 0 else(AU x r).map (·+1)
theorem Jk{K:qw}{H:Hp}{e:D}{w:V}(g:rV K H e w)(fe:uZ e=true):∀{ds:List D} {xs:List V} {us:List Vl} {j:Nat},qu K H ds xs->qE xs us->ds.all uZ=true->AU e ds=some j->
  ∃h:j<us.length,Ej w us[j]=true/\∀m (hm:m<us.length),m<j->Ej w us[m]=false
 | [],_,_,_,_,_,_,q=>by cases q
 | d::ds,_,us,j,h,r,fl,q=>by
  obtain⟨y,ys,rfl,h1,h2⟩:=h.inv;rw[e9,dX]at fl;cases r with
  | @cons _ u _ us' r1 r2=>
   have eu:Ej w u=Oy d e:=by rw[Ib r1 (zK h1 fl.1),JG h1 g fl.1 fe]
   unfold AU at q;by_cases hq:Oy d e=true
   .rw[dh hq]at q;cases q;exact⟨by simp,by simpa [eu]using hq,λm _ hm=>absurd hm (Nat.not_lt_zero m)⟩
   .rw[df hq]at q;cases q2:AU e ds with
    | none=>rw[q2]at q;cases q
    | some j'=>
     rw[q2]at q;cases q;obtain⟨hl,e1,e2⟩:=Jk g fe h2 r2 fl.2 q2;refine⟨by simpa using hl,by simpa using e1,λm hm Xe=>?_⟩;cases m with
     | zero=>simpa [eu]using hq
     | succ m=>simpa using e2 m (by simpa using hm) (by have z:m+1<j'+1:=Xe;omega)
def Rt(x:D)(ds:List D)(M:Mp)(Q:DK):Prop:=match x,ds with
 | .ref a,[y]=>(pf M a).elim False λes=>uZ y=true/\es.all uZ=true/\(AU y es).elim False λj=>Q (.int (j:Nat)) M
 | _,_=>False
def M3(X:Cx)(id:String)(r:D->List D->Mp->DK->Prop):Prop:=Ww X id λvx vs H Q'=>∃x ds M Q,rV X.K H x vx/\qu X.K H ds vs/\HM X.K H M/\r x ds M Q/\Up X.K H Q' Q
def LV:M3 X "list.index" Rt:=by
 intro W2 s σ H vx vs v us Q' I rx rv h;obtain⟨x,ds,M,Q,hx,hd,hm,q,k⟩:=h;unfold Rt at q;split at q
 .rename_i a y;obtain⟨es,e0,f1,f2,q⟩:=qX q;obtain⟨j,e1,q⟩:=qX q;cases hx.mR;cases rx;obtain⟨w,rfl,hw⟩:=sE hd;obtain⟨u,rfl,ru⟩:=yu rv;obtain⟨xs,h1,h2,rd⟩:=qy hm e0;obtain⟨hz,its,n,r,g⟩:=rd.ok I.mZ;obtain⟨hl,p1,p2⟩:=Jk hw f1 h2 r f2 e1;have hlz:its.length<=sizeLine:=by rw[<-r.length];exact hz
  have h63:=yz;refine jE F.slot_list_index ⟨_,g,rfl⟩ F.entry_list_index (F.args_list_index_2 _ _) (SeqAt.list_indexAt a its.toArray n none #[] u (Ej w) j (by simpa using hl) (by omega) (by simpa using p1) λm hm Xe=>by simpa using p2 m (by simpa using hm) Xe) ⟨g,?_,?_⟩
  .intro z hz';exact wx ru (zK hw f1) r (Fv h2 f2) z (by simpa using hz')
  .exact⟨.int (j:Nat),H,I.tok _,⟨_,rfl⟩,k _ _ _ _ .int hm .refl q⟩
 .exact q.elim
def QS(M:Mp):D->Prop
 | .ref a=>(pf M a).isSome=true
 | _=>False
def VT(r:D->List D->Mp->DK->Prop)(to:T3)(t:xA):T3:=λδ M Q=>to δ M λx M1=>QS M1 x/\t δ M1 λds M2=>r x ds M2 Q
def SX{K:qw}{H:Hp}{M:Mp}{x:D}{v:V}(hm:HM K H M)(h:rV K H x v)(l:QS M x):Vz K "list" v H:=by
 cases x with
 | ref a=>cases h.mR;obtain⟨ds,e⟩:=jN.mp (show(pf M a).isSome=true from l);obtain⟨xs,h1,_⟩:=qy hm e;exact .inl ⟨rfl,xs,h1⟩
 | _=>exact l.elim
def QO{id:String}{name:Str}{r:D->List D->Mp->DK->Prop}(slot:Slot "list" name id)(hty:typeOf (.builtin id)=pure (.type "method_descriptor"))(hm:M3 X id r)(ho:E3 X o ta)(ha:A3 X (e::es) t) (Xh:attributeBase o name X.env (eval o X.env)=eval o X.env:=by rfl)
  (Yk:((backTo pos (starEach (e::es) X.env)).all (λx=>!x.1)&&(backToKw pos (keywordEach [] X.env)).all (λx=>x.1.isSome)
   &&decide ((e::es).length+([]:List Keyword).length+(if ([]:List Keyword).isEmpty then 0 else 1)<30))=true:=by rfl)
  (Xr:(W6.endLine==pos.line)=true:=by rfl) (hs:Bj X e es:=by rfl) (Xl:CS X pos es:=by rfl):
  E3 X (.Call (.Attribute o name W6) (e::es) [] pos) (VT r ta t):=PE.mono (Tq PySem.F.plainAttrs_list slot hty hm ho ha Xh Yk Xr hs Xl) λσ H Q' zz=>x7 zz λδ M Q hs hm ht k=>
 ⟨δ,M,_,hs,hm,ht,λv H1 x M1 hx W5 e1 q1=>⟨SX W5 hx q1.1,δ,M1,_,hs.mono e1,W5,q1.2,λvs H2 ds M2 Yj Xk e2 q2=>⟨x,ds,M2,Q,hx.mono e2,Yj,Xk,q2,vL (e1.trans e2) k⟩⟩⟩
def xP(ho:E3 X o ta)(ha:A3 X (e::es) t) (Xh:attributeBase o "index" X.env (eval o X.env)=eval o X.env:=by rfl)
  (Yk:((backTo pos (starEach (e::es) X.env)).all (λx=>!x.1)&&(backToKw pos (keywordEach [] X.env)).all (λx=>x.1.isSome)
   &&decide ((e::es).length+([]:List Keyword).length+(if ([]:List Keyword).isEmpty then 0 else 1)<30))=true:=by rfl)
  (Xr:(W6.endLine==pos.line)=true:=by rfl) (hs:Bj X e es:=by rfl) (Xl:CS X pos es:=by rfl):
  E3 X (.Call (.Attribute o "index" W6) (e::es) [] pos) (VT Rt ta t):=QO PySem.F.slot_list_index PySem.F.type_list_index LV ho ha Xh Yk Xr hs Xl
structure LB(K:qw)(C:Addr)(m:Str)(f:Addr):Prop where
 hg:W.specialIn K (.ref C) "__getattribute__"=some (some (.builtin "type.__getattribute__"))
 rd:W.readsIn K C (.type "type")=true
 fc:W.findCls K (.ref C) (.type "type") m=some (.val (.ref f))
def Ob{sp:Sp}{t:TA}{pl:Sem Bool}(cm:LB X.K C m f)(F:xo X.prog X.w X.K X.mg X.base NR k f fd ps sp)(hr:sj k X.A)(hg:Gl X x)(hm:X.mg x=some (.ref C))(hk:W.keepIn X.K (.ref f)=true)(hb:uS X.K fd ps [])(ha:PA X (e::es) t) (Xn:yJ x:=by decide) (Xp:Bj X e es:=by rfl) (Xj:CS X pos es:=by rfl)
  (ht:eval (.Call (.Attribute (.Name x p) m W6) (e::es) [] pos) X.env=(do
   let ov<-eval (.Name x p) X.env
   standAt W6.atName
   let(f,first)<-holding [ov] (getMethod ov m pl)
   callWith pos f first (backTo pos (starEach (e::es) X.env)) (backToKw pos (keywordEach [] X.env))):=by rfl):
  PE X (.Call (.Attribute (.Name x p) m W6) (e::es) [] pos) (λσ H Q=>t σ H λvs H1=>sp vs H1 Q E0):=by
 intro W2 s σ H Q I h;refine j7 (pl:=pl) (w9 I hg hm ?_ Xn) ht;refine W.method_cls I.ny cm.hg (W.cls_value I.ny cm.rd cm.fc rfl ?_);refine iS (first:=[]) (h₀:=X.base) I.ok.mod.oN hk (sH (ha pos W2 _ σ H _ (I.tok _) h) λus s2 zz=>x5 zz λvs H2 I2 r q2=>⟨I2.ny,?_⟩) Xp Xj;exact Fy F hr hb .nil (GD (X:=X)) I2 r (by rw[fh];exact q2)
def Qr{pl:Sem Bool}(cm:LB X.K C m f)(F:Ti X.prog X.w X.K X.mg X.base k f fd ps sp)(hr:sj k X.A)(hg:Gl X x)(hm:X.mg x=some (.ref C))(hk:W.keepIn X.K (.ref f)=true)(hb:uS X.K fd ps [])(ha:A3 X (e::es) t) (Xn:yJ x:=by decide) (Xp:Bj X e es:=by rfl) (Xj:CS X pos es:=by rfl)
  (ht:eval (.Call (.Attribute (.Name x p) m W6) (e::es) [] pos) X.env=(do
   let ov<-eval (.Name x p) X.env
   standAt W6.atName
   let(f,first)<-holding [ov] (getMethod ov m pl)
   callWith pos f first (backTo pos (starEach (e::es) X.env)) (backToKw pos (keywordEach [] X.env))):=by rfl):
  E3 X (.Call (.Attribute (.Name x p) m W6) (e::es) [] pos) (Ea sp t):=PE.mono (Ob cm F hr hg hm hk hb ha Xn Xp Xj ht) λσ H Q' zz=>x7 zz λδ M Q hs hm ht k=>
 ⟨δ,M,_,hs,hm,ht,λvs H1 ds M1 hd W5 e1 q1=>⟨ds,M1,Q,hd,W5,q1,vL e1 k⟩⟩
def qG:bootBuiltins "len"=some (.builtin "len"):=by decide+kernel
def RN:bootBuiltins "min"=some (.builtin "min"):=by decide+kernel
def vX:bootBuiltins "isinstance"=some (.builtin "isinstance"):=by decide+kernel
def Cf:bootBuiltins "all"=some (.builtin "all"):=by decide+kernel
def qY:bootBuiltins "tuple"=some (.type "tuple"):=by decide+kernel
def tO:bootBuiltins "list"=some (.type "list"):=by decide+kernel
def RX:bootBuiltins "str"=some (.type "str"):=by decide+kernel
def FT:bootBuiltins "dict"=some (.type "dict"):=by decide+kernel
def Ff:bootBuiltins "enumerate"=some (.type "enumerate"):=by decide+kernel
def SY:bootBuiltins "zip"=some (.type "zip"):=by decide+kernel
end
theorem _root_.L2.Inv.drawn{ch:QXQ}{T:Addr}{xs:List V}{its:List Vl}{h':Heap}{tk:Nat}(I:Inv X W2 σ H s)(X4:∀b∈ch,A9 X W2 H b)(k:∀b o,b∉ch->s.heap.get? b=some o->h'.get? b=some o)(hT:s.heap.objs.size<=T)(hx:xs.length<=sizeLine) (rv:qE xs its) (ht:El h' T its.toArray):Inv X W2 σ (upd H T (.tup xs)) {s with heap:=h',toks:=tk}:=by
 have Zl:H T=none:=I.mZ.fresh hT;have nT:∀b o,s.heap.get? b=some o->b≠T:=λb o e=>dG (dP (dA e) hT);refine I.step (g':=s.gens) (d':=s.drawn) (ch:=ch) (λb hb=>⟨(X4 b hb).2.2.2.1,(X4 b hb).2.1,(X4 b hb).2.2.2.2.1,(X4 b hb).2.2.2.2.2⟩) (λb o _ _ hc e _=>k b o hc e) (λb o _ _ hc e _=>⟨o.slots,k b o hc e⟩) (λb o _ e n=>by rw[qd (nT b o e)];exact n)
  (λb o hc e=>⟨o,k b o hc e⟩) (λb ys e=>by rw[qd (qT e Zl)];exact e) (λb o u e=>by rw[qd (qT e Zl)];exact e) (λb ps e=>⟨#[],by rw[qd (qT e Zl),e];simp⟩) (λm hm=>?_) (λb u e=>?_) I.bare
 .obtain⟨o,es,ep,ho,r⟩:=hm;exact⟨o,es,ep,k _ o (λz=>(X4 _ z).2.1 rfl) ho,r⟩
 .by_cases hb:b=T
  .subst hb;rw[qp]at e;cases e;exact⟨hx,its,rv,ht⟩
  .rw[qd hb]at e;refine(I.mZ b u e).nE (λc v hc q=>k c v (λz=>?_) q) (λc q=>by rw[qd (qT q Zl)];exact q) (λc ys q=>by rw[qd (qT q Zl)];exact q);have n:=(X4 c z).1;rcases hc with y|y
   .rw[y,e]at n;cases n
   .rw[y]at n;cases n
def Vt(K:qw)(a:Addr):It:=
 ⟨λi H=>∃xs x,yZ K H a xs/\xs[i]?=some x,λi H x H'=>∃p y,x=.ref p/\H p=none/\H'=upd H p (.tup [.int (i:Nat),y])/\∀xs,yZ K H a xs->xs[i]?=some y,λi H=>∃xs,yZ K H a xs/\xs.length<=i⟩
def KJ{P:Pg}{w:Wo}{K:qw}{Xt:List Expr}{n:Nat}{tp:Pos}(a e it:Addr)(hei:e≠it):FV P w K (.Tuple Xt n tp) (Vt K a) [e,it] e (λi h=>(∃XA,IsEnum h e it (i:Nat) XA)/\h.IsListIter it a i) where
 mem:=by simp
 obj:=λi h st b hb=>by
  obtain⟨⟨XA,he⟩,o,e1,c,d⟩:=st;rcases dv.mp hb with rfl|hb
  .exact⟨_,he,λv z=>by cases z⟩
  .rw[dD.mp hb];exact⟨o,e1,λv z=>by rw[d]at z;cases z⟩
 keep:=λi h h' st k=>by obtain⟨⟨XA,he⟩,hi⟩:=st;exact⟨⟨XA,k e (by simp) _ he⟩,hi.at λo q=>k it (by simp) o q⟩
 item:=by
  intro X hP hw hK hc i W2 s σ H E I hf st hg;subst hP hw hK;obtain⟨xs,x,hq,hx⟩:=hg;obtain⟨its,rv,p,hz⟩:=I.list hq;obtain⟨u,hu,ru⟩:=rv.get hx;obtain⟨⟨XA,he⟩,hi⟩:=st;refine wpAny_pyNext_enum_item he hi p.isList (x:=u) (by simpa using hu) hei λh1 ho YG hT hsz hk=>?_;refine⟨_,rfl,wpAny_letOwnedTupleGo_enum ho λh2 he2 YI=>?_⟩;have helt:e<s.heap.objs.size:=dA he;have hilt:it<s.heap.objs.size:=by obtain⟨o,q,_⟩:=hi;exact dA q
  have kk:∀b o,b∉[e,it]->s.heap.get? b=some o->h2.get? b=some o:=λb o hb q=>(YI.2 b λz=>hb (by simp[z])).trans (hk b o (λz=>hb (by simp[z])) (λz=>hb (by simp[z])) q);have hT2:h2.get? s.heap.objs.size=some {cls:=.type "tuple",data:=.seq #[.int (i:Nat) s.toks,u]}:=(YI.2 _ (gP helt)).trans hT;have Zl:H s.heap.objs.size=none:=I.mZ.fresh (dz _);have I2:=I.drawn (ch:=[e,it]) (T:=s.heap.objs.size) (xs:=[.int (i:Nat),x]) (its:=[.int (i:Nat) s.toks,u]) (h':=h2) (tk:=s.toks+1) hf kk (dz _) (by show 2<=sizeLine;decide) (.cons ⟨_,rfl⟩ (.cons ru .nil)) ⟨_,hT2,rfl,⟨_,rfl⟩,rfl⟩;refine⟨.ref s.heap.objs.size,_,I2,rfl,⟨_,x,rfl,Zl,rfl,λys hy=>by rw[I.n9 hy hq];exact hx⟩,⟨⟨_,by simpa using he2⟩,YG.extBut YI.extBut (dR hei)⟩,λb hb=>?_⟩;have XY:b<s.heap.objs.size:=by
   rcases dv.mp hb with z|z
   .rw[z];exact helt
   .rw[dD.mp z];exact hilt
  rw[qd (dG XY)];exact(hf b hb).1
 done:=by intro X hP hw hK hc i W2 s σ H E I hf st hg;subst hP hw hK;obtain⟨xs,hq,hx⟩:=hg;obtain⟨its,rv,p,hz⟩:=I.list hq;obtain⟨⟨XA,he⟩,hi⟩:=st;have hl:=rv.length;obtain⟨f0,f1,f2,f3,f4,f5⟩:=hf it (by simp);exact wpAny_pyNext_enum_end (I.ok.hd hc) he hi p.isList (by simp;omega) λh' eb=>⟨rfl,I.turned (t':=s.toks) (λb o hb q=>eb b o hb q) f0 f1 f3 f4 f5⟩
 self:=λ_ _ _ _ _ st h=>by obtain⟨⟨XA,he⟩,_⟩:=st;exact lH he h
variable {tp:Pos}{Xt:List Expr}{n:Nat}
def Qs{a:Expr}{ta:TA}(hg:Gl X "enumerate")(hm:X.mg "enumerate"=none)(ha:PA X [a] ta)(hs:starEach [a] X.env=[(false,eval a X.env)]:=by rfl):
  PI X (.Tuple Xt n tp) (.Call (.Name "enumerate" p) [a] [] pos) (λσ H R=>ta σ H λvs H1=>∃l,vs=[.ref l]/\(∃xs,yZ X.K H1 l xs)/\R (Vt X.K l) H1):=by
 intro W2 s σ H R I h;refine Call_ (wD I hg hm Ff (fW (sH (ha pos W2 s σ H _ I h) λus s1 zz=>x5 zz λvs H1 I1 r1 q1=>?_) hs rfl));obtain⟨l,e,⟨xs,hq⟩,q⟩:=q1;subst e;obtain⟨u,rfl,ru⟩:=yu r1;cases ru;obtain⟨its,rv,pl,hz⟩:=I1.list hq;refine call_enumerate_list pl.isList λh' he hi hsz hk=>?_;refine lH he ?_;have I2:Inv X W2 σ H1 {s1 with heap:=h'}:=I1.kept (t':=s1.toks) hk;refine⟨s1.heap.objs.size+1,[s1.heap.objs.size+1,s1.heap.objs.size],_,_,H1,rfl,I2,KJ l _ _ (Nat.succ_ne_self _),⟨⟨_,he⟩,hi⟩,λb hb=>?_,q⟩;have XY:s1.heap.objs.size<=b:=by
  rcases dv.mp hb with z|z
  .rw[z];exact gB _
  .rw[dD.mp z];exact dz _
 exact I1.oi XY (I1.mZ.fresh XY)
def uG:Nat->List D->List D
 | _,[]=>[]
 | i,d::r=>.tup [.int (i:Nat),d]::uG (i+1) r
theorem y0:∀{ds:List D} {i j:Nat},(uG j ds)[i]?=(ds[i]?).map λd=>D.tup [.int ((j+i:Nat):Int),d]
 | [],i,j=>by simp[uG]
 | d::r,0,j=>by simp[uG]
 | d::r,i+1,j=>by show(uG (j+1) r)[i]?=_;rw[y0];simp only[List.getElem?_cons_succ];rw[show j+1+i=j+(i+1)by omega]
theorem vj:∀{ds:List D} {j:Nat},(uG j ds).length=ds.length
 | [],j=>rfl
 | d::r,j=>by simp[uG,vj]
def Lo{K:qw}{H1:Hp}{a:Addr}{ds:List D}:GN K H1 (Vt K a) (uG 0 ds) (λM=>pf M a=some ds) where
 go:=λi H M hi hm ok _=>by rw[vj]at hi;obtain⟨xs,h1,h2,_⟩:=qy hm ok;obtain⟨x,e,_⟩:=h2.get (cZ hi);exact⟨xs,x,h1,e⟩
 oU:=λi d H M x H' hd hm ok _ y=>by
  obtain⟨xs,h1,h2,_⟩:=qy hm ok;obtain⟨p,z,rfl,hp,rfl,y⟩:=y;rw[y0]at hd;cases e:ds[i]? with
  | none=>rw[e]at hd;cases hd
  | some d'=>rw[e]at hd;cases hd;obtain⟨x',e',hx⟩:=h2.get e;have w1:=y xs h1;rw[e']at w1;have w2:x'=z:=dw w1;subst w2;have ex:qS K H (upd H p (.tup [.int (i:Nat),x'])):=.new hp;refine⟨.tup (.of qp) (.cons (by rw[mH];exact .int) (.cons (hx.mono ex) .nil)),hm.add hp,ex⟩
 stop:=λH M hm ok _=>by obtain⟨xs,h1,h2,_⟩:=qy hm ok;exact⟨xs,h1,by rw[vj,h2.length];exact dz _⟩
def Sy(t:xA):NS:=λδ M R=>t δ M λds M1=>match ds with
 | [.ref a]=>(pf M1 a).elim False λes=>R (uG 0 es) (λM=>pf M a=some es) M1
 | _=>False
def wO{a:Expr}{ta:xA}(hg:Gl X "enumerate")(hm:X.mg "enumerate"=none)(ha:A3 X [a] ta)(hs:starEach [a] X.env=[(false,eval a X.env)]:=by rfl):I3 X (.Tuple Xt n tp) (.Call (.Name "enumerate" p) [a] [] pos) (Sy ta):=
 PI.mono (Qs hg hm ha hs) λσ H R' zz=>x7 zz λδ M R hs hm ht k=>⟨δ,M,_,hs,hm,ht,λvs H1 ds M1 hd W5 e1 q1=>by
  split at q1
  .obtain⟨v,rfl,hv⟩:=sE hd;cases hv.mR;obtain⟨es,e0,q⟩:=qX q1;obtain⟨xs,h1,h2,_⟩:=qy W5 e0;exact⟨_,rfl,⟨xs,h1⟩,k _ H1 _ _ M1 Lo W5 e1 e0 q⟩
  .exact q1.elim⟩
variable {prog:Pg}{A:Ar}{E:QQX}
def Hf{it t:Addr}{i:Nat}{its:Array Vl}{x:Vl}{Q:QQX}(hi:s.heap.IsTupleIter it t i)(ht:s.heap.IsTuple t its)(hx:its[i]?=some x) (hQ:∀g,g.IsTupleIter it t (i+1)->Heap.SameBut it s.heap g->Q x {s with heap:=g}):wpAny (model prog w) A (Builtin.SmallTypes.nextOf (.ref it)) Q E s:=by
 obtain⟨ob,e1,e2,e3⟩:=id hi;obtain⟨ot,e4,_,nt,e5⟩:=ht;unfold Builtin.SmallTypes.nextOf;refine cY (fO (name:=Str.ofString "__next__") hi.typeIs gI (fT gI hi.typeIs ju ?_ (jp _)));show wpAny (model prog w) _ (field (.ref it) 0>>=_) _ _ s;refine cY (ft e1 e3 (x:=.ref t) rfl ?_);show wpAny (model prog w) _ (if (Value.ref t==Value.none)=true then _ else _) _ _ s;rw[df (show ¬(Value.ref t==Value.none)=true from dC)];show wpAny (model prog w) _ (field (.ref it) 1>>=_) _ _ s;refine cY (ft e1 e3 (x:=.int i 0) rfl ?_);show wpAny (model prog w) _ (seqItems? (.ref t)>>=_) _ _ s;refine cY (gz e4 e5 ?_);simp only[jy,hx];refine cY (h9 e1 e3 (by simp) (dq ⟨x,rfl,dq (hQ _ ⟨_,fK _ e1 (Obj.isFreed_of_fields (lu e3 _)),(Obj.cls_mapFields ..).trans e2,?_⟩ (kP ..))⟩));rw[lu e3];simp[rawInt]
def CA{it t:Addr}{i:Nat}{its:Array Vl}{Q:QQX}(hh:A.handled=none)(hi:s.heap.IsTupleIter it t i)(ht:s.heap.IsTuple t its)(hx:its[i]?=none) (hE:∀g e,Heap.ExtBut it s.heap g->(∃o,g.get? e=some o/\o.cls=.type "StopIteration")->E (.ref e) {s with heap:=g}):wpAny (model prog w) A (Builtin.SmallTypes.nextOf (.ref it)) Q E s:=by
 obtain⟨ob,e1,e2,e3⟩:=id hi;obtain⟨ot,e4,_,nt,e5⟩:=ht;unfold Builtin.SmallTypes.nextOf;refine cY (fO (name:=Str.ofString "__next__") hi.typeIs gI (fT gI hi.typeIs ju ?_ (jp _)));show wpAny (model prog w) _ (field (.ref it) 0>>=_) _ _ s;refine cY (ft e1 e3 (x:=.ref t) rfl ?_);show wpAny (model prog w) _ (if (Value.ref t==Value.none)=true then _ else _) _ _ s;rw[df (show ¬(Value.ref t==Value.none)=true from dC)];show wpAny (model prog w) _ (field (.ref it) 1>>=_) _ _ s;refine cY (ft e1 e3 (x:=.int i 0) rfl ?_);show wpAny (model prog w) _ (seqItems? (.ref t)>>=_) _ _ s;refine cY (gz e4 e5 ?_);simp only[jy,hx];refine cY (kA (cY (h9 e1 e3 (by simp) ?_)));show wpAny (model prog w) _ (newExc (.type "StopIteration") []>>=_) _ _ _;refine cY ?_;simp only[newExc,newTuple];refine cY (fU ?_ (by size_fits));refine cY (m:=firstArgMember _ _) (wpAny_of_eq (a:=Value.none) (by first|rfl|(simp only[firstArgMember];rfl)) ?_);refine fU ?_ (by size_fits);simp only[raiseNew];refine cY (wpAny_handled ?_)
 first|rw[show A.in1.handled=none from hh]|rw[hh]
 refine cY (dq (wpAny_throw (hE _ _ (((kP ..).extBut.push _).push _) ⟨_,dI _ rfl,rfl⟩)))
def yg{prog:Pg}{w:Wo}{A:Ar}(hh:A.handled=none)(it t:Addr)(Xm:t≠it)(its:Array Vl):
  Draws prog w A it [it,t] its.size (λi v=>its[i]?=some v) (λi h=>h.IsTupleIter it t i/\h.IsTuple t its) where
 live:=λi h st=>let⟨o,ho,_⟩:=st.1;⟨o,ho⟩
 frame:=λi h g st hk=>by obtain⟨⟨o,e1,e2⟩,⟨o',e3,e4⟩⟩:=st;exact⟨⟨o,hk it (by simp) o e1,e2⟩,⟨o',hk t (by simp) o' e3,e4⟩⟩
 item:=λi s Q E hi st hQ=>Hf st.1 st.2 (x:=its[i]) (by simp[hi]) λg hg hs=>hQ _ g s.toks (by simp[hi]) ⟨hg,st.2.extBut hs.extBut Xm⟩ hs
 done:=λs Q E st hE=>CA hh st.1 st.2 (by simp) hE
structure zY(z TI TO i1 i2:Addr)(f1 f2:QXQ):Prop where
 a1:TI≠z
 a2:TO≠z
 a3:i1≠z
 a4:i2≠z
 a5:TI≠TO
 a6:TI≠i1
 a7:TI≠i2
 a8:TO≠i1
 a9:TO≠i2
 pB:i1≠i2
 b1:z∉f1
 b2:TO∉f1
 b3:i2∉f1
 c1:z∉f2
 c2:TO∉f2
 c3:i1∉f2
variable {z TI TO i1 i2:Addr}{f1 f2:QXQ}{n1 n2 k1 k2:Nat}{P1 P2:Nat→Vl→Prop}{S1 S2:Nat→Heap→Prop}
section
variable {a b:Vl}
def su{fp:QXQ}{it:Addr}{n:Nat}{Pt:Nat->Vl->Prop}{St:Nat->Heap->Prop}(Dr:Draws prog w A it fp n Pt St){i:Nat}{h g:Heap}{c:Addr}(st:St i h)(hs:Heap.SameBut c h g)(hc:c∉fp):St i g:=
 Dr.frame _ _ _ st λd hd o e=>(hs.2 d λq=>hc (q ▸ hd)).trans e
def KH{Q:QQX}(D1:Draws prog w A i1 f1 n1 P1 S1)(D2:Draws prog w A i2 f2 n2 P2 S2)(Xo:zY z TI TO i1 i2 f1 f2)(hz:IsZip s.heap z TI TO .none)(hI:IsPair s.heap TI (.ref i1) (.ref i2))(hO:IsPair s.heap TO a b) (XH:S1 k1 s.heap) (Xs:S2 k2 s.heap) (l1:k1<n1) (l2:k2<n2) (hQ:∀x y g tk,P1 k1 x->P2 k2 y->IsZip g z TI TO (rawInt s.heap.objs.size)->IsPair g TO x y->S1 (k1+1) g->S2 (k2+1) g->IsPair g s.heap.objs.size x y->g.objs.size=s.heap.objs.size+1->
   (∀c o,c≠z->c≠TO->c≠i1->c≠i2->s.heap.get? c=some o->g.get? c=some o)->Q (.ref s.heap.objs.size) {s with heap:=g,toks:=tk}):
  wpAny (model prog w) A (Builtin.«zip.__next__» ⟨[.ref z],[]⟩) (λW7 s'=>∃v,W7=.done (.ret v)/\Q v s') E s:=by
 show wpAny (model prog w) A (field (.ref z) 2>>=_) _ _ _;refine cY (ft hz rfl (x:=.bool false) rfl ?_);show wpAny (model prog w) A (field (.ref z) 3>>=_) _ _ _;refine cY (ft hz rfl (x:=.ref TI) rfl (cY (gz hI rfl ?_)));show wpAny (model prog w) A (Builtin.SmallTypes.ownedTupleIsFree (.ref z)>>=_) _ _ _;refine cY ?_;unfold Builtin.SmallTypes.ownedTupleIsFree;refine cY (ft hz rfl (x:=.none) rfl (dq ?_));simp only[jm];refine cY (kA (cY (ft hz rfl (x:=.ref TO) rfl (cY (gD hz (by simp) λg1 z1 YT=>?_)))));replace z1:IsZip g1 z TI TO .ellipsis:=z1;refine cY ?_;simp only[l8,mq,j4,kl];refine cY (cY (iM ?_));show wpAny (model prog w) A (Builtin.SmallTypes.nextOf (.ref i1)>>=_) _ _ _;have YU:S1 k1 g1:=su D1 XH YT Xo.b1;refine cY (D1.item k1 _ _ _ l1 YU λx g2 tk2 px st1b X7=>dq ?_);replace X7:Heap.SameBut i1 g1 g2:=X7;have o2:IsPair g2 TO a b:=X7.extBut _ _ Xo.a8 (YT.extBut _ _ Xo.a2 hO);refine cY (gz o2 rfl (cY (iW o2 λg3 o3 Yg=>?_)));replace o3:IsPair g3 TO x b:=o3;replace Yg:Heap.SameBut TO g2 g3:=Yg;refine cY (lN (dq (cY (cY (iM ?_)))));show wpAny (model prog w) A (Builtin.SmallTypes.nextOf (.ref i2)>>=_) _ _ _;have Zm:S2 k2 g3:=su D2 (su D2 (su D2 Xs YT Xo.c1) X7 Xo.c3) Yg Xo.c2;refine cY (D2.item k2 _ _ _ l2 Zm λy g4 tk4 py st2b Y4=>dq ?_);replace Y4:Heap.SameBut i2 g3 g4:=Y4;have o4:IsPair g4 TO x b:=Y4.extBut _ _ Xo.a9 o3;refine cY (gz o4 rfl (cY (iW o4 λg5 o5 Y5=>?_)));replace o5:IsPair g5 TO x y:=o5;replace Y5:Heap.SameBut TO g4 g5:=Y5;refine cY (lN (dq (dq (cY (gz o5 rfl (cY (wpAny_newTuple ?_)))))));have esz:g5.objs.size=s.heap.objs.size:=by rw[Y5.1,Y4.1,Yg.1,X7.1,YT.1]
 have z5:IsZip g5 z TI TO .ellipsis:=Y5.extBut _ _ Xo.a2.symm (Y4.extBut _ _ Xo.a4.symm (Yg.extBut _ _ Xo.a2.symm (X7.extBut _ _ Xo.a3.symm z1)));have kp:∀c o,c≠z->c≠TO->c≠i1->c≠i2->s.heap.get? c=some o->g5.get? c=some o:=λc o q1 q2 q3 q4 q=>Y5.extBut _ _ q2 (Y4.extBut _ _ q4 (Yg.extBut _ _ q2 (X7.extBut _ _ q3 (YT.extBut _ _ q1 q))));have st1c:S1 (k1+1) g5:=su D1 (su D1 (su D1 st1b Yg Xo.b2) Y4 Xo.b3) Y5 Xo.b2;have st2c:S2 (k2+1) g5:=su D2 st2b Y5 Xo.c2;have zlt:z<g5.objs.size:=dA z5;show wpAny (model prog w) A (Builtin.SmallTypes.ownedTupleHandOut (.ref z) (.ref g5.objs.size)>>=_) _ _ _;refine cY ?_;unfold Builtin.SmallTypes.ownedTupleHandOut;have z6:IsZip (g5.push {cls:=.type "tuple",data:=.seq #[x,y]}) z TI TO .ellipsis:=dg _ z5;refine cY (gD z6 (by simp) λg7 z7 sb7=>?_);replace z7:IsZip g7 z TI TO (rawInt g5.objs.size):=z7;refine gD z7 (by simp) λg8 z8 sb8=>?_;replace z8:IsZip g8 z TI TO (rawInt g5.objs.size):=z8;have up:∀c o,c≠z->g5.get? c=some o->g8.get? c=some o:=λc o q1 q=>sb8.extBut _ _ q1 (sb7.extBut _ _ q1 (dg _ q));have tu:IsPair g8 g5.objs.size x y:=sb8.extBut _ _ (gP zlt) (sb7.extBut _ _ (gP zlt) (dI _ rfl));have es8:g8.objs.size=g5.objs.size+1:=by rw[sb8.1,sb7.1,fB]
 rw[esz]at z8 tu es8;refine dq ⟨_,rfl,?_⟩;show Q (.ref g5.objs.size) _;rw[esz];exact hQ x y g8 _ px py z8 (up _ _ Xo.a2 o5) (D1.frame _ _ _ st1c λc hc o q=>up c o (λr=>Xo.b1 (r ▸ hc)) q) (D2.frame _ _ _ st2c λc hc o q=>up c o (λr=>Xo.c1 (r ▸ hc)) q) tu es8 λc o q1 q2 q3 q4 q=>up c o q1 (kp c o q1 q2 q3 q4 q)
def MZ{Q:Fin->Sd->Prop}(D1:Draws prog w A i1 f1 n1 P1 S1)(D2:Draws prog w A i2 f2 n2 P2 S2)(Xo:zY z TI TO i1 i2 f1 f2)(hz:IsZip s.heap z TI TO .none)(hI:IsPair s.heap TI (.ref i1) (.ref i2))(hO:IsPair s.heap TO a b) (XH:S1 k1 s.heap) (Xs:S2 k1 s.heap) (Z9:k1=n1\/(k1<n1/\k1=n2)) (hE:∀g e,(∀c o,c≠z->c≠TO->c≠i1->c≠i2->s.heap.get? c=some o->g.get? c=some o)->(∃o,g.get? e=some o/\o.cls=.type "StopIteration")->∀tk,E (.ref e) {s with heap:=g,toks:=tk}):
  wpAny (model prog w) A (Builtin.«zip.__next__» ⟨[.ref z],[]⟩) Q E s:=by
 show wpAny (model prog w) A (field (.ref z) 2>>=_) _ _ _;refine cY (ft hz rfl (x:=.bool false) rfl ?_);show wpAny (model prog w) A (field (.ref z) 3>>=_) _ _ _;refine cY (ft hz rfl (x:=.ref TI) rfl (cY (gz hI rfl ?_)));show wpAny (model prog w) A (Builtin.SmallTypes.ownedTupleIsFree (.ref z)>>=_) _ _ _;refine cY ?_;unfold Builtin.SmallTypes.ownedTupleIsFree;refine cY (ft hz rfl (x:=.none) rfl (dq ?_));simp only[jm];refine cY (kA (cY (ft hz rfl (x:=.ref TO) rfl (cY (gD hz (by simp) λg1 z1 YT=>?_)))));replace z1:IsZip g1 z TI TO .ellipsis:=z1;refine cY ?_;simp only[l8,mq,j4,kl];refine cY (cY (iM ?_));show wpAny (model prog w) A (Builtin.SmallTypes.nextOf (.ref i1)>>=_) _ _ _;have YU:S1 k1 g1:=su D1 XH YT Xo.b1;rcases Z9 with he|⟨Xe,he⟩
 .rw[he]at YU;refine cY (D1.done _ _ _ YU λg2 e X7 hx=>?_);obtain⟨oe,g,hce⟩:=hx;have z2:IsZip g2 z TI TO .ellipsis:=X7 _ _ Xo.a3.symm z1;have hez:e≠z:=λq=>by subst q;rw[z2]at g;cases g;simp at hce
  exact gD z2 (by simp) λg3 _ Yg=>hE g3 e (λc o q1 _ q3 _ q=>Yg.extBut _ _ q1 (X7 _ _ q3 (YT.extBut _ _ q1 q))) ⟨oe,Yg.extBut _ _ hez g,hce⟩ _
 .refine cY (D1.item k1 _ _ _ Xe YU λx g2 tk2 px st1b X7=>dq ?_);replace X7:Heap.SameBut i1 g1 g2:=X7;have o2:IsPair g2 TO a b:=X7.extBut _ _ Xo.a8 (YT.extBut _ _ Xo.a2 hO);refine cY (gz o2 rfl (cY (iW o2 λg3 o3 Yg=>?_)));replace Yg:Heap.SameBut TO g2 g3:=Yg;refine cY (lN (dq (cY (cY (iM ?_)))));show wpAny (model prog w) A (Builtin.SmallTypes.nextOf (.ref i2)>>=_) _ _ _;have Zm:S2 k1 g3:=su D2 (su D2 (su D2 Xs YT Xo.c1) X7 Xo.c3) Yg Xo.c2;rw[he]at Zm;refine cY (D2.done _ _ _ Zm λg4 e Y4 hx=>?_);obtain⟨oe,g,hce⟩:=hx;have z4:IsZip g4 z TI TO .ellipsis:=Y4 _ _ Xo.a4.symm (Yg.extBut _ _ Xo.a2.symm (X7.extBut _ _ Xo.a3.symm z1));have hez:e≠z:=λq=>by subst q;rw[z4]at g;cases g;simp at hce
  exact gD z4 (by simp) λg5 _ Y5=>hE g5 e (λc o q1 q2 q3 q4 q=>Y5.extBut _ _ q1 (Y4 _ _ q4 (Yg.extBut _ _ q2 (X7.extBut _ _ q3 (YT.extBut _ _ q1 q))))) ⟨oe,Y5.extBut _ _ hez g,hce⟩ _
end
abbrev Ve(h:Heap)(t:Addr):Heap:=h.push {cls:=.type "tuple_iterator",data:=.fields #[.ref t,.int 0 0]}
abbrev Vg(h:Heap)(t u:Addr):Heap:=(Ve h t).push {cls:=.type "tuple_iterator",data:=.fields #[.ref u,.int 0 0]}
abbrev Vh(h:Heap)(t u:Addr):Heap:=(Vg h t u).push {cls:=.type "tuple",data:=.seq #[.ref h.objs.size,.ref (Ve h t).objs.size]}
abbrev Vb(h:Heap)(t u:Addr):Heap:=(Vh h t u).push {cls:=.type "tuple",data:=.seq #[.none,.none]}
abbrev Tc(h:Heap)(t u:Addr):Heap:=(Vb h t u).push {cls:=.type "zip",data:=.fields #[.none,.bool false,.bool false,.ref (Vg h t u).objs.size,.ref (Vh h t u).objs.size]}
def CV(t u:Addr)(xs ys:Array Vl):
  Meets (Builtin.«zip.__new__» ⟨[.type "zip",.ref t,.ref u],[]⟩) (λ_ R s=>s.heap.IsTuple t xs/\s.heap.IsTuple u ys/\R (.ok (.ret (.ref (Vb s.heap t u).objs.size))) {s with heap:=Tc s.heap t u}):=
 .of_wp λprog w A R s h=>by
  obtain⟨hp,g,d,tk,os⟩:=s;obtain⟨e1,e2,h⟩:=h;have YO:=sub_zip;have q1:Heap.IsTuple (Shared.heap ⟨hp,g,d,tk,os⟩) t xs:=e1;have q2:Heap.IsTuple (Shared.heap ⟨hp.push {cls:=.type "tuple_iterator",data:=.fields #[.ref t,.int 0 0]},g,d,tk,os⟩) u ys:=Heap.IsTuple.push e2 _
  wp_walk using iz q1,iz q2
  exact⟨_,rfl,h⟩
def ES{t u:Addr}{xs ys:Array Vl}{Q:QQX}(ht:s.heap.IsTuple t xs)(hu:s.heap.IsTuple u ys) (h:∀g,IsZip g (s.heap.objs.size+4) (s.heap.objs.size+2) (s.heap.objs.size+3) .none->IsPair g (s.heap.objs.size+2) (.ref s.heap.objs.size) (.ref (s.heap.objs.size+1))->IsPair g (s.heap.objs.size+3) .none .none->
   g.IsTupleIter s.heap.objs.size t 0->g.IsTupleIter (s.heap.objs.size+1) u 0->(∀c o,s.heap.get? c=some o->g.get? c=some o)->Q (.ref (s.heap.objs.size+4)) {s with heap:=g}):
  wpAny (model prog w) A (call (.type "zip") [.ref t,.ref u]) Q E s:=by
 refine callType_new F.called_zip (by decide) (F.typeCall_zip_2 _ _) (F.newCall_zip_2 _ _) (λobj=>F.args_object_init_3 obj _ _) F.entry_zip_new (CV t u xs ys) ⟨ht,hu,?_⟩;have m1:(Ve s.heap t).objs.size=s.heap.objs.size+1:=fB ..;have m2:(Vg s.heap t u).objs.size=s.heap.objs.size+2:=by rw[fB,m1]
 have m3:(Vh s.heap t u).objs.size=s.heap.objs.size+3:=by rw[fB,m2]
 have m4:(Vb s.heap t u).objs.size=s.heap.objs.size+4:=by rw[fB,m3]
 have up:∀{h:Heap} {c:Addr} {o p:Obj},h.get? c=some o->(h.push p).get? c=some o:=λq=>dg _ q;have r5:(Tc s.heap t u).get? (Vb s.heap t u).objs.size=some _:=dI _ rfl;have r4:(Tc s.heap t u).get? (Vh s.heap t u).objs.size=some _:=up (dI _ rfl);have r3:(Tc s.heap t u).get? (Vg s.heap t u).objs.size=some _:=up (up (dI _ rfl));have r2:(Tc s.heap t u).get? (Ve s.heap t).objs.size=some _:=up (up (up (dI _ rfl)));have r1:(Tc s.heap t u).get? s.heap.objs.size=some _:=up (up (up (up (dI _ rfl))));show _/\_;rw[m2,m3,m4]at r5;rw[m1,m2]at r3;rw[m3]at r4;rw[m1]at r2;rw[m4];exact⟨⟨_,r5,rfl⟩,h _ r5 r3 r4 ⟨_,r1,rfl,rfl⟩ ⟨_,r2,rfl,rfl⟩ λc o q=>up (up (up (up (up q))))⟩
def G1{z TI TO i1 i2:Addr}{f1 f2:QXQ}{n1 n2 k:Nat}{P1 P2:Nat->Vl->Prop}{S1 S2:Nat->Heap->Prop}{a b:Vl}{Q:Option Vl->Sd->Prop}(D1:Draws prog w A.in1 i1 f1 n1 P1 S1)(D2:Draws prog w A.in1 i2 f2 n2 P2 S2)(Xo:zY z TI TO i1 i2 f1 f2) (hz:IsZip s.heap z TI TO .none) (hI:IsPair s.heap TI (.ref i1) (.ref i2)) (hO:IsPair s.heap TO a b) (XH:S1 k s.heap) (Xs:S2 k s.heap) (l1:k<n1) (l2:k<n2) (hQ:∀x y g tk,P1 k x->P2 k y->IsZip g z TI TO (rawInt s.heap.objs.size)->IsPair g TO x y->S1 (k+1) g->S2 (k+1) g->IsPair g s.heap.objs.size x y->g.objs.size=s.heap.objs.size+1->
   (∀c o,c≠z->c≠TO->c≠i1->c≠i2->s.heap.get? c=some o->g.get? c=some o)->Q (some (.ref s.heap.objs.size)) {s with heap:=g,toks:=tk}):wpAny (model prog w) A (pyNext (.ref z)) Q E s:=by
 have hT:s.TypeIs (.ref z) "zip":=⟨_,hz,rfl⟩;unfold pyNext;refine cY (kI (fO (name:=Str.ofString "__next__") hT iX (fT iX hT ma ?_ (lJ _))));exact KH D1 D2 Xo hz hI hO XH Xs l1 l2 λx y g tk q1 q2 q3 q4 q5 q6 q7 q8 q9=>dq (hQ x y g tk q1 q2 q3 q4 q5 q6 q7 q8 q9)
def Be{z TI TO i1 i2:Addr}{f1 f2:QXQ}{n1 n2 k:Nat}{P1 P2:Nat->Vl->Prop}{S1 S2:Nat->Heap->Prop}{a b:Vl}{Q:Option Vl->Sd->Prop}(D1:Draws prog w A.in1 i1 f1 n1 P1 S1)(D2:Draws prog w A.in1 i2 f2 n2 P2 S2)(Xo:zY z TI TO i1 i2 f1 f2) (hz:IsZip s.heap z TI TO .none) (hI:IsPair s.heap TI (.ref i1) (.ref i2)) (hO:IsPair s.heap TO a b) (XH:S1 k s.heap) (Xs:S2 k s.heap) (Z9:k=n1\/(k<n1/\k=n2)) (hQ:∀g tk,(∀c o,c≠z->c≠TO->c≠i1->c≠i2->s.heap.get? c=some o->g.get? c=some o)->Q none {s with heap:=g,toks:=tk}):wpAny (model prog w) A (pyNext (.ref z)) Q E s:=by
 have hT:s.TypeIs (.ref z) "zip":=⟨_,hz,rfl⟩;unfold pyNext;refine cY (kI (fO (name:=Str.ofString "__next__") hT iX (fT iX hT ma (MZ D1 D2 Xo hz hI hO XH Xs Z9 λg e kp hx tk=>?_) (lJ _))));obtain⟨o,e1,e2⟩:=hx;exact cY (wpAny_isInstance (T:="StopIteration") (b:=true) ⟨o,e1,e2⟩ isSubtype_stop (dq (hQ g tk kp)))
def Fx{a b:Addr}{xs:List V}(I:Inv X W2 σ H s)(f:A9 X W2 H b)(q:ve X.K H a xs):a≠b:=by
 rintro rfl
 rcases q with q|⟨o,its,n,hk,_⟩
 .have z:=f.1;rcases q with q|⟨u,q⟩<;>(rw[q]at z;cases z)
 .have e:=I.mod.oN a o hk;rcases f.2.2.2.1 with z|z
  .exact I.ok.nZ a o e z
  .exact absurd (dP (dA e) (d9 I.ok.oq z)) (fj _)
def Wa(K:qw)(a b:Addr):It:=
 ⟨λi H=>∃xs ys x y,ve K H a xs/\ve K H b ys/\xs[i]?=some x/\ys[i]?=some y,λi H v H'=>∃p x y,v=.ref p/\H p=none/\H'=upd H p (.tup [x,y])/\(∀xs,ve K H a xs->xs[i]?=some x)/\(∀ys,ve K H b ys->ys[i]?=some y),λi H=>∃xs ys,ve K H a xs/\ve K H b ys/\i=min xs.length ys.length⟩
def Nf{P:Pg}{w:Wo}{K:qw}{Xt:List Expr}{n:Nat}{tp:Pos}(a b z TI TO i1 i2:Addr)(a1:TI≠z)(a2:TO≠z)(a3:i1≠z)(a4:i2≠z)(a5:TI≠TO)(a6:TI≠i1)(a7:TI≠i2)(a8:TO≠i1)(a9:TO≠i2)(pB:i1≠i2):
  FV P w K (.Tuple Xt n tp) (Wa K a b) [z,TI,TO,i1,i2] z (λi h=>IsZip h z TI TO .none/\IsPair h TI (.ref i1) (.ref i2)/\(∃u v,IsPair h TO u v)/\h.IsTupleIter i1 a i/\h.IsTupleIter i2 b i) where
 mem:=by simp
 obj:=λi h st c hc=>by
  obtain⟨h1,h2,⟨u,v,h3⟩,⟨o4,h4,_,d4⟩,⟨o5,h5,_,d5⟩⟩:=st;simp only[dv,dJ,fg]at hc;rcases hc with rfl|rfl|rfl|rfl|rfl
  .exact⟨_,h1,λv z=>by cases z⟩
  .exact⟨_,h2,λv z=>by cases z⟩
  .exact⟨_,h3,λv z=>by cases z⟩
  .exact⟨_,h4,λv z=>by rw[d4]at z;cases z⟩
  .exact⟨_,h5,λv z=>by rw[d5]at z;cases z⟩
 keep:=λi h h' st k=>by obtain⟨h1,h2,⟨u,v,h3⟩,⟨o4,h4,c4⟩,⟨o5,h5,c5⟩⟩:=st;exact⟨k z (by simp) _ h1,k TI (by simp) _ h2,⟨u,v,k TO (by simp) _ h3⟩,⟨o4,k i1 (by simp) _ h4,c4⟩,⟨o5,k i2 (by simp) _ h5,c5⟩⟩
 item:=by
  intro X hP hw hK hc i W2 s σ H E I hf st hg;subst hP hw hK;obtain⟨xs,ys,x,y,hx,hy,ex,ey⟩:=hg;obtain⟨its,rx,px,_⟩:=I.tuple hx;obtain⟨Y2,ry,py,_⟩:=I.tuple hy;obtain⟨u,eu,ru⟩:=rx.get ex;obtain⟨v,ev,rv⟩:=ry.get ey;obtain⟨h1,h2,⟨p,q,h3⟩,h4,h5⟩:=st;have hh:X.A.in1.handled=none:=I.ok.hd hc;have fa:∀c∈[z,TI,TO,i1,i2],a≠c:=λc hc=>Fx I (hf c hc) hx;have fb:∀c∈[z,TI,TO,i1,i2],b≠c:=λc hc=>Fx I (hf c hc) hy;have Xo:zY z TI TO i1 i2 [i1,a] [i2,b]:=⟨a1,a2,a3,a4,a5,a6,a7,a8,a9,pB,by
   simp only[dv,dJ,fg,fN];exact⟨dR a3,dR (fa z (by simp))⟩,by
   simp only[dv,dJ,fg,fN];exact⟨a8,dR (fa TO (by simp))⟩,by
   simp only[dv,dJ,fg,fN];exact⟨dR pB,dR (fa i2 (by simp))⟩,by
   simp only[dv,dJ,fg,fN];exact⟨dR a4,dR (fb z (by simp))⟩,by
   simp only[dv,dJ,fg,fN];exact⟨a9,dR (fb TO (by simp))⟩,by
   simp only[dv,dJ,fg,fN];exact⟨pB,dR (fb i1 (by simp))⟩⟩
  have l1:i<its.toArray.size:=by
   have:=(c9.mp eu).1
   simpa using this
  have l2:i<Y2.toArray.size:=by
   have:=(c9.mp ev).1
   simpa using this
  refine G1 (yg hh i1 a (fa i1 (by simp)) its.toArray) (yg hh i2 b (fb i2 (by simp)) Y2.toArray) Xo h1 h2 h3 ⟨h4,px⟩ ⟨h5,py⟩ l1 l2 λx' y' g tk e1 e2 z1 o1 s1 s2 t1 sz kp=>?_;have e1':x'=u:=by
   have:its[i]?=some x':=by simpa using e1
   rw[eu]at this;exact(dw this).symm
  have Zf:y'=v:=by
   have:Y2[i]?=some y':=by simpa using e2
   rw[ev]at this;exact(dw this).symm
  subst e1' Zf;refine⟨_,rfl,wpAny_letOwnedTupleGo_zip z1 λg2 z2 sb=>?_⟩;have zlt:z<s.heap.objs.size:=dA h1;have kk:∀c o,c∉[z,TI,TO,i1,i2]->s.heap.get? c=some o->g2.get? c=some o:=λc o hc e=>by simp only[dv,dJ,fg,fN]at hc;exact(sb.2 c hc.1).trans (kp c o hc.1 hc.2.2.1 hc.2.2.2.1 hc.2.2.2.2 e)
  have t2:g2.get? s.heap.objs.size=some {cls:=.type "tuple",data:=.seq #[x',y']}:=(sb.2 _ (gP zlt)).trans t1;have Zl:H s.heap.objs.size=none:=I.mZ.fresh (dz _);have I2:=I.drawn (ch:=[z,TI,TO,i1,i2]) (T:=s.heap.objs.size) (xs:=[x,y]) (its:=[x',y']) (h':=g2) (tk:=tk) hf kk (dz _) (by show 2<=sizeLine;decide) (.cons ru (.cons rv .nil)) ⟨_,t2,rfl,⟨_,rfl⟩,rfl⟩;refine⟨.ref s.heap.objs.size,_,I2,rfl,⟨_,x,y,rfl,Zl,rfl,λxs' hx'=>by rw[I.nC hx' hx];exact ex,λys' hy'=>by rw[I.nC hy' hy];exact ey⟩,?_,λc hc=>?_⟩
  .obtain⟨o4,g4,c4⟩:=s1.1;obtain⟨o5,g5,c5⟩:=s2.1;exact⟨z2,(sb.2 _ a1).trans (kp _ _ a1 a5 a6 a7 h2),⟨_,_,(sb.2 _ a2).trans o1⟩,⟨o4,(sb.2 _ a3).trans g4,c4⟩,⟨o5,(sb.2 _ a4).trans g5,c5⟩⟩
  .have n0:=(hf c hc).1;obtain⟨o,eo⟩:∃o,s.heap.get? c=some o:=by
    obtain⟨o4,g4,_⟩:=h4;obtain⟨o5,g5,_⟩:=h5;simp only[dv,dJ,fg]at hc;rcases hc with rfl|rfl|rfl|rfl|rfl
    .exact⟨_,h1⟩
    .exact⟨_,h2⟩
    .exact⟨_,h3⟩
    .exact⟨_,g4⟩
    .exact⟨_,g5⟩
   rw[qd (dG (dA eo))];exact n0
 done:=by
  intro X hP hw hK hc i W2 s σ H E I hf st hg;subst hP hw hK;obtain⟨xs,ys,hx,hy,hi⟩:=hg;obtain⟨its,rx,px,_⟩:=I.tuple hx;obtain⟨Y2,ry,py,_⟩:=I.tuple hy;obtain⟨h1,h2,⟨p,q,h3⟩,h4,h5⟩:=st;have hh:X.A.in1.handled=none:=I.ok.hd hc;have fa:∀c∈[z,TI,TO,i1,i2],a≠c:=λc hc=>Fx I (hf c hc) hx;have fb:∀c∈[z,TI,TO,i1,i2],b≠c:=λc hc=>Fx I (hf c hc) hy;have Xo:zY z TI TO i1 i2 [i1,a] [i2,b]:=⟨a1,a2,a3,a4,a5,a6,a7,a8,a9,pB,by
   simp only[dv,dJ,fg,fN];exact⟨dR a3,dR (fa z (by simp))⟩,by
   simp only[dv,dJ,fg,fN];exact⟨a8,dR (fa TO (by simp))⟩,by
   simp only[dv,dJ,fg,fN];exact⟨dR pB,dR (fa i2 (by simp))⟩,by
   simp only[dv,dJ,fg,fN];exact⟨dR a4,dR (fb z (by simp))⟩,by
   simp only[dv,dJ,fg,fN];exact⟨a9,dR (fb TO (by simp))⟩,by
   simp only[dv,dJ,fg,fN];exact⟨pB,dR (fb i1 (by simp))⟩⟩
  have e1:=rx.length;have e2:=ry.length;refine Be (yg hh i1 a (fa i1 (by simp)) its.toArray) (yg hh i2 b (fb i2 (by simp)) Y2.toArray) Xo h1 h2 h3 ⟨h4,px⟩ ⟨h5,py⟩ (by simp only[dB];omega) λg tk kp=>⟨rfl,?_⟩;have kk:∀c o,c∉[z,TI,TO,i1,i2]->s.heap.get? c=some o->g.get? c=some o:=λc o hc e=>by simp only[dv,dJ,fg,fN]at hc;exact kp c o hc.1 hc.2.2.1 hc.2.2.2.1 hc.2.2.2.2 e
  refine I.step (g':=s.gens) (d':=s.drawn) (t':=tk) (ch:=[z,TI,TO,i1,i2]) (λc hc=>⟨(hf c hc).2.2.2.1,(hf c hc).2.1,(hf c hc).2.2.2.2.1,(hf c hc).2.2.2.2.2⟩) ?_ ?_ (λc o _ e n=>n) ?_ (λ_ _ e=>e) (λ_ _ _ e=>e) (λc ps e=>⟨#[],by rw[e];simp⟩) ?_ ?_ I.bare
  .exact λc o _ _ hc e _=>kk c o hc e
  .exact λc o _ _ hc e _=>⟨o.slots,kk c o hc e⟩
  .exact λc o hc e=>⟨o,kk c o hc e⟩
  .intro m hm;obtain⟨o,es,ep,ho,r⟩:=hm;exact⟨o,es,ep,kk _ o (λy=>(hf _ y).2.1 rfl) ho,r⟩
  .intro c u e;refine(I.mZ c u e).nE (λd v hd q=>kk d v (λy=>?_) q) (λ_ q=>q) λ_ _ q=>q;have n:=(hf d y).1;rcases hd with x|x
   .rw[x,e]at n;cases n
   .rw[x]at n;cases n
 self:=λ_ _ _ _ _ st h=>me st.1 h
def Rx{a b:Expr}{ta:TA}(hg:Gl X "zip")(hm:X.mg "zip"=none)(ha:PA X [a,b] ta)(hs:starEach [a,b] X.env=[(false,eval a X.env),(false,eval b X.env)]:=by rfl)(YI:starEach [b] X.env=[(false,eval b X.env)]:=by rfl):
  PI X (.Tuple Xt n tp) (.Call (.Name "zip" p) [a,b] [] pos) (λσ H R=>ta σ H λvs H1=>∃l m,vs=[.ref l,.ref m]/\(∃xs,ve X.K H1 l xs)/\(∃xs,ve X.K H1 m xs)/\R (Wa X.K l m) H1):=by
 intro W2 s σ H R I h;refine Call_ (wD I hg hm SY (fW (sH (ha pos W2 s σ H _ I h) λus s1 zz=>x5 zz λvs H1 I1 r1 q1=>?_) (by rw[hs,YI]) (by rw[YI];rfl)));obtain⟨l,m,e,⟨xs,hx⟩,⟨ys,hy⟩,q⟩:=q1;subst e;obtain⟨u,v,rfl,ru,rv⟩:=Mv r1;cases ru;cases rv;obtain⟨its,_,px,_⟩:=I1.tuple hx;obtain⟨Y2,_,py,_⟩:=I1.tuple hy;refine ES px py λg h1 h2 h3 h4 h5 hk=>me h1 ?_;have I2:Inv X W2 σ H1 {s1 with heap:=g}:=I1.kept (t':=s1.toks) hk;refine⟨s1.heap.objs.size+4,[s1.heap.objs.size+4,s1.heap.objs.size+2,s1.heap.objs.size+3,s1.heap.objs.size,s1.heap.objs.size+1],_,_,H1,rfl,I2,Nf l m _ _ _ _ _ ?_ ?_ ?_ ?_ ?_ ?_ ?_ ?_ ?_ ?_,⟨h1,h2,⟨_,_,h3⟩,h4,h5⟩,λb hb=>?_,q⟩
 .exact λz=>by have z:s1.heap.objs.size+2=s1.heap.objs.size+4:=z;omega
 .exact λz=>by have z:s1.heap.objs.size+3=s1.heap.objs.size+4:=z;omega
 .exact λz=>by have z:s1.heap.objs.size=s1.heap.objs.size+4:=z;omega
 .exact λz=>by have z:s1.heap.objs.size+1=s1.heap.objs.size+4:=z;omega
 .exact λz=>by have z:s1.heap.objs.size+2=s1.heap.objs.size+3:=z;omega
 .exact λz=>by have z:s1.heap.objs.size+2=s1.heap.objs.size:=z;omega
 .exact λz=>by have z:s1.heap.objs.size+2=s1.heap.objs.size+1:=z;omega
 .exact λz=>by have z:s1.heap.objs.size+3=s1.heap.objs.size:=z;omega
 .exact λz=>by have z:s1.heap.objs.size+3=s1.heap.objs.size+1:=z;omega
 .exact λz=>by have z:s1.heap.objs.size=s1.heap.objs.size+1:=z;omega
 .have XY:s1.heap.objs.size<=b:=by
   simp only[dv,dJ,fg]at hb;rcases hb with rfl|rfl|rfl|rfl|rfl
   .exact iN _ _
   .exact iN _ _
   .exact iN _ _
   .exact dz _
   .exact iN _ _
  exact I1.oi XY (I1.mZ.fresh XY)
def Bf:List D->List D->List D
 | x::a,y::b=>.tup [x,y]::Bf a b
 | _,_=>[]
theorem I9:∀{ds es:List D} {i:Nat},(Bf ds es)[i]?=(ds[i]?).bind λd=>(es[i]?).map λe=>D.tup [d,e]
 | [],es,i=>by simp[Bf]
 | d::ds,[],i=>by simp[Bf]
 | d::ds,e::es,0=>by simp[Bf]
 | d::ds,e::es,i+1=>by show(Bf ds es)[i]?=_;rw[I9];simp
theorem FH:∀{ds es:List D},(Bf ds es).length=min ds.length es.length
 | [],es=>by simp[Bf]
 | d::ds,[]=>by simp[Bf]
 | d::ds,e::es=>by show(Bf ds es).length+1=_;rw[FH];simp only[eD];omega
def Oq{K:qw}{H1:Hp}{a b:Addr}{ds es:List D}{xs ys:List V}(h1:ve K H1 a xs)(h2:qu K H1 ds xs)(g1:ve K H1 b ys)(g2:qu K H1 es ys):GN K H1 (Wa K a b) (Bf ds es) (λ_=>True) where
 go:=λi H M hi hm ok e1=>by rw[FH]at hi;obtain⟨x,ex,_⟩:=h2.get (cZ (show i<ds.length by omega));obtain⟨y,ey,_⟩:=g2.get (cZ (show i<es.length by omega));exact⟨xs,ys,x,y,e1.t _ _ h1,e1.t _ _ g1,ex,ey⟩
 oU:=λi d H M v H' hd hm ok e1 y=>by
  obtain⟨p,x,z,rfl,hp,rfl,y1,y2⟩:=y;rw[I9]at hd;cases e:ds[i]? with
  | none=>rw[e]at hd;cases hd
  | some d'=>
   cases e':es[i]? with
   | none=>rw[e,e']at hd;cases hd
   | some d''=>rw[e,e']at hd;cases hd;obtain⟨x',q1,hx⟩:=h2.get e;obtain⟨z',q2,hz⟩:=g2.get e';have w1:=y1 xs (e1.t _ _ h1);have w2:=y2 ys (e1.t _ _ g1);rw[q1]at w1;rw[q2]at w2;have v1:x'=x:=dw w1;have v2:z'=z:=dw w2;subst v1 v2;have ex:qS K H (upd H p (.tup [x',z'])):=.new hp;exact⟨.tup (.of qp) (.cons (hx.mono (e1.trans ex)) (.cons (hz.mono (e1.trans ex)) .nil)),hm.add hp,ex⟩
 stop:=λH M hm ok e1=>⟨xs,ys,e1.t _ _ h1,e1.t _ _ g1,by rw[FH,h2.length,g2.length]⟩
def TJ(t:xA):NS:=λδ M R=>t δ M λds M1=>match ds with
 | [.tup a,.tup b]=>R (Bf a b) (λ_=>True) M1
 | _=>False
def Rq{a b:Expr}{ta:xA}(hg:Gl X "zip")(hm:X.mg "zip"=none)(ha:A3 X [a,b] ta)(hs:starEach [a,b] X.env=[(false,eval a X.env),(false,eval b X.env)]:=by rfl)(YI:starEach [b] X.env=[(false,eval b X.env)]:=by rfl):
  I3 X (.Tuple Xt n tp) (.Call (.Name "zip" p) [a,b] [] pos) (TJ ta):=
 PI.mono (Rx hg hm ha hs YI) λσ H R' zz=>x7 zz λδ M R hs hm ht k=>⟨δ,M,_,hs,hm,ht,λvs H1 ds M1 hd W5 e1 q1=>by
  split at q1
  .obtain⟨v,u,rfl,hv,hw⟩:=EY hd;obtain⟨l,xs,rfl,h1,h2⟩:=hv.mY;obtain⟨m,ys,rfl,g1,g2⟩:=hw.mY;exact⟨l,m,rfl,⟨xs,h1⟩,⟨ys,g1⟩,k _ H1 _ _ M1 (Oq h1 h2 g1 g2) W5 e1 trivial q1⟩
  .exact q1.elim⟩
def qz(M M':Mp):Prop:=∀a c,M a=some c->M' a=some c
def qz.refl{M:Mp}:qz M M:=λ_ _ h=>h
def qz.trans{M M1 M2:Mp}(a:qz M M1)(b:qz M1 M2):qz M M2:=λx c h=>b x c (a x c h)
def qz.new{M:Mp}{p:Addr}{c:uT}(h:M p=none):qz M (pL M p c):=λx d q=>by rw[uh (Qi q h)];exact q
def qz.lst{M M':Mp}{a:Addr}{ds:List D}(s:qz M M')(h:pf M a=some ds):pf M' a=some ds:=by
 unfold pf at h ⊢;cases e:M a with
 | none=>rw[e]at h;cases h
 | some c=>rw[s a c e];rw[e]at h;exact h
def HM.sub{K:qw}{H:Hp}{M M':Mp}(h:HM K H M')(s:qz M M'):HM K H M:=λa c q=>h a c (s a c q)
def UV{x qual:Str}{st:Stmt}{f:Addr}{fd:FuncData}{N ps:QQQ}{k:Nat}{sp:rC}(F:O8 K x qual st f fd)(S:sZ N ps (ql st))(len:∀ds M Q,sp ds M Q->ds.length=ps.length) (Xq:∀(Xc:Vl) (A:Ar) (outer:List Env) (s:Sd) (H:Hp) (E:XK),sj k (A.deeper (envOfC qual (ql st) s.heap.objs.size f Xc))->
   ∃t,Hn (vB NR P w K mg base N qual (ql st) f Xc A outer s H E).oQ (rY st) t/\∀ds M Q,sp ds M Q->t {nx:=λ_ M'=>∃W8,qz W8 M'/\Q .mW W8,rt:=λd M'=>∃W8,qz W8 M'/\Q d W8} (xi N ds) M):Ti P w K mg base (k+1) f fd ps sp:=by
 refine F.ok S (λvs H Q E h=>?_) (λXc A outer s H vs Q' E hr h=>?_)
 .obtain⟨ds,M,Q,hd,_,hs,_⟩:=h;rw[<-hd.length];exact len ds M Q hs
 .obtain⟨ds,M,Q,hd,hm,hs,k⟩:=h;obtain⟨t,ht,hb⟩:=Xq Xc A outer s H E hr;exact⟨_,ht,xi N ds,M,_,DR hd,hm,hb ds M Q hs,λσ' H' δ' M' _ x2 x3 _ ⟨W8,y1,y2⟩=>k .mW H' .mW W8 .mW (x2.sub y1) x3 y2,λv H' d M' x1 x2 x3 ⟨W8,y1,y2⟩=>k v H' d W8 x1 (x2.sub y1) x3 y2,λ_ _ _ _ _ _ _ _ z=>z,λ_ _ _ _ _ _ _ _ z=>z⟩
theorem BG{g:Dd}{te:T3}{ok:Mp->Prop}{Q:DK}{f:D->D}{M:Mp}(J:vg->Prop)(mZ:ok M):∀(ds acc:List D) (δ:vg),J δ->acc.length+ds.length<=sizeLine->
  (∀d∈ds,∀δ,J δ->∀k:vg->DK,(∀δ',J δ'->k δ' (f d) M)->g d δ M λδ2 M2=>te δ2 M2 (k δ2))->(∀p,M p=none->Q (.ref p) (pL M p (.lst (acc++ds.map f))))->uY g BQ te ok Q ds acc δ M
 | [],acc,δ,_,hl,_,hq=>⟨by simpa using hl,by simpa using hq⟩
 | d::r,acc,δ,hj,hl,ht,hq=>by
  rw[eD]at hl;refine⟨by omega,?_⟩;refine ht d dU δ hj (λδ2 y M4=>ok M4/\uY g BQ te ok Q r (acc++[y]) δ2 M4) λδ' hj'=>⟨mZ,BG (f:=f) J mZ r (acc++[f d]) δ' hj' ?_ (λe he=>ht e (dH _ he)) ?_⟩
  .rw[de,dS];omega
  .simpa using hq
def qV{i:Nat}{te:T3}{ok:Mp->Prop}{Q:DK}{f:D->D}{M:Mp}(mZ:ok M):∀(ds acc:List D) (δ:vg),acc.length+ds.length<=sizeLine->(∀d∈ds,∀k:DK,k (f d) M->te (δ.set i (some d)) M k)->
  (∀p,M p=none->Q (.ref p) (pL M p (.lst (acc++ds.map f))))->uY (tD i) BQ te ok Q ds acc δ M:=λds acc δ hl ht hq=>
 BG (f:=f) (λδ'=>∀d,δ'.set i (some d)=δ.set i (some d)) mZ ds acc δ (λ_=>rfl) hl (λd hd δ' hj k hk=>by
  show te (δ'.set i (some d)) M (k (δ'.set i (some d)));rw[hj d];exact ht d hd _ (hk _ λe=>by rw[iY])) hq
theorem wI{α:Type}(f:α->Bool):∀l:List α,F6 (l.map λx=>D.bl (f x))=some (l.map f)
 | []=>rfl
 | x::r=>by show(F6 (r.map λx=>D.bl (f x))).map (f x::·)=_;rw[wI f r];rfl
def pK{M:Mp}{p:Addr}{ds:List D}:pf (pL M p (.lst ds)) p=some ds:=by unfold pf;rw[pX]
def i'{α:Type}{o:Option α}{P:α->Prop}{x:α}(e:o=some x)(h:P x):o.elim False P:=by rw[e];exact h
def pA{l:List D}(h:decide (l.length<=100)=true):l.length<=sizeLine:=by have z:=dN;have:=fR h;omega
theorem Bl{g:Dd}{tb:xq}{ok:Mp->Prop}{E:F4}(J:vg->Mp->Prop)(mZ:∀δ M,J δ M->ok M):∀(ds:List D) (δ:vg) (M:Mp),J δ M->
  (∀d∈ds,∀δ M,J δ M->∀nx:vg->Mp->Prop,(∀δ' M',J δ' M'->nx δ' M')->g d δ M λδ2 M2=>tb {E with nx:=nx,ct:=nx,bk:=E.nx} δ2 M2)->(∀δ M,J δ M->E.nx δ M)->E6 g tb ok E ds δ M
 | [],δ,M,j,_,hn=>hn δ M j
 | d::r,δ,M,j,ht,hn=>ht d dU δ M j (λδ' M'=>ok M'/\E6 g tb ok E r δ' M') λδ' M' j'=>⟨mZ δ' M' j',Bl J mZ r δ' M' j' (λe he=>ht e (dH _ he)) hn⟩
theorem vT{g:Dd}{tb:xq}{ok:Mp->Prop}{E:F4}(all:List D)(J:List D->vg->Mp->Prop)(mZ:∀p δ M,J p δ M->ok M):∀(ds pre:List D) (δ:vg) (M:Mp),pre++ds=all->J pre δ M->
  (∀pre d post,pre++d::post=all->∀δ M,J pre δ M->∀nx:vg->Mp->Prop,(∀δ' M',J (pre++[d]) δ' M'->nx δ' M')->g d δ M λδ2 M2=>tb {E with nx:=nx,ct:=nx,bk:=E.nx} δ2 M2)->(∀δ M,J all δ M->E.nx δ M)->E6 g tb ok E ds δ M
 | [],pre,δ,M,e,j,_,hn=>hn δ M (by rw[<-e,fh];exact j)
 | d::r,pre,δ,M,e,j,ht,hn=>ht pre d r e δ M j (λδ' M'=>ok M'/\E6 g tb ok E r δ' M') λδ' M' j'=>⟨mZ _ δ' M' j',vT all J mZ r (pre++[d]) δ' M' (by rw[<-e,fz];rfl) j' ht hn⟩
def Cs{K:qw}{t:Vl}:W.kitOne K t t=some true:=by unfold W.kitOne;rw[dh (by simp)]
def SD{K:qw}{t c:Vl}{b:Bool}(h:W.kitCls K t c=some b)(ne:b=false->(t==c)=false):W.kitOne K t c=some b:=by
 unfold W.kitOne;by_cases e:(t==c)=true
 .rw[dh e];cases b with
  | true=>rfl
  | false=>rw[ne rfl]at e;cases e
 .rw[df e];exact h
def Q6{K:qw}{t:Vl}{T:String}{b:Bool}(m:W.kitMeta T=true)(s:W.subIn K t (.type T)=some b)(ne:b=false->(t==.type T)=false):W.kitOne K t (.type T)=some b:=by refine SD ?_ ne;unfold W.kitCls;simp only;rw[dh m];exact s
def S0:W.kitMeta "str"=true:=by decide+kernel
def Ls{c:Bool}{A B:Prop}(h:c=false)(hb:B):if c=true then A else B:=by subst h;exact JO hb
def Bd{c:Bool}{A B:Prop}(h:c=true)(ha:A):if c=true then A else B:=by subst h;exact Os ha
def Tf{t u:xq}{E:F4}{δ:vg}{M:Mp}(R:vg->Mp->Prop)(h2:∀nx:vg->Mp->Prop,(∀δ' M',R δ' M'->nx δ' M')->t {E with nx:=nx} δ M)(h1:∀δ' M',R δ' M'->u E δ' M'):uF t u E δ M:=h2 (u E) h1
def Uv{K:qw}{H:Hp}{a:Addr}{ns:List Int}(hO:Lz H)(hS:yZ K H a (ns.map V.int)):rV K H (.rl (ns.map D.int)) (.ref a):=by
 have r:Qt K H a (ns.map V.int):=by
  rcases hS with h|h
  .rcases h with h|⟨o,h⟩
   .rcases hO a with z|⟨o,xs,z⟩<;>(rw[h]at z;cases z)
   .exact .inl ⟨o,h⟩
  .exact .inr h
 unfold rV;exact⟨a,_,rfl,r,.ints⟩
def Sl{K:qw}{sp:rC}{H:Hp}{a:Addr}{ns:List Int}(hO:Lz H)(hS:yZ K H a (ns.map V.int))(h:sp [.rl (ns.map D.int)] (λ_=>none) λd _=>d=.bl true):NQ K sp [.ref a] H (λv _=>v=.bl true) λ_ _ _=>False:=
 ⟨_,λ_=>none,_,.cons (Uv hO hS) .nil,λ_ _ z=>(by cases z),h,λv H' d M' x1 _ _ x4=>by subst x4;exact x1.mV⟩
def K0{l:W.OpenLaw}{q:Pg}{XT:QQQ}{XP:(QQZ)->Heap->Prop}{YP:Wo->Heap->Prop}{d:DefRec}{K:Params->qw}{k:Nat}{x:Str}{sp:rC}(hn:l.most=some 63)(Zx:d.params.defaults=[])(hr:sj k callerA) (hY:∀(w:Wo) (h:Heap),YP w h->(K w.params).In h) (Yv:∀ns:List Int,ns.length<=63->sp [.rl (ns.map D.int)] (λ_=>none) λd _=>d=.bl true) (F:∀(w:Wo) (mg:QQZ) (fa:Addr) (h:Heap),(K w.params).In h->h.Ns mainGlobals mg->mg d.name=some (.ref fa)->
   ∃fd:FuncData,(∀(s:Sd) (u:Vl),BindsTo s fd ⟨[u],[]⟩ [(x,u)])/\∀base:Heap,(K w.params).In base->base.Ns mainGlobals mg->Ti l.prog w (K w.params) mg base k fa fd [x] sp):
  W.WalkO q XT XP YP l.row.toRowW d [] (λf vs=>PySem.call f vs):=
 L2.OU (n:=63) (k:=k) (x:=x) (CX:=λ_=>NR) (sp:=λw=>NQ (K w.params) sp) hn (by decide) Zx hr hY F (λ_ _ a ns hl hO hS=>Sl hO hS (Yv ns hl)) λ_ _ _ _ _ z=>z
def KD(K:qw)(mg:QQZ)(x:Str)(d:D):Prop:=AC λv u=>mg x=some u/\qN v u/\∀H,rV K H d v
def RT{K:qw}{mg:QQZ}{x y:Str}{t:Tok}(h:mg x=some (.str y t)):KD K mg x (.str y):=⟨.str y,_,h,⟨t,rfl⟩,λ_=>.str⟩
def vS{K:qw}{mg:QQZ}{x:Str}{y:Int}{t:Tok}(h:mg x=some (.int y t)):KD K mg x (.int y):=⟨.int y,_,h,⟨t,rfl⟩,λ_=>.int⟩
def ux{K:qw}{a:Addr}{ss:QQQ}{us:List Vl}{n:Nat}{sl:Array (Option Vl)}(h:K.lookup a=some ⟨.type "tuple",none,.seq us.toArray n,sl⟩)(r:qE (ss.map V.str) us)(hz:us.length<=1000):ve K (λ_=>none) a (ss.map V.str):=
 .inr ⟨_,us.toArray,n,h,rfl,rfl,rfl,by rw[dB,dN];omega,by simpa using r⟩
theorem z9{K:qw}{H:Hp}:∀{ss:QQQ},qu K H (ss.map D.str) (ss.map V.str)
 | []=>.nil
 | _::_=>.cons .str z9
def Oz{K:qw}{mg:QQZ}{x:Str}{a:Addr}{ss:QQQ}(h:mg x=some (.ref a))(q:ve K (λ_=>none) a (ss.map V.str)):KD K mg x (.tup (ss.map D.str)):=
 ⟨.ref a,_,h,rfl,λ_=>.tup (JC q) z9⟩
variable {d:D}{i:Expr}{td tk:T3}{F:List (Str × QQQ)}
def sO(hg:Gl X x)(h:KD X.K X.mg x d)(hd:yJ x:=by decide):E3 X (.Name x pos) (c3 d):=by obtain⟨v,u,hm,r,hh⟩:=h;exact PE.mono (EE hg hm r hd) λσ H Q' zz=>x7 zz λδ M Q hs hm ht k=>k _ H _ M (hh H) hm .refl ht
def VG(F:List (Str×QQQ))(ta:T3):T3:=λδ M Q=>ta δ M λx M1=>match x with|.str k=>Q (.bl (KTD.datumAt k F).isSome) M1|_=>False
def Ts(F:List (Str×QQQ))(ta:T3):T3:=λδ M Q=>ta δ M λx M1=>match x with|.str k=>(KTD.datumAt k F).elim False λss=>Q (.tup (ss.map D.str)) M1|_=>False
def LJ(T:Mt X.K X.mg x F)(hg:Gl X x)(he:E3 X e ta)(hd:yJ x:=by decide)(hmk:behindInMarks .In (.Name x p)=false:=by rfl):E3 X (.Compare e [.In] [.Name x p] pos) (VG F ta):=by
 obtain⟨a,hm,T⟩:=Gr T;refine PE.mono (IZ (r:=λy z H Q=>∃k,y=.str k/\z=.ref a/\Q (.bl (KTD.datumAt k F).isSome) H) (λW2 s σ H y z v u Q I ry rz ⟨k,e1,e2,q⟩=>?_) he (EE (v:=.ref a) hg hm rfl hd) hmk) λσ H Q' zz=>x7 zz λδ M Q hs hm ht k=>⟨δ,M,_,hs,hm,ht,λv H1 d M1 hd W5 e1 q1=>?_⟩
 .subst e1 e2;obtain⟨t,rfl⟩:=ry;obtain rfl:u=Value.ref a:=rz;exact RY (T s.heap I.ny) ⟨.bl (KTD.datumAt k F).isSome,H,I.tok _,rfl,q⟩
 .cases d with
  | str k'=>exact⟨k',hd.str_inv,rfl,k _ _ _ _ .bl W5 e1 q1⟩
  | _=>exact q1.elim
def JZ(T:Mt X.K X.mg x F)(hg:Gl X x)(he:E3 X e ta)(hd:yJ x:=by decide)(hs:Bs e:=by exact λ_ _=>rfl):E3 X (.Subscript (.Name x p) e pos) (Ts F ta):=by
 obtain⟨a,hm,T⟩:=Gr T;refine PE.mono (Ml (r:=λz y H Q=>∃k ss,y=.str k/\z=.ref a/\KTD.datumAt k F=some ss/\∀t,ve X.K H t (ss.map V.str)->Q (.ref t) H) (λvalue Xf W2 s σ H z y o i Q I rz ry ⟨k,ss,e1,e2,e3,q⟩ hs=>?_) (EE (v:=.ref a) hg hm rfl hd) he hs) λσ H Q' zz=>x7 zz λδ M Q hs hm ht k=>⟨δ,M,_,hs,hm,ht,λv H1 d M1 hd W5 e1 q1=>?_⟩
 .subst e1 e2;obtain⟨t,rfl⟩:=ry;obtain rfl:o=Value.ref a:=rz;have hT:=yP (s:=s) (T s.heap I.ny);have h2:wpAny (model X.prog X.w) X.A (getItem (.ref a) (.str k t)) (EP X W2 σ Q) X.xe s:=NM (T s.heap I.ny) e3 λv ⟨t',e4,q4⟩=>⟨.ref t',H,I.tok _,e4,q t' (JC q4)⟩;unfold subscriptTail;refine cY ?_;rw[kr hT.not_modules];refine cY (iU hT jF.lookup ?_);have W7:wpAny (model X.prog X.w) X.A (subscripted Xf false (.ref a) (.str k t)) (λr s₃=>wpAny (model X.prog X.w) X.A (letTemporaryGo value (.ref a) r>>=λ_=>pure r) (EP X W2 σ Q) X.xe s₃) X.xe s:=by rw[hs];exact wpAny_operating (eB h2 (λr s₃ h₃=>cY (kC (dq h₃))) λ_ _ x=>x)
  first
   | exact dq (cY W7)
   | exact cY (dq (cY W7))
   | exact cY W7
 .cases d with
  | str k'=>obtain⟨ss,e4,q2⟩:=qX q1;exact⟨k',ss,hd.str_inv,rfl,e4,λt qt=>k _ _ _ _ (.tup qt z9) W5 e1 q2⟩
  | _=>exact q1.elim
def zi(M:Mp)(a:Addr):Option (List (rc×D)):=match M a with
 | some (.dk kvs)=>some kvs
 | _=>none
def vD(kvs:List (rc×D))(k:rc):Option D:=(kvs.find? λp=>decide (p.1=k)).map (·.2)
def zw{K:qw}{H:Hp}{M:Mp}{a:Addr}{kvs:List (rc×D)}(hm:HM K H M)(h:zi M a=some kvs):∃vs,H a=some (.dK vs)/\vs.map (·.1)=kvs.map (·.1)/\qu K H (kvs.map (·.2)) (vs.map (·.2)):=by
 unfold zi at h;cases e:M a with
 | none=>rw[e]at h;cases h
 | some c=>
  rw[e]at h;have ok:=hm a c e;cases c with
  | dk es=>cases h;exact ok
  | ins _ _=>cases h
  | lst _=>cases h
  | exc _=>cases h
theorem FF{K:qw}{H:Hp}{k:rc}:∀{kvs:List (rc×D)} {vs:List (rc×V)},vs.map (·.1)=kvs.map (·.1)->qu K H (kvs.map (·.2)) (vs.map (·.2))->(∀d,vD kvs k=some d->∃v,xb vs k=some v/\rV K H d v)/\(vD kvs k=none->xb vs k=none)
 | [],[],_,_=>⟨λd z=>(by cases z),λ_=>rfl⟩
 | [],_::_,e,_=>by cases e
 | _::_,[],e,_=>by cases e
 | (j,d)::kvs,(j',v)::vs,e,h=>by
  have e1:j'=j:=by simpa using(gv e).1
  subst e1;obtain⟨x,r,e2,h1,h2⟩:=h.inv;obtain⟨e3,e4⟩:=gv e2;subst e3 e4;have ih:=FF (k:=k) (kvs:=kvs) (vs:=vs) (gv e).2 h2;by_cases hk:j'=k
  .have g:vD ((j',d)::kvs) k=some d:=by simp[vD,hk]
   have g':xb ((j',v)::vs) k=some v:=by simp[xb,hk]
   rw[g,g'];exact⟨λd' z=>by cases z;exact⟨v,rfl,h1⟩,λz=>by cases z⟩
  .have g:vD ((j',d)::kvs) k=vD kvs k:=by simp[vD,hk]
   have g':xb ((j',v)::vs) k=xb vs k:=by simp[xb,hk]
   rw[g,g'];exact ih
def MH(x y:D)(M:Mp)(Q:DK):Prop:=match x,y with
 | .ref a,.str k=>(zi M a).elim False λkvs=>(vD kvs (.inr k)).elim False λd=>Q d M
 | _,_=>False
def UH(td tk:T3):T3:=λδ M Q=>td δ M λx M1=>tk δ M1 λy M2=>MH x y M2 Q
def zF(hu:X.A.units+9<cLine)(ho:E3 X o td)(hi:E3 X i tk)(hs:Bs i:=by exact λ_ _=>rfl):E3 X (.Subscript o i pos) (UH td tk):=by
 refine PE.mono (Ml (r:=R3 X.K MH) (λvalue Xf W2 s σ H vx vy v u Q' I rx ry h hs=>?_) ho hi hs) HJ;obtain⟨x,y,M,Q,hx,hy,hm,q,k⟩:=h;unfold MH at q;split at q
 .rename_i a0 k0;obtain⟨kvs,e1,q⟩:=qX q;obtain⟨d,e2,q⟩:=qX q;cases hx.mR;cases hy.str_inv;obtain⟨vs,h1,h2,h3⟩:=zw hm e1;obtain⟨w,e3,hw⟩:=(FF h2 h3).1 d e2;refine OQ (by omega) value Xf W2 s σ H _ _ v u Q' I rx ry ⟨_,w,rfl,?_,k _ _ _ _ hw hm .refl q⟩ hs;have g:=E8.k (k:=Sum.inr k0) h1;rw[e3]at g;exact g
 .exact q.elim
def Sr(YD:Bool)(x y:D)(M:Mp)(Q:DK):Prop:=match x,y with
 | .str k,.ref a=>(zi M a).elim False λkvs=>Q (.bl (if YD then !(vD kvs (.inr k)).isSome else(vD kvs (.inr k)).isSome)) M
 | _,_=>False
def Lq{K:qw}{H:Hp}{k:rc}{kvs:List (rc×D)}{vs:List (rc×V)}(h2:vs.map (·.1)=kvs.map (·.1))(h3:qu K H (kvs.map (·.2)) (vs.map (·.2))):(xb vs k).isSome=(vD kvs k).isSome:=by
 obtain⟨a,b⟩:=FF (k:=k) h2 h3;cases e:vD kvs k with
 | none=>rw[b e];rfl
 | some d=>obtain⟨v,e3,_⟩:=a d e;rw[e3];rfl
def VS(YD:Bool)(tk td:T3):T3:=λδ M Q=>tk δ M λx M1=>td δ M1 λy M2=>Sr YD x y M2 Q
def Tr(hu:X.A.units+9<cLine):xJ X (compareOp .In) (R3 X.K (Sr false)):=λW2 s σ H vx vy v u Q' I rx ry h=>by
 obtain⟨x,y,M,Q,hx,hy,hm,q,k⟩:=h;unfold Sr at q;split at q
 .obtain⟨kvs,e1,q⟩:=qX q;cases hy.mR;cases hx.str_inv;obtain⟨vs,h1,h2,h3⟩:=zw hm e1;refine Rz (by omega) W2 s σ H _ _ v u Q' I rx ry ⟨_,_,rfl,E8.k (k:=Sum.inr _) h1,?_⟩;rw[Lq h2 h3];exact k _ _ _ _ .bl hm .refl q
 .exact q.elim
def Mm(hu:X.A.units+9<cLine)(hi:E3 X i tk)(ho:E3 X o td)(hm:behindInMarks .In o=false:=by first|exact HD _|with_unfolding_all rfl):B3 X (.Compare i [.In] [o] pos) (b3 (VS false tk td)):=PT.mono (JJ (Tr hu) hi ho hm) λσ H Q' zz=>x7 zz λδ M Q hs hm ht k=>
 HJ σ H _ ⟨δ,M,_,hs,hm,ht,λv H1 d M1 hd W5 e1 q1=>by
  cases d with
  | bl c=>exact⟨c,hd.mV,k c H1 M1 W5 e1 q1⟩
  | _=>exact q1.elim⟩
def wY:List D->Option (List (rc×D))
 | []=>some []
 | .tup [.str k,d]::r=>(wY r).map ((.inr k,d)::·)
 | _::_=>none
theorem DZ{K:qw}{H:Hp}:∀{es:List D} {kvs:List (rc×D)} {xs:List V},wY es=some kvs->qu K H es xs->∃(ts:QXQ) (vs:List (rc×V)),xs=ts.map V.ref/\ts.length=vs.length/\vs.map (·.1)=kvs.map (·.1)/\qu K H (kvs.map (·.2)) (vs.map (·.2))/\
  ∀(j:Nat) (t:Addr) (p:rc×V),ts[j]?=some t->vs[j]?=some p->ve K H t [kV p.1,p.2]
 | [],_,_,e,h=>by cases e;exact⟨[],[],h.nil_inv,rfl,rfl,.nil,λj t p z=>by simp at z⟩
 | d::es,kvs,xs,e,h=>by
  obtain⟨x,r,rfl,h1,h2⟩:=h.inv;unfold wY at e;split at e
  .rename_i z;cases z
  .rename_i k d' r' z;cases z;cases q:wY es with
   | none=>rw[q]at e;cases e
   | some kvs'=>
    rw[q]at e;cases e;obtain⟨ts,vs,e1,e2,e3,e4,e5⟩:=DZ q h2;obtain⟨a,ys,rfl,g1,g2⟩:=h1.mY;obtain⟨y,r1,rfl,g3,g4⟩:=g2.inv;obtain⟨w,r2,rfl,g5,g6⟩:=g4.inv;cases g6.nil_inv;cases g3.str_inv;refine⟨a::ts,(.inr k,w)::vs,by rw[e1];rfl,by simpa using e2,by rw[dY,dY,e3],.cons g5 e4,λj t p z1 z2=>?_⟩;cases j with
    | zero=>
     have z1':a=t:=by simpa using z1
     have z2':(Sum.inr k,w)=p:=by simpa using z2
     subst z1' z2';exact g1
    | succ j=>exact e5 j t p (by simpa using z1) (by simpa using z2)
  .cases e
def QH(ds:List D)(M:Mp)(Q:DK):Prop:=match ds with
 | [.ref a]=>(pf M a).elim False λes=>(wY es).elim False λkvs=>(kvs.map (·.1)).Nodup/\∀p,M p=none->Q (.ref p) (pL M p (.dk kvs))
 | _=>False
def ET(hc:X.calm=true):C3 X (.type "dict") QH:=by
 intro W2 s σ H vs us Q' I rv h;obtain⟨ds,M,Q,hd,hm,q,k⟩:=h;unfold QH at q;split at q
 .obtain⟨es,e1,q⟩:=qX q;obtain⟨kvs,e2,hnd,q⟩:=qX q;obtain⟨v,rfl,hv⟩:=sE hd;cases hv.mR;obtain⟨xs,h1,h2,_⟩:=qy hm e1;obtain⟨ts,ws,rfl,f2,f3,f4,f5⟩:=DZ e2 h2;refine Iv hc W2 s σ H _ us Q' I rv ⟨_,ts,ws,rfl,h1,f2,f5,by rw[f3];exact hnd,λd hd=>?_⟩;have e:qS X.K H (upd H d (.dK ws)):=.new hd;exact k _ _ _ _ .ref (hm.new (c:=.dk kvs) hd ⟨_,qp,f3,f4.mono e⟩) e (q d (hm.fresh hd))
 .exact q.elim
def Ra:bootBuiltins "set"=some (.type "set"):=by decide+kernel
def Ct:List D->Option (QQQ)
 | []=>some []
 | .str x::r=>(Ct r).map (x::·)
 | _::_=>none
theorem BN:∀ss:QQQ,Ct (ss.map D.str)=some ss
 | []=>rfl
 | x::r=>by show(Ct (r.map D.str)).map (x::·)=_;rw[BN r];rfl
theorem GH{K:qw}{H:Hp}:∀{ds:List D} {ss:QQQ} {xs:List V},Ct ds=some ss->qu K H ds xs->xs=ss.map V.str
 | [],_,_,e,h=>by cases e;exact h.nil_inv
 | d::ds,_,_,e,h=>by
  obtain⟨x,r,rfl,h1,h2⟩:=h.inv;cases d with
  | str z=>
   unfold Ct at e;cases q:Ct ds with
   | none=>rw[q]at e;cases e
   | some ss=>rw[q]at e;cases e;rw[h1.str_inv,GH q h2];rfl
  | _=>cases e
def TF(ta:T3):T3:=λδ M Q=>ta δ M λx M1=>(MD M1 x).elim False λes=>(Ct es).elim False λss=>ss.length<4000/\Q (.int (sV ss).length) M1
def JU{p2 YS:Pos}(hc:X.calm=true)(he:E3 X e ta)(hg1:Gl X "len")(W5:X.mg "len"=none)(hg2:Gl X "set")(Xk:X.mg "set"=none)(b1:bootBuiltins "len"=some (.builtin "len"))(b2:bootBuiltins "set"=some (.type "set")) (hs:starEach [e] X.env=[(false,eval e X.env)]:=by rfl):E3 X (.Call (.Name "len" p) [.Call (.Name "set" p2) [e] [] YS] [] pos) (TF ta):=
 PE.mono (Kh hc he hg1 W5 hg2 Xk b1 b2 hs) λσ H Q' zz=>x7 zz λδ M Q hs hm ht k=>⟨δ,M,_,hs,hm,ht,λv H1 d M1 hd W5 e1 q1=>by
  obtain⟨es,e2,q1⟩:=qX q1;obtain⟨ss,e3,hz,q1⟩:=qX q1;obtain⟨a,xs,rfl,h1,h2⟩:=EO W5 hd e2;rw[GH e3 h2]at h1;have z:scanBound=4096:=rfl;exact⟨a,ss,rfl,h1,by omega,k _ _ _ _ .int W5 e1 q1⟩⟩
def SL(x:D)(ds:List D)(M:Mp)(Q:DK):Prop:=match x,ds with
 | .ref a,[y]=>(pf M a).elim False λes=>es.length<sizeLine/\Q .mW (pL M a (.lst (es++[y])))
 | _,_=>False
def qm{M:Mp}{a:Addr}{es:List D}(h:pf M a=some es):M a=some (.lst es):=by
 unfold pf at h;split at h
 .rename_i e;rw[e];cases h;rfl
 .cases h
def EN{K:qw}{H:Hp}{M:Mp}{a:Addr}{es:List D}(hm:HM K H M)(h:pf M a=some es):∃xs,H a=some (.lst xs)/\qu K H es xs:=hm a _ (qm h)
def Kc:M3 X "list.append" SL:=by
 intro W2 s σ H vx vs v us Q' I rx rv h;obtain⟨x,ds,M,Q,hx,hd,hm,q,k⟩:=h;unfold SL at q;split at q
 .obtain⟨es,e1,hz,q⟩:=qX q;obtain⟨w,rfl,hw⟩:=sE hd;cases hx.mR;obtain⟨xs,h1,h2⟩:=EN hm e1;refine JX W2 s σ H _ _ v us Q' I rx rv ⟨_,xs,w,rfl,rfl,h1,by rw[<-h2.length];exact hz,?_⟩;obtain⟨Xk,ex⟩:=hm.put (c:=.lst (es++[_])) (qm e1) λex=>⟨_,qp,(h2.mono ex).snoc (hw.mono ex)⟩;exact k _ _ _ _ .mW Xk ex q
 .exact q.elim
def ra(ho:E3 X o ta)(ha:A3 X (e::es) t)(Xh:attributeBase o "append" X.env (eval o X.env)=eval o X.env:=by rfl)
  (Yk:((backTo pos (starEach (e::es) X.env)).all (λx=>!x.1)&&(backToKw pos (keywordEach [] X.env)).all (λx=>x.1.isSome)&&decide ((e::es).length+([]:List Keyword).length+(if ([]:List Keyword).isEmpty then 0 else 1)<30))=true:=by rfl)
  (Xr:(W6.endLine==pos.line)=true:=by rfl) (hs:Bj X e es:=by rfl) (Xl:CS X pos es:=by rfl):
  E3 X (.Call (.Attribute o "append" W6) (e::es) [] pos) (VT SL ta t):=QO PySem.F.slot_list_append PySem.F.type_list_append Kc ho ha Xh Yk Xr hs Xl
def qz.none{M M2:Mp}{q:Addr}(s:qz M M2)(h:M2 q=none):M q=none:=by
 cases e:M q with
 | none=>rfl
 | some c=>rw[s q c e]at h;cases h
def qz.upd{M M2:Mp}{q:Addr}{c:uT}(s:qz M M2):qz (pL M q c) (pL M2 q c):=λx d h=>by
 by_cases e:x=q
 .subst e;rw[pX]at h ⊢;exact h
 .rw[uh e]at h ⊢;exact s x d h
def qz.dk{M M':Mp}{a:Addr}{ds:List (rc×D)}(s:qz M M')(h:zi M a=some ds):zi M' a=some ds:=by
 unfold zi at h ⊢;cases e:M a with
 | none=>rw[e]at h;cases h
 | some c=>rw[s a c e];rw[e]at h;exact h
def sf(p:Addr)(M M':Mp):Prop:=∀b c,b≠p->M b=some c->M' b=some c
def qz.keep{M M':Mp}{p:Addr}(s:qz M M'):sf p M M':=λb c _ h=>s b c h
def sf.trans{M M1 M2:Mp}{p:Addr}(a:sf p M M1)(b:sf p M1 M2):sf p M M2:=λx c n h=>b x c n (a x c n h)
def sf.put{M:Mp}{p:Addr}{c:uT}:sf p M (pL M p c):=λb d n h=>by rw[uh n];exact h
def sf.lst{M M':Mp}{p a:Addr}{ds:List D}(k:sf p M M')(n:a≠p)(h:pf M a=some ds):pf M' a=some ds:=by have:=k a _ n (qm h);unfold pf;rw[this]
def sf.dk{M M':Mp}{p a:Addr}{ds:List (rc×D)}(k:sf p M M')(n:a≠p)(h:zi M a=some ds):zi M' a=some ds:=by
 unfold zi at h ⊢;cases e:M a with
 | none=>rw[e]at h;cases h
 | some c=>rw[k a c n e];rw[e]at h;exact h
def pZ{M:Mp}{a p C:Addr}{ds:List D}{fs:List (Str×D)}(h:pf M a=some ds)(hp:M p=some (.ins C fs)):a≠p:=λz=>by subst z;rw[qm h]at hp;cases hp
def Cj{M:Mp}{a p C:Addr}{ds:List (rc×D)}{fs:List (Str×D)}(h:zi M a=some ds)(hp:M p=some (.ins C fs)):a≠p:=λz=>by subst z;unfold zi at h;rw[hp]at h;cases h
def sF{M:Mp}{p:Addr}{ds:List D}(h:M p=some (.lst ds)):pf M p=some ds:=by unfold pf;rw[h]
def D3{M:Mp}{p:Addr}{ds:List (rc×D)}(h:M p=some (.dk ds)):zi M p=some ds:=by unfold zi;rw[h]
def sY{N:Mp}{p q C:Addr}{fs fs':List (Str×D)}{c:uT}(hp:N p=some (.ins C fs))(hq:N q=none):
  q≠p/\pL N q c p=some (.ins C fs)/\sf p N (pL (pL N q c) p (.ins C fs'))/\pL (pL N q c) p (.ins C fs') q=some c/\pL (pL N q c) p (.ins C fs') p=some (.ins C fs'):=by
 have n:p≠q:=Qi hp hq;refine⟨dR n,by rw[uh n];exact hp,(qz.new hq).keep.trans .put,by rw[uh (dR n),pX],pX⟩
theorem zA{g:Dd}{te:T3}{ok:Mp->Prop}{Q:DK}(all:List D)(J:List D->List D->vg->Mp->Prop)(mZ:∀p acc δ M,J p acc δ M->ok M):∀(ds pre acc:List D) (δ:vg) (M:Mp),pre++ds=all->acc.length+ds.length<=sizeLine->J pre acc δ M->
  (∀pre d post,pre++d::post=all->∀acc δ M,J pre acc δ M->∀k:vg->DK,(∀δ2 y M4,J (pre++[d]) (acc++[y]) δ2 M4->k δ2 y M4)->g d δ M λδ2 M2=>te δ2 M2 (k δ2))->
  (∀acc δ M,J all acc δ M->∀p,M p=none->Q (.ref p) (pL M p (.lst acc)))->uY g BQ te ok Q ds acc δ M
 | [],pre,acc,δ,M,e,hl,j,_,hq=>⟨by simpa using hl,hq acc δ M (by rw[<-e,fh];exact j)⟩
 | d::r,pre,acc,δ,M,e,hl,j,ht,hq=>by rw[eD]at hl;refine⟨by omega,?_⟩;refine ht pre d r e acc δ M j (λδ2 y M4=>ok M4/\uY g BQ te ok Q r (acc++[y]) δ2 M4) λδ2 y M4 j'=>⟨mZ _ _ _ _ j',zA all J mZ r (pre++[d]) (acc++[y]) δ2 M4 (by rw[<-e,fz];rfl) ?_ j' ht hq⟩;rw[de,dS];omega
def sL:Nat->D->Bool
 | _,.mW=>true
 | _,.bl _=>true
 | _,.int _=>true
 | _,.str _=>true
 | n+1,.tup ds=>ds.all (sL n)
 | _,_=>false
theorem yG{f:D->D->Option Bool}:∀ds:List D,(∀d∈ds,f d d=some true)->sP f ds ds=some true
 | [],_=>rfl
 | d::r,h=>by show(f d d).bind (λp=>(sP f r r).map λq=>p&&q)=some true;rw[h d dU,yG r λe he=>h e (dH _ he)];rfl
theorem zx{M:Mp}:∀(n:Nat) (d:D),sL n d=true->yY M (n+1) d d=some true
 | _,.mW,_=>rfl
 | _,.bl _,_=>by simp[yY]
 | _,.int _,_=>by simp[yY]
 | _,.str _,_=>by simp[yY]
 | n+1,.tup ds,h=>by have h:ds.all (sL n)=true:=h;show(sP (yY M (n+1)) ds ds).map (λp=>p&&ds.length==ds.length)=some true;rw[yG ds λd hd=>zx n d (eG.mp h d hd)];simp
 | 0,.tup _,h=>by cases h
 | 0,.ref _,h=>by cases h
 | _+1,.ref _,h=>by cases h
 | 0,.ty _,h=>by cases h
 | _+1,.ty _,h=>by cases h
 | 0,.rl _,h=>by cases h
 | _+1,.rl _,h=>by cases h
def DF{M:Mp}{n:Nat}{a b:Addr}{ds:List D}(ha:pf M a=some ds)(hb:pf M b=some ds)(h:∀d∈ds,yY M n d d=some true):yY M (n+1) (.ref a) (.ref b)=some true:=by show(pf M a).bind (λi=>(pf M b).bind λj=>if i.length=j.length then sP (yY M n) i j else some false)=some true;rw[ha,hb];show(if ds.length=ds.length then sP (yY M n) ds ds else some false)=some true;rw[dh rfl];exact yG ds h
def S'(tc:AH)(tb:xq):xq:=λE δ M=>∃W:Nat->vg->Mp->Prop,(∃m,W m δ M)/\∀m δ M,W m δ M->
 tc δ M λb M1=>if b=true then tb {E with nx:=λδ' M'=>∃m',m'<m/\W m' δ' M',ct:=λδ' M'=>∃m',m'<m/\W m' δ' M',bk:=E.nx} δ M1 else E.nx δ M1
def M9{c:Expr}{body:List Stmt}{tc:AH}{tb:xq}(hp:PassesOwn (model X.prog X.w) X.A X.env X.xe)(hc:B3 X c tc)(hb:Hn X body tb):S3 X (.While c body [] pos) (S' tc tb):=
 PS.mono (Nu hp hc hb) λD' σ H ⟨δ,M,E,hs,hm,⟨W,⟨m0,w0⟩,turn⟩,k1,k2,k3,k4⟩=>by
 refine⟨λm σ' H'=>∃δ' M',yX X.K H' σ' δ'/\HM X.K H' M'/\qS X.K H H'/\σ'.length=σ.length/\W m δ' M',⟨m0,δ,M,hs,hm,.refl,rfl,w0⟩,?_⟩
 rintro m σ1 H1 ⟨δ1,M1,Z6,W5,e1,l1,w1⟩
 refine⟨δ1,M1,_,Z6,W5,turn m δ1 M1 w1,λb H2 M2 Xk e2 q2=>?_⟩;cases b with
 | false=>rw[df dC]at q2 ⊢;exact k1 σ1 H2 δ1 M2 (Z6.mono e2) Xk (e1.trans e2) l1 q2
 | true=>
  rw[dh rfl]at q2 ⊢;refine⟨λσ' H'=>∃δ' M',yX X.K H' σ' δ'/\HM X.K H' M'/\qS X.K H H'/\σ'.length=σ.length/\∃m',m'<m/\W m' δ' M',?_,δ1,M2,_,Z6.mono e2,Xk,q2,?_,?_,?_,?_⟩
  .rintro σ' H' ⟨δ',M',a1,a2,a3,a4,m',lt,w⟩
   exact⟨m',lt,δ',M',a1,a2,a3,a4,w⟩
  .exact λσ' H' δ' M' y1 y2 y3 y4 y5=>⟨δ',M',y1,y2,e1.trans (e2.trans y3),by rw[y4,l1],y5⟩
  .exact λv H' d M' y1 y2 y3 y4=>k2 v H' d M' y1 y2 (e1.trans (e2.trans y3)) y4
  .exact λσ' H' δ' M' y1 y2 y3 y4 y5=>k1 σ' H' δ' M' y1 y2 (e1.trans (e2.trans y3)) (by rw[y4,l1]) y5
  .exact λσ' H' δ' M' y1 y2 y3 y4 y5=>⟨δ',M',y1,y2,e1.trans (e2.trans y3),by rw[y4,l1],y5⟩
def Sq(op:Operator)(x y:D):Option D:=match op,x,y with
 | .Add,.int i,.int j=>some (.int (i+j))
 | .Sub,.int i,.int j=>some (.int (i - j))
 | _,_,_=>none
def SM(op:Operator):V->V->Hp->VK->Prop:=λvx vy H Q=>match op,vx,vy with
 | .Add,.int i,.int j=>Q (.int (i+j)) H
 | .Sub,.int i,.int j=>Q (.int (i - j)) H
 | _,_,_=>False
def Sm{op:Operator}:QB X op (SM op):=by
 intro W2 s σ H x y u v Q I rx ry h;unfold SM at h;split at h
 .exact RQ W2 s σ H _ _ u v Q I rx ry ⟨_,_,rfl,rfl,h⟩
 .exact RA W2 s σ H _ _ u v Q I rx ry ⟨_,_,rfl,rfl,h⟩
 .exact h.elim
def NY{K:qw}{H:Hp}{op:Operator}{x y z:D}{vx vy:V}{Q:VK}(hx:rV K H x vx)(hy:rV K H y vy)(e:Sq op x y=some z)(k:∀vz,rV K H z vz->Q vz H):SM op vx vy H Q:=by
 unfold Sq at e;split at e
 .cases e;cases hx.int_inv;cases hy.int_inv;exact k _ .int
 .cases e;cases hx.int_inv;cases hy.int_inv;exact k _ .int
 .cases e
def T5(K:qw)(f:Str)(op:Operator)(ta tv:T3):xq:=λE δ M=>ta δ M λx M1=>match x with
 | .ref a=>Ak (M1 a) λC fs=>uj K C f/\(fs.lookup f).elim False λd=>tv δ M1 λy M2=>(Sq op d y).elim False λz=>Ak (M2 a) λC' fs'=>C'=C/\fs'.length<1000/\E.nx δ (pL M2 a (.ins C (vZ f z fs')))
 | _=>False
def DN{o value:Expr}{ta tv:T3}{f:Str}{op:Operator}{Zc:Pos}(ha:E3 X o ta)(hv:E3 X value tv):S3 X (.AugAssign (.Attribute o f Zc) op value pos) (T5 X.K f op ta tv):=
 PS.mono (Kr ha hv Sm) λD' σ H zz=>J3 zz λδ M E hs hm ht k1 k2 k3 k4=>
 ⟨δ,M,_,hs,hm,ht,λv H1 d M1 hd W5 e1 q1=>by
  cases d with
  | ref a=>
   cases hd.mR;obtain⟨C,fs,e,q1⟩:=xR q1;obtain⟨na,q1⟩:=q1;obtain⟨d,ed,q1⟩:=qX q1;obtain⟨dx,vs,h1,cl,nn,fo⟩:=W5 a _ e;obtain⟨w,ew,hw⟩:=(wH fo).1 d ed;refine⟨a,C,dx,vs,w,rfl,h1,cl,na,ew,δ,M1,_,hs.mono e1,W5,q1,λu H2 y M2 hy Xk e2 q2=>?_⟩;obtain⟨z,ez,q2⟩:=qX q2;obtain⟨C',fs',e',q2⟩:=xR q2;obtain⟨rfl,hl,q2⟩:=q2;refine NY (hw.mono e2) hy ez λvz hz=>?_;obtain⟨ZR,vs',XN,cl',nn',fo'⟩:=Xk a _ e';have W9:vs'.length=fs'.length:=by have:=eV List.length fo'.1;simpa using this
   refine⟨ZR,vs',XN,by omega,?_⟩;obtain⟨X2,e3⟩:=Xk.put (p:=a) (o:=.ins C' ZR (vC f vz vs')) (c:=.ins C' (vZ f z fs')) e' λx=>⟨ZR,_,qp,cl',λg hg=>by
    rcases BE hg with q|q
    .rw[q];exact na
    .exact nn' g q,FP (hz.mono x) (fo'.mono x)⟩
   exact k1 σ _ δ _ (hs.mono (e1.trans (e2.trans e3))) X2 (e1.trans (e2.trans e3)) rfl q2
  | _=>exact q1.elim⟩
theorem tK{i:Nat}{tt:AH}{te:T3}{ok:Mp->Prop}{Q:DK}{f:D->D}{t:D->Bool}{M:Mp}(mZ:ok M):∀(ds acc:List D) (δ:vg),acc.length+ds.length<=sizeLine->
  (∀d∈ds,∀k:Bool->Mp->Prop,k (t d) M->tt (δ.set i (some d)) M k)->(∀d∈ds,t d=true->∀k:DK,k (f d) M->te (δ.set i (some d)) M k)->
  (∀p,M p=none->Q (.ref p) (pL M p (.lst (acc++(ds.filter t).map f))))->uY (tD i) tt te ok Q ds acc δ M
 | [],acc,δ,hl,_,_,hq=>⟨by simpa using hl,by simpa using hq⟩
 | d::r,acc,δ,hl,ht,he,hq=>by
  rw[eD]at hl;refine⟨by omega,?_⟩;show tt (δ.set i (some d)) M _;refine ht d dU _ ?_;have z:∀e:D,(δ.set i (some d)).set i (some e)=δ.set i (some e):=λe=>by rw[iY]
  cases q:t d with
  | true=>
   rw[dh rfl];refine he d dU q _ ⟨mZ,tK (f:=f) (t:=t) mZ r (acc++[f d]) _ ?_ (λe m k h=>?_) (λe m h0 k h=>?_) ?_⟩
   .rw[de,dS];omega
   .rw[z];exact ht e (dH _ m) k h
   .rw[z];exact he e (dH _ m) h0 k h
   .intro p hp;have:=hq p hp;rw[iE q]at this
    simpa using this
  | false=>
   rw[df dC];refine⟨mZ,tK (f:=f) (t:=t) mZ r acc _ (by omega) (λe m k h=>?_) (λe m h0 k h=>?_) ?_⟩
   .rw[z];exact ht e (dH _ m) k h
   .rw[z];exact he e (dH _ m) h0 k h
   .intro p hp;have:=hq p hp;rw[iF (by rw[q];exact dC)]at this;exact this
section
variable {a:Expr}
def VP(ta:T3):T3:=λδ M Q=>ta δ M λx M1=>match x with|.int i=>Q (.int (-i)) M1|_=>False
def Ex(ha:E3 X a ta):E3 X (.UnaryOp .USub a pos) (VP ta):=PE.mono (TV Q9 ha) λσ H Q' zz=>x7 zz λδ M Q hs hm ht k=>
 ⟨δ,M,_,hs,hm,ht,λv H1 d M1 hd W5 e1 q1=>by
  cases d with
  | int i=>cases hd.int_inv;exact⟨i,rfl,k _ H1 _ M1 .int W5 e1 q1⟩
  | _=>exact q1.elim⟩
end
end L3
namespace L2
open PySem.W
def BV{α:Type}(lt:Nat->Nat->Bool):KasT α->α
 | .ret a=>a
 | .ask i j k=>BV lt (k (lt i j))
def vh(n:Nat):KasT (Array Nat)->Bool
 | .ret p=>p.size==n&&p.toList.all λi=>decide (i<n)
 | .ask i j k=>decide (i<n)&&decide (j<n)&&vh n (k true)&&vh n (k false)
def GA{n i j:Nat}{k:Bool->KasT (Array Nat)}(h:vh n (.ask i j k)=true):i<n/\j<n/\∀b,vh n (k b)=true:=by simp only[vh,dX,eC]at h;exact⟨h.1.1.1,h.1.1.2,λb=>by cases b;exact h.2;exact h.1.2⟩
theorem GB{cmp:Nat->Nat->(Bool->Sd->Prop)->Sd->Prop}{lt:Nat->Nat->Bool}{n:Nat}{s:Sd}{Q:Array Nat->Sd->Prop}(hc:∀i j (C:Bool->Sd->Prop),i<n->j<n->C (lt i j) s->cmp i j C s):
  ∀t:KasT (Array Nat),vh n t=true->Q (BV lt t) s->t.kasWp cmp Q s
 | .ret _,_,q=>q
 | .ask i j k,hb,q=>by obtain⟨h1,h2,h3⟩:=GA hb;exact hc i j _ h1 h2 (GB hc (k (lt i j)) (h3 _) q)
theorem IQ{lt:Nat->Nat->Bool}{n:Nat}:∀t:KasT (Array Nat),vh n t=true->(BV lt t).size=n/\∀i∈(BV lt t).toList,i<n
 | .ret p,hb=>by simp only[vh,dX,fk,eG,eC]at hb;exact hb
 | .ask i j k,hb=>IQ (k (lt i j)) ((GA hb).2.2 _)
def tR(lt:Nat->Nat->Bool)(n:Nat):List Nat:=if n<2 then List.range n else(BV lt (kas_sort n)).toList
def Wf:vh 2 (kas_sort 2)=true:=by decide+kernel
def VI:vh 3 (kas_sort 3)=true:=by decide+kernel
def T9{n:Nat}(h2:2<=n)(h3:n<=3):vh n (kas_sort n)=true:=by
 have:n=2\/n=3:=by omega
 rcases this with rfl|rfl
 .exact Wf
 .exact VI
def yi{lt:Nat->Nat->Bool}{n:Nat}(h3:n<=3):(tR lt n).length=n/\∀i∈tR lt n,i<n:=by
 unfold tR;by_cases h:n<2
 .rw[dh h,eI];exact⟨rfl,λi hi=>gi.mp hi⟩
 .rw[df h];obtain⟨h1,h2⟩:=IQ (lt:=lt) (kas_sort n) (T9 (by omega) h3);exact⟨by rw[ik];exact h1,h2⟩
variable {prog:Pg}{w:Wo}{A:Ar}{E:QQX}{s:Sd}
def C6{a:Addr}{vs:List Vl}{n:Nat}{κ:SortKind}{lt:Nat->Nat->Bool}{P:PySem.Fin->Sd->Prop}(ho:s.heap.get? a=some (seqObj "list" vs.toArray n))(h3:vs.length<=3) (hk:∀h' (Q:SortKind->Sd->Prop),0<vs.length->(∀b o,b≠a->s.heap.get? b=some o->h'.get? b=some o)->Q κ {s with heap:=h'}->wpAny (model prog w) A (keyKind' vs.toArray) Q (λ_ _=>False) {s with heap:=h'})
  (Xe:∀h' i j (C:Bool->Sd->Prop),(∀b o,b≠a->s.heap.get? b=some o->h'.get? b=some o)->i<vs.length->j<vs.length->C (lt i j) {s with heap:=h'}->wpAny (model prog w) A (keyLt' κ (vs.getD i .none) (vs.getD j .none)) C (λ_ _=>False) {s with heap:=h'})
  (h:P (.done (.ret .none)) {s with heap:=sortedHeap s.heap a vs (List.toArray ((tR lt vs.length).map λi=>vs.getD i Value.none))}):
  wpAny (model prog w) A (Builtin.«list.sort» ⟨[.ref a],[]⟩) P E s:=by
 rw[list_sort_plain];have hz:=dN;have ha:a<s.heap.objs.size:=dA ho;refine cY (listItems_at ho rfl ?_);refine cY (kK ho rfl ?_ (by rw[dB];omega) (eP _));obtain⟨e1,ZZ⟩:∃e1,(s.heap.update a (Obj.mapSeq λ_=>#[])).get? a=some (seqObj "list" #[] e1):=⟨_,get?_update_seq ho (λ_=>#[])⟩;refine cY (lO ZZ rfl ?_);refine cY (wpAny_newTuple ?_ (by show vs.length<=_;omega));refine cY (wpAny_newList ?_ (eP _));refine eE ?_;have ho6:(((s.heap.update a (Obj.mapSeq λ_=>#[])).push (seqObj "tuple" vs.toArray 0)).push (seqObj "list" #[] 0)).get? a=some (seqObj "list" #[] e1):=by rw[iJ _ _ _ (by rw[mv,iO];exact dG (fV ha)),iJ _ _ _ (by rw[iO];exact dG ha)];exact ZZ
 have keep:∀b o,b≠a->s.heap.get? b=some o->(((s.heap.update a (Obj.mapSeq λ_=>#[])).push (seqObj "tuple" vs.toArray 0)).push (seqObj "list" #[] 0)).get? b=some o:=λb o hb q=>by have Xe:b<s.heap.objs.size:=dA q;rw[iJ _ _ _ (by rw[mv,iO];exact dG (fV Xe)),iJ _ _ _ (by rw[iO];exact dG Xe),jh _ _ _ _ hb];exact q
 show wpAny (model prog w) A _ P E {s with heap:=((s.heap.update a (Obj.mapSeq λ_=>#[])).push (seqObj "tuple" vs.toArray 0)).push (seqObj "list" #[] 0)};dsimp only;have hsz:vs.toArray.size=vs.length:=by simp
 by_cases h2:vs.toArray.size<2
 .rw[dh h2,dh h2];refine cY (dq ?_);rw[StateT.run_pure];refine cY (dq ?_);dsimp only;refine cY (lO ho6 rfl ?_);have eo:(arrOf (SortSt.mk' general' (vs.toArray.zip vs.toArray) #[] 7 none)).map (·.2)=List.toArray ((tR lt vs.length).map λi=>vs.getD i Value.none):=by
   unfold tR;rw[dh (by omega)];show((vs.toArray.zip vs.toArray).map (·.2))=_
   match vs,hsz,h2 with
   | [],_,_=>simp
   | [_],_,_=>simp[iZ]
   | _::_::_,_,h2=>simp at h2;omega
  rw[eo];refine cY (kK ho6 rfl ?_ (eP _) (by rw[dB,cX,(yi h3).1];omega));simp only[lK,iA,jl];exact dq h
 .rw[df h2,df h2];have g2:2<=vs.length:=by omega
  refine cY (eB (hk _ (λκ' s'=>κ'=κ/\s'={s with heap:=((s.heap.update a (Obj.mapSeq λ_=>#[])).push (seqObj "tuple" vs.toArray 0)).push (seqObj "list" #[] 0)}) (by omega) keep ⟨rfl,rfl⟩) ?_ λ_ _ x=>x.elim)
  rintro κ' s' ⟨rfl,rfl⟩
  refine cY (eB (kat_run (ks:=vs) (vs:=vs) (Q:=λXU s'=>∃p:Array Nat,arrOf XU=p.map (kas_item (vs.toArray.zip vs.toArray))/\failedOf XU=none/\p.toList=tR lt vs.length/\s'={s with heap:=((s.heap.update a (Obj.mapSeq λ_=>#[])).push (seqObj "tuple" vs.toArray 0)).push (seqObj "list" #[] 0)})
   (G:=λp s'=>p.toList=tR lt vs.length/\s'={s with heap:=((s.heap.update a (Obj.mapSeq λ_=>#[])).push (seqObj "tuple" vs.toArray 0)).push (seqObj "list" #[] 0)})
   rfl g2 (by omega) (λp' XU s' a1 a2 a3 a4=>⟨p',a2,a3,a4⟩) (GB (n:=vs.length) (lt:=lt) (λi j C hi hj hC=>Xe _ i j C keep hi hj hC) _ (T9 g2 h3) ⟨by unfold tR;rw[df (by omega)],rfl⟩)) ?_ λ_ _ e=>e)
  rintro ⟨⟨⟩,XU⟩ s' ⟨p,har,hf,hp,rfl⟩
  dsimp only;have hout:=kat_snds rfl har;rw[hp]at hout;refine cY (lO ho6 rfl ?_);rw[hout];refine cY (kK ho6 rfl ?_ (eP _) (by rw[dB,cX,(yi h3).1];omega));rw[hf];simp only[lK,iA,jl];exact dq h
def Vc(a b:Str×Int):Bool:=if a.1==b.1 then(if a.2==b.2 then false else decide (a.2<b.2))else decide (a.1.cps.toList<b.1.cps.toList)
def Pm{x y:Addr}{ox oy:Obj}{n k:Nat}{a b:Str×Int}{t1 t2 t3 t4:Tok}{C:Bool->Sd->Prop}(hx:s.heap.get? x=some ox)(dx:ox.data=.seq #[.str a.1 t1,.int a.2 t2] n)(hy:s.heap.get? y=some oy)(dy:oy.data=.seq #[.str b.1 t3,.int b.2 t4] k)(h:C (Vc a b) s):
  wpAny (model prog w) A (keyLt' (tuples' true) (.ref x) (.ref y)) C E s:=by
 refine kat_lt hx dx hy dy ?_;show KatLex prog w A true _ C [(Value.str a.1 t1,Value.str b.1 t3),(Value.int a.2 t2,Value.int b.2 t4)] 0 s;unfold Vc at h;refine kat_cons (eqBool_str ?_);cases e:a.1==b.1 with
 | true=>
  rw[e,dh rfl]at h;refine kat_yes (kat_cons (lQ ?_));cases e2:a.2==b.2 with
  | true=>rw[e2,dh rfl]at h;exact kat_yes (kat_nil h)
  | false=>rw[e2,df dC]at h;exact kat_no (kat_one _ _ (PyProof.Rows.lt_int h))
 | false=>rw[e,df dC]at h;exact kat_no (oneLt_str h)
def Dj{x:Str}{v:Vl}(h:BB (.inr x) v=true):∃t,v=.str x t:=by
 rcases sd h with⟨i,t,e,_⟩|⟨y,t,e,e2⟩
 .cases e
 .cases e;exact⟨t,e2⟩
def E9(ps:List (Str×Int))(i j:Nat):Bool:=Vc (ps.getD i ("",0)) (ps.getD j ("",0))
def sW(ps:List (Str×Int)):List (Str×Int):=(tR (E9 ps) ps.length).map λi=>ps.getD i ("",0)
def D8{ps:List (Str×Int)}(h:ps.length<=3):(sW ps).length=ps.length:=by unfold sW;rw[cX];exact(yi h).1
def Pr(h:Heap)(a:Addr)(p:Str×Int):Prop:=AC λt1 t2=>h.get? a=some {cls:=.type "tuple",data:=.seq #[.str p.1 t1,.int p.2 t2]}
def Pr.inj{h:Heap}{a:Addr}{p q:Str×Int}(x:Pr h a p)(y:Pr h a q):p=q:=by obtain⟨t1,t2,e1⟩:=x;obtain⟨u1,u2,e2⟩:=y;rw[e1]at e2;have:=dw e2;simp only[Obj.mk.injEq,Data.seq.injEq,Array.mk.injEq,List.cons.injEq,Value.str.injEq,Value.int.injEq]at this;exact mF (by simp_all) (by simp_all)
theorem JE{h:Heap}:∀(as:QXQ) (ps:List (Str×Int)),as.length=ps.length->(∀(j:Nat) (a:Addr) (p:Str×Int),as[j]?=some a->ps[j]?=some p->Pr h a p)->∃fs,KatTups h (as.map Value.ref) fs/\fs.length=as.length/\∀v∈fs,∃x t,v=Value.str x t
 | [],[],_,_=>⟨[],.nil,rfl,λv hv=>nomatch hv⟩
 | [],_::_,e,_=>by cases e
 | _::_,[],e,_=>by cases e
 | a::as,p::ps,e,hp=>by
  obtain⟨fs,h1,h2,h3⟩:=JE as ps (by simpa using e) λj a' p' e1 e2=>hp (j+1) a' p' (by simpa using e1) (by simpa using e2);obtain⟨t1,t2,ea⟩:=hp 0 a p rfl rfl;refine⟨.str p.1 t1::fs,.cons ea rfl rfl rfl h1,by simp[h2],λv hv=>?_⟩;rcases dv.mp hv with z|z
  .exact⟨_,_,z⟩
  .exact h3 v z
def Gq{r d:Addr}{kvs:List (rc×Vl)}{ep:Nat}{ps:List (Str×Int)}{Q:QQX}(hh:A.handled=none)(hv:s.heap.IsItemsView r d)(hm:s.heap.DictAt (rG prog w) d kvs ep)(h3:ps.length<=3) (hp:kvs.length=ps.length) (hps:∀(j:Nat) (k:rc) (x:Vl),kvs[j]?=some (k,x)->∃p t,ps[j]?=some p/\k=Sum.inr p.1/\x=.int p.2 t) (h:∀(h':Heap) (tk:Nat) (S:Addr) (ws:QXQ) (e:Nat),(∀b o,s.heap.get? b=some o->h'.get? b=some o)->r<S->h'.get? S=some (seqObj "list" (ws.map Value.ref).toArray e)->ws.length=ps.length->
    (∀(j:Nat) (a:Addr) (p:Str×Int),ws[j]?=some a->(sW ps)[j]?=some p->r<a/\a≠S/\Pr h' a p)->Q (.ref S) {s with heap:=h',toks:=tk}):
  wpAny (model prog w) A (call (.builtin "sorted") [.ref r]) Q E s:=by
 have hz:=dN;have hr:r<s.heap.objs.size:=by obtain⟨o,ho,_⟩:=hv;exact dA ho
 refine Calls.call_function_entry kind_sorted plain_sorted entry_sorted (args_sorted1 _) ?_;unfold Builtin.«sorted»;refine cY (m:=checkCount "sorted" 1 1 _) (dq ?_);refine cY (kdx_collect (A:=A.in1) hh hv hm (by omega) λh1 tk as hk hl hG=>?_);refine cY (wpAny_newList ?_ (by rw[cX];omega));have hl':as.length=ps.length:=by omega
 have pr:∀(j:Nat) (a:Addr) (p:Str×Int),as[j]?=some a->ps[j]?=some p->Pr h1 a p:=λj a p e1 e2=>by obtain⟨key,k,x,f1,f2,f3⟩:=hG.pairs j a e1;obtain⟨p',t,g1,g2,g3⟩:=hps j k x f1;rw[e2]at g1;cases g1;subst g2 g3;obtain⟨t',rfl⟩:=Dj f2;exact⟨t',t,f3⟩
 have hoL:(h1.push (seqObj "list" (as.map Value.ref).toArray 0)).get? h1.objs.size=some (seqObj "list" (as.map Value.ref).toArray 0):=dI _ rfl;have pr2:∀h',(∀b o,b≠h1.objs.size->(h1.push (seqObj "list" (as.map Value.ref).toArray 0)).get? b=some o->h'.get? b=some o)->∀(j:Nat) (a:Addr) (p:Str×Int),as[j]?=some a->ps[j]?=some p->Pr h' a p:=λh' kp j a p e1 e2=>by obtain⟨t1,t2,e3⟩:=pr j a p e1 e2;exact⟨t1,t2,kp _ _ (dG (dA e3)) (dg _ e3)⟩
 have gd:∀i,i<as.length->∃a p,as[i]?=some a/\ps[i]?=some p/\(as.map Value.ref).getD i Value.none=.ref a/\ps.getD i ("",0)=p:=λi hi=>by
  have XZ:i<ps.length:=by omega
  refine⟨as[i],ps[i],cZ hi,cZ XZ,?_,?_⟩
  .simp[hi]
  .simp[XZ]
 have hll:(as.map Value.ref).length=ps.length:=by rw[cX];exact hl'
 show wpAny _ _ _ _ _ {s with heap:=h1.push (seqObj "list" (as.map Value.ref).toArray 0),toks:=tk};refine cY (eE (fT slot_list_sort ⟨_,hoL,rfl⟩ entry_list_sort (C6 (κ:=tuples' true) (lt:=E9 ps) (s:={s with heap:=h1.push (seqObj "list" (as.map Value.ref).toArray 0),toks:=tk}) hoL (by rw[hll];exact h3) (λh' Q' Xm kp hq=>?_) (λh' i j C kp hi hj hC=>?_) ⟨_,rfl,?_⟩) (args_list_sort _)))
 .obtain⟨fs,k1,k2,k3⟩:=JE as ps hl' (pr2 h' kp);refine kat_kind (T:=Value.type "str") k1 (by rw[k2];rw[cX]at Xm;exact Xm) (λv hv=>?_) (by decide) hq;obtain⟨x,t,rfl⟩:=k3 v hv;exact Looks.now
 .rw[cX]at hi hj;obtain⟨a,p,a1,a2,a3,a4⟩:=gd i hi;obtain⟨b,q,b1,b2,b3,b4⟩:=gd j hj;rw[a3,b3];obtain⟨t1,t2,e1⟩:=pr2 h' kp i a p a1 a2;obtain⟨t3,t4,e2⟩:=pr2 h' kp j b q b1 b2;refine Pm (s:={s with heap:=h',toks:=tk}) e1 rfl e2 rfl ?_;show C (Vc p q) _;rw[<-a4,<-b4];exact hC
 .obtain⟨e,he⟩:=sortedHeap_at (h:=h1.push (seqObj "list" (as.map Value.ref).toArray 0)) (a:=h1.objs.size) (vs:=as.map Value.ref) (out:=List.toArray ((tR (E9 ps) (as.map Value.ref).length).map λi=>(as.map Value.ref).getD i Value.none)) hoL;have XA:∀b o,h1.get? b=some o->(sortedHeap (h1.push (seqObj "list" (as.map Value.ref).toArray 0)) h1.objs.size (as.map Value.ref) (List.toArray ((tR (E9 ps) (as.map Value.ref).length).map λi=>(as.map Value.ref).getD i Value.none))).get? b=some o:=λb o q=>by have hb:=dA q;rw[sortedHeap_old (dG hb) (by rw[mv];exact fV hb)];exact dg _ q
  have ix:=yi (lt:=E9 ps) h3;have eo:((tR (E9 ps) (as.map Value.ref).length).map λi=>(as.map Value.ref).getD i Value.none)=((tR (E9 ps) ps.length).map λi=>as.getD i 0).map Value.ref:=by
   rw[hll,eA];refine gy λi hi=>?_;have:=ix.2 i hi;have YF:i<as.length:=by omega
   simp[YF]
  refine dq ⟨_,rfl,h _ tk h1.objs.size ((tR (E9 ps) ps.length).map λi=>as.getD i 0) e (λb o q=>XA b o (hk b o q)) ?_ ?_ ?_ λj a p e1 e2=>?_⟩
  .obtain⟨o,ho,_⟩:=hv;exact dA (hk _ _ ho)
  .rw[he,eo]
  .rw[cX];exact ix.1
  .unfold sW at e2;rw[dF]at e1 e2;cases ei:(tR (E9 ps) ps.length)[j]? with
   | none=>rw[ei]at e1;cases e1
   | some i=>
    rw[ei]at e1 e2;have hi:=ix.2 i (fA ei);obtain⟨a',p',a1,a2,a3,a4⟩:=gd i (by omega);have ea:a=a':=by have:as.getD i 0=a:=dw e1;rw[<-this];simp[gf,a1]
    have ep:p=p':=by have:ps.getD i ("",0)=p:=dw e2;rw[<-this,a4]
    subst ea ep;have P1:=pr i a p a1 a2;obtain⟨t1,t2,e3⟩:=P1;exact⟨iq hr (hG.above a (fA a1)),dG (dA e3),t1,t2,XA _ _ e3⟩
def Inv.many{X:Cx}{W2:QQY}{σ:St}{H H':Hp}{s:Sd}{h':Heap}{t':Nat}(I:Inv X W2 σ H s)(k:∀b o,s.heap.get? b=some o->h'.get? b=some o)(hs:∀b,b<s.heap.objs.size->H' b=H b) (new:∀b o,s.heap.objs.size<=b->H' b=some o->se X.prog X.w H' h' b o):Inv X W2 σ H' {s with heap:=h',toks:=t'}:=by
 have sm:∀b o,H b=some o->H' b=some o:=λb o e=>by rw[hs b (I.mZ.lt e)];exact e
 refine I.step (g':=s.gens) (d':=s.drawn) (ch:=[]) (λb hb=>nomatch hb) (λb o _ _ _ e _=>k b o e) (λb o _ _ _ e _=>⟨o.slots,k b o e⟩) (λb o _ e n=>by rw[hs b (dA e)];exact n)
  (λb o _ e=>⟨o,k b o e⟩) (λb xs e=>sm b _ e) (λb o u e=>sm b _ e) (λb ps e=>⟨#[],by rw[sm b _ e];simp⟩) (λm hm=>?_) (λb u e=>?_) I.bare
 .obtain⟨o,es,ep,ho,r⟩:=hm;exact⟨o,es,ep,k _ o ho,r⟩
 .by_cases hb:b<s.heap.objs.size
  .rw[hs b hb]at e;exact(I.mZ b u e).nE (λc v _ q=>k c v q) (λc q=>sm c _ q) λc xs q=>sm c _ q
  .exact new b u (jQ hb) e
def R1(te:TE):TE:=λσ H Q=>te σ H λv H1=>∃a kvs ps,v=.ref a/\H1 a=some (.dK kvs)/\kvs=(ps:List (Str×Int)).map (λp=>((Sum.inr p.1:rc),V.int p.2))/\ps.length<=3/\
 ∀(S:Addr) (H2:Hp) (ws:QXQ),H1 S=none->(∀b o,H1 b=some o->H2 b=some o)->H2 S=some (.lst (ws.map V.ref))->ws.length=ps.length->(∀(j:Nat) (a:Addr) (p:Str×Int),ws[j]?=some a->(sW ps)[j]?=some p->H2 a=some (.tup [.str p.1,.int p.2]))->
  (∀b o,H1 b=none->H2 b=some o->b=S\/∃p:Str×Int,o=.tup [.str p.1,.int p.2])->Q (.ref S) H2
def J8:bootBuiltins "sorted"=some (.builtin "sorted"):=by decide+kernel
theorem Jj:∀{ps:List (Str×Int)} {vs:List (rc×Vl)},KV (ps.map (λp=>((Sum.inr p.1:rc),V.int p.2))) vs->vs.length=ps.length/\∀(j:Nat) (k:rc) (x:Vl),vs[j]?=some (k,x)->∃p t,ps[j]?=some p/\k=Sum.inr p.1/\x=.int p.2 t
 | [],_,.nil=>⟨rfl,λj k x e=>by simp at e⟩
 | p::ps,_,.cons r rs=>by
  obtain⟨h1,h2⟩:=Jj rs;refine⟨by simp[h1],λj k x e=>?_⟩;cases j with
  | zero=>have e:=dw e;obtain⟨r1,t,r2⟩:=r;subst e;exact⟨p,t,rfl,r1.symm,r2⟩
  | succ j=>exact h2 j k x e
def Fd{X:Cx}{o:Expr}{te:TE}{p pos W6 Xa:Pos}(hc:X.calm=true)(he:PE X o te)(hg:Gl X "sorted")(hm:X.mg "sorted"=none) (Xh:attributeBase o "items" X.env (eval o X.env)=eval o X.env:=by rfl) (Xr:(W6.endLine==Xa.line)=true:=by rfl):
  PE X (.Call (.Name "sorted" p) [.Call (.Attribute o "items" W6) [] [] Xa] [] pos) (R1 te):=by
 intro W2 s σ H Q I h;refine fS (wD I hg hm J8 ?_);refine gW ?_ rfl rfl;show wpAny _ _ (spliced ((false,eval (.Call (.Attribute o "items" W6) [] [] Xa) X.env)::backTo pos (starEach [] X.env))) _ _ s;refine ip ?_;refine wpAny_Call_method0_late Xh Xr (sH (he W2 s σ H _ I h) λv s1 zz=>?_);obtain⟨x,H1,I1,r1,a,kvs,ps,ex,ea,ek,h3,q⟩:=zz;subst ex;obtain rfl:v=Value.ref a:=r1;obtain⟨h1,h2⟩:=ND (T:="dict") (x:=.ref a) I1 rfl (.inr (.inr (.inl ⟨rfl,.inl ⟨_,ea⟩⟩)));refine⟨"dict","dict.items",PySem.F.plainAttrs_dict,jZ,PySem.F.type_dict_items,h1,h2,kg rfl (PySem.evalArgs_none ?_)⟩;obtain⟨hz,hS,vs,rk,hD⟩:=I1.mZ a _ ea;refine call_meetsIn jZ h1 PySem.F.entry_dict_items (PySem.F.args_dict_items_1 _) (meets_dict_items (rG X.prog X.w) a hS) ⟨⟨vs,hD⟩,?_⟩;refine iH ?_;obtain⟨ep,ZE⟩:=hD.dictAt;subst ek;obtain⟨g1,g2⟩:=Jj rk;refine Gq (ps:=ps) (s:={s1 with heap:=s1.heap.push {cls:=.type "dict_items",data:=.fields #[.ref a]}}) (I1.ok.hd hc) ⟨_,dI _ rfl,rfl,rfl⟩ (ZE.push _) h3 g1 g2 λh' tk S ws e k hrS YQ hl hw=>?_;have k':∀b o,s1.heap.get? b=some o->h'.get? b=some o:=λb o z=>k b o (dg _ z);have Y3:(sW ps).length=ws.length:=by rw[D8 h3,hl]
 let H2:Hp:=λb=>if b=S then some (.lst (ws.map V.ref))else match (ws.zip (sW ps)).lookup b with
  | some p=>some (.tup [.str p.1,.int p.2])
  | none=>H1 b
 have at1:∀b p,(ws.zip (sW ps)).lookup b=some p->s1.heap.objs.size<b/\b≠S/\Pr h' b p:=λb p z=>by
  have:(b,p)∈ws.zip (sW ps):=by
   have go:∀l:List (Addr×(Str×Int)),l.lookup b=some p->(b,p)∈l:=λl=>by
    induction l with
    | nil=>intro z;cases z
    | cons c r ih=>
     intro z;rw[eK]at z;cases q:b==c.1 with
     | true=>
      rw[q]at z;have hb:b=c.1:=by simpa using q
      have:c=(b,p):=mF hb.symm (dw z);rw[this];exact dU
     | false=>rw[q]at z;exact dH _ (ih z)
   exact go _ z
  obtain⟨j,hj⟩:=List.mem_iff_getElem?.mp this;obtain⟨e1,e2⟩:=im.mp hj;exact hw j b p e1 e2
 have lowS:s1.heap.objs.size<S:=hrS;have low:∀b,b<s1.heap.objs.size->H2 b=H1 b:=λb hb=>by
  show(if b=S then _ else _)=_;rw[df (dG (iq hb lowS))];cases z:(ws.zip (sW ps)).lookup b with
  | none=>rfl
  | some p=>exact absurd (at1 b p z).1 (Nat.not_lt_of_lt hb)
 have eS:H2 S=some (.lst (ws.map V.ref)):=dh rfl;have fr:∀b,s1.heap.objs.size<=b->H1 b=none:=λb hb=>I1.mZ.fresh hb;have tupAt:∀(j:Nat) (b:Addr) (p:Str×Int),ws[j]?=some b->(sW ps)[j]?=some p->H2 b=some (.tup [.str p.1,.int p.2]):=λj b p e1 e2=>by
  obtain⟨_,n2,n3⟩:=hw j b p e1 e2;show(if b=S then _ else _)=_;rw[df n2];have mem:(b,p)∈ws.zip (sW ps):=fA (im.mpr ⟨e1,e2⟩);cases z:(ws.zip (sW ps)).lookup b with
  | none=>
   have go:∀l:List (Addr×(Str×Int)),(b,p)∈l->l.lookup b≠none:=λl=>by
    induction l with
    | nil=>intro z;cases z
    | cons c r ih=>
     intro z;rw[eK];cases q:b==c.1 with
     | true=>simp
     | false=>
      rcases dv.mp z with y|y
      .rw[<-y]at q;simp at q
      .exact ih y
   exact absurd z (go _ mem)
  | some p'=>rw[(at1 b p' z).2.2.inj n3]
 have ZF:∀b u,s1.heap.objs.size<=b->H2 b=some u->se X.prog X.w H2 h' b u/\(b=S\/∃p:Str×Int,u=.tup [.str p.1,.int p.2]):=λb u hb z=>by
  by_cases eb:b=S
  .subst eb;rw[eS]at z;cases z;refine⟨⟨by rw[cX,hl,dN];omega,ws.map Value.ref,e,?_,YQ⟩,.inl rfl⟩;have go:∀l:QXQ,qE (l.map V.ref) (l.map Value.ref):=λl=>by
    induction l with
    | nil=>exact .nil
    | cons c r ih=>exact .cons rfl ih
   exact go ws
  .have z':(match (ws.zip (sW ps)).lookup b with|some p=>some (HO.tup [.str p.1,.int p.2])|none=>H1 b)=some u:=by have:H2 b=_:=df eb;rw[this]at z;exact z
   cases y:(ws.zip (sW ps)).lookup b with
   | none=>rw[y,fr b hb]at z';cases z'
   | some p=>rw[y]at z';cases z';obtain⟨_,_,t1,t2,e3⟩:=at1 b p y;exact⟨⟨by show 2<=sizeLine;rw[dN];decide,[.str p.1 t1,.int p.2 t2],.cons ⟨_,rfl⟩ (.cons ⟨_,rfl⟩ .nil),⟨_,e3,rfl,⟨_,rfl⟩,rfl⟩⟩,.inr ⟨p,rfl⟩⟩
 refine⟨.ref S,H2,I1.many (t':=tk) k' low λb u hb z=>(ZF b u hb z).1,rfl,q S H2 ws (fr S (jL lowS)) (λb u z=>by rw[low b (I1.mZ.lt z)];exact z) eS hl tupAt λb u z1 z2=>?_⟩;by_cases hb:b<s1.heap.objs.size
 .rw[low b hb,z1]at z2;cases z2
 .exact(ZF b u (jQ hb) z2).2
end L2
namespace L3
open L2
def yy(p:Str×Int):D:=.tup [.str p.1,.int p.2]
def R0(ta:T3):T3:=λδ M Q=>ta δ M λx M1=>match x with
 | .ref a=>∃ps:List (Str×Int),zi M1 a=some (ps.map λp=>((Sum.inr p.1:rc),D.int p.2))/\ps.length<=3/\∀S,M1 S=none->Q (.ref S) (pL M1 S (.lst ((sW ps).map yy)))
 | _=>False
theorem BL{K:qw}{H:Hp}:∀{ps:List (Str×Int)} {vs:List (rc×V)},vs.map (·.1)=(ps.map λp=>((Sum.inr p.1:rc),D.int p.2)).map (·.1)->qu K H ((ps.map λp=>((Sum.inr p.1:rc),D.int p.2)).map (·.2)) (vs.map (·.2))->vs=ps.map (λp=>((Sum.inr p.1:rc),V.int p.2))
 | [],[],_,_=>rfl
 | [],_::_,e,_=>by cases e
 | _::_,[],e,_=>by cases e
 | p::ps,(k,v)::vs,e,h=>by obtain⟨x,r,e2,h1,h2⟩:=h.inv;obtain⟨e3,e4⟩:=gv e2;obtain⟨f1,f2⟩:=gv e;subst e3 e4;have hk:k=Sum.inr p.1:=f1;have hv:v=V.int p.2:=rV.int_inv h1;rw[BL f2 h2,hk,hv];rfl
def zB{X:Cx}{o:Expr}{ta:T3}{p pos W6 Xa:Pos}(hc:X.calm=true)(he:E3 X o ta)(hg:Gl X "sorted")(hm:X.mg "sorted"=none) (Xh:attributeBase o "items" X.env (eval o X.env)=eval o X.env:=by rfl) (Xr:(W6.endLine==Xa.line)=true:=by rfl):
  E3 X (.Call (.Name "sorted" p) [.Call (.Attribute o "items" W6) [] [] Xa] [] pos) (R0 ta):=PE.mono (Fd hc he hg hm Xh Xr) λσ H Q' zz=>x7 zz λδ M Q hs hm ht k=>
 ⟨δ,M,_,hs,hm,ht,λv H1 d M1 hd W5 e1 q1=>by
  cases d with
  | ref a=>
   cases hd.mR;obtain⟨ps,f1,f2,q⟩:=q1;obtain⟨vs,h1,h2,h3⟩:=zw W5 f1;refine⟨a,vs,ps,rfl,h1,BL h2 h3,f2,λS H2 ws n1 kp eS hl hw hn=>?_⟩;have ex:qS X.K H1 H2:=⟨λb xs z=>by
    rcases z with(z|⟨u,z⟩)|z
    .exact .inl (.inl (kp _ _ z))
    .exact .inl (.inr ⟨u,kp _ _ z⟩)
    .exact .inr z,λb u xs z=>kp _ _ z⟩
   have ZC:(sW ps).length=ws.length:=by rw[D8 f2,hl]
   have hasW:∀(l:List (Str×Int)) (us:QXQ),l.length=us.length->(∀(j:Nat) (a:Addr) (p:Str×Int),us[j]?=some a->l[j]?=some p->H2 a=some (.tup [.str p.1,.int p.2]))->qu X.K H2 (l.map yy) (us.map V.ref):=λl=>by
    induction l with
    | nil=>intro us e _;cases us with
     | nil=>exact .nil
     | cons _ _=>cases e
    | cons c r ih=>intro us e hu;cases us with
     | nil=>cases e
     | cons b us=>exact .cons (.tup (.of (hu 0 b c rfl rfl)) (.cons .str (.cons .int .nil))) (ih us (by simpa using e) λj a p e1 e2=>hu (j+1) a p e1 e2)
   refine k _ _ _ _ .ref (λb c z=>?_) (e1.trans ex) (q S (W5.fresh n1));by_cases eb:b=S
   .subst eb;rw[pX]at z;cases z;exact⟨_,eS,hasW _ _ ZC hw⟩
   .rw[uh eb]at z;have ok:=W5 b c z;obtain⟨u,eu,_⟩:=ok.there;exact ok.keep ex (by rw[eu,kp _ _ eu])
  | _=>exact q1.elim⟩
variable {X:Cx}{pos:Pos}{a b o i:Expr}{ta tb ti to:T3}
def U4(to ti:T3):Dd:=λd δ M Q=>to δ M λx M1=>ti δ M1 λy M2=>match x,y with
 | .ref p,.int k=>(pf M2 p).elim False λes=>(GP es.length k).elim False λj=>Q δ (pL M2 p (.lst (es.set j d)))
 | _,_=>False
theorem qu.set{K:qw}{H:Hp}{d:D}{v:V}(hv:rV K H d v):∀{ds:List D} {xs:List V} (j:Nat),qu K H ds xs->qu K H (ds.set j d) (xs.set j v)
 | [],_,j,h=>by rw[h.nil_inv];simp only[List.set_nil];exact .nil
 | e::ds,_,0,h=>by obtain⟨x,r,rfl,h1,h2⟩:=h.inv;exact .cons hv h2
 | e::ds,_,j+1,h=>by obtain⟨x,r,rfl,h1,h2⟩:=h.inv;exact .cons h1 (qu.set hv j h2)
def SJ(ho:E3 X o to)(hi:E3 X i ti) (ha:∀v,assign (.Subscript o i pos) X.env v=(do
   let ov<-holding [v] (eval o X.env);let iv<-holding [v,ov] (eval i X.env)
   standAt pos
   holding [v,ov,iv] (setItem ov iv v)
   release [v,ov,iv] []):=by intro _;rfl):G3 X (.Subscript o i pos) (U4 to ti):=
 PG.mono (Rv ho hi LW ha) λv σ H Q' ⟨d,δ,M,Q,hd,hs,hm,ht,k⟩=>
 ⟨δ,M,_,hs,hm,ht,λvx H1 x M1 hx W5 e1 q1=>⟨δ,M1,_,hs.mono e1,W5,q1,λvy H2 y M2 hy Xk e2 q2=>by
  cases x with
  | ref p=>
   cases y with
   | int j0=>obtain⟨es,f1,q2⟩:=qX q2;obtain⟨j,f2,q2⟩:=qX q2;cases(hx.mono e2).mR;cases hy.int_inv;obtain⟨xs,h1,h2⟩:=EN Xk f1;refine⟨p,xs,j0,j,rfl,rfl,h1,by rw[<-h2.length];exact f2,?_⟩;have hd2:=hd.mono (e1.trans e2);obtain⟨X2,e3⟩:=Xk.put (o:=.lst (xs.set j v)) (c:=.lst (es.set j d)) (qm f1) λex=>⟨_,qp,(h2.mono ex).set (hd2.mono ex) j⟩;exact k σ _ δ _ (hs.mono (e1.trans (e2.trans e3))) X2 (e1.trans (e2.trans e3)) rfl q2
   | _=>exact q2.elim
  | _=>exact q2.elim⟩⟩
end L3
namespace L2
variable {prog:Pg}{w:Wo}{A:Ar}{E:QQX}{s:Sd}{X:Cx}
end L2
namespace L3
open L2
variable {X:Cx}{pos W6 p:Pos}{a b o e i value:Expr}{es:List Expr}{ta tb ti to tv td tk:T3}{t:xA}
def RO(x y:D)(M:Mp)(Q:DK):Prop:=match x,y with
 | .ref a,.int k=>(pf M a).elim False λes=>(0<=k/\k<=1000/\es.length<=1000)/\∀p,M p=none->Q (.ref p) (pL M p (.lst (List.replicate k.toNat es).flatten))
 | _,_=>False
theorem IK{K:qw}{H:Hp}{ds:List D}{xs:List V}(h:qu K H ds xs):∀n:Nat,qu K H (List.replicate n ds).flatten (List.replicate n xs).flatten
 | 0=>.nil
 | n+1=>by rw[eL,eL,fQ,fQ];exact h.append (IK h n)
def SV:xJ X (binaryOp .Mult) (R3 X.K RO):=λW2 s σ H vx vy v u Q' I rx ry h=>by
 obtain⟨x,y,M,Q,hx,hy,hm,q,k⟩:=h;unfold RO at q;split at q
 .obtain⟨es,e1,⟨q1,q2,q3⟩,q⟩:=qX q;cases hx.mR;cases hy.int_inv;obtain⟨xs,h1,h2⟩:=EN hm e1;have hz:=dN;have hl:=h2.length;refine Rl W2 s σ H _ _ v u Q' I rx ry ⟨_,_,xs,rfl,rfl,h1,by omega,by omega,?_,λpp hp=>?_⟩
  .exact d9 (kt (show xs.length<=1000 by omega) (show Int.toNat _<=1000 by omega)) (by rw[hz];decide)
  .exact k _ _ _ _ .ref (hm.new (c:=.lst _) hp ⟨_,qp,(IK h2 _).mono (.new hp)⟩) (.new hp) (q pp (hm.fresh hp))
 .exact q.elim
def Tp(ta tb:T3):T3:=λδ M Q=>ta δ M λx M1=>tb δ M1 λy M2=>RO x y M2 Q
def Ca(ha:E3 X a ta)(hb:E3 X b tb):E3 X (.BinOp a .Mult b pos) (Tp ta tb):=PE.mono (QG SV ha hb) HJ
def BD(kvs:List (rc×D))(k:rc)(v:D):List (rc×D):=if (kvs.any λkv=>decide (kv.1=k))=true then kvs.map (λkv=>if kv.1=k then(kv.1,v)else kv)else kvs++[(k,v)]
theorem F0{κ α β:Type}{k:κ}[DecidableEq κ]:∀{xs:List (κ×α)} {ys:List (κ×β)},xs.map (·.1)=ys.map (·.1)->(xs.any λkv=>decide (kv.1=k))=ys.any λkv=>decide (kv.1=k)
 | [],[],_=>rfl
 | [],_::_,e=>by cases e
 | _::_,[],e=>by cases e
 | x::xs,y::ys,e=>by obtain⟨e1,e2⟩:=gv e;rw[gc,gc,F0 e2];have e1:x.1=y.1:=e1;rw[e1]
def Ku{K:qw}{H:Hp}{k:rc}{d:D}{v:V}(hv:rV K H d v){kvs:List (rc×D)}{vs:List (rc×V)}(h1:vs.map (·.1)=kvs.map (·.1))(h2:qu K H (kvs.map (·.2)) (vs.map (·.2))):
  (yQ vs k v).map (·.1)=(BD kvs k d).map (·.1)/\qu K H ((BD kvs k d).map (·.2)) ((yQ vs k v).map (·.2)):=by
 have go:∀{kvs:List (rc×D)} {vs:List (rc×V)},vs.map (·.1)=kvs.map (·.1)->qu K H (kvs.map (·.2)) (vs.map (·.2))->
   (vs.map (λkv=>if kv.1=k then(kv.1,v)else kv)).map (·.1)=(kvs.map (λkv=>if kv.1=k then(kv.1,d)else kv)).map (·.1)/\qu K H ((kvs.map (λkv=>if kv.1=k then(kv.1,d)else kv)).map (·.2)) ((vs.map (λkv=>if kv.1=k then(kv.1,v)else kv)).map (·.2)):=λ{kvs}=>by
  induction kvs with
  | nil=>intro vs e h;cases vs with
   | nil=>exact⟨rfl,.nil⟩
   | cons _ _=>cases e
  | cons c r ih=>intro vs e h;cases vs with
   | nil=>cases e
   | cons w ws=>
    obtain⟨e1,e2⟩:=gv e;obtain⟨x,xr,e3,g1,g2⟩:=h.inv;obtain⟨e4,e5⟩:=gv e3;subst e4 e5;obtain⟨i1,i2⟩:=ih e2 g2;have e1:w.1=c.1:=e1;by_cases hk:c.1=k
    .have w1:(if w.1=k then(w.1,v)else w)=(w.1,v):=dh (e1.trans hk);have w2:(if c.1=k then(c.1,d)else c)=(c.1,d):=dh hk;simp only[dY,w1,w2];exact⟨by rw[i1,e1],.cons hv i2⟩
    .have w1:(if w.1=k then(w.1,v)else w)=w:=df λz=>hk (e1.symm.trans z);have w2:(if c.1=k then(c.1,d)else c)=c:=df hk;simp only[dY,w1,w2];exact⟨by rw[i1,e1],.cons g1 i2⟩
 unfold yQ BD;rw[F0 (k:=k) h1];by_cases hk:(kvs.any λkv=>decide (kv.1=k))=true
 .rw[dh hk,dh hk];exact go h1 h2
 .rw[df hk,df hk];exact⟨by rw[dQ,dQ,h1];rfl,by rw[dQ,dQ];exact h2.append (.cons hv .nil)⟩
def Tw(td tk tv:T3):xq:=λD δ M=>tv δ M λv M1=>td δ M1 λx M2=>tk δ M2 λy M3=>match x,y with
 | .ref a,.str k=>(zi M3 a).elim False λkvs=>kvs.length<sizeLine/\D.nx δ (pL M3 a (.dk (BD kvs (.inr k) v)))
 | _,_=>False
def zL{M:Mp}{a:Addr}{kvs:List (rc×D)}(h:zi M a=some kvs):M a=some (.dk kvs):=by
 unfold zi at h;split at h
 .rename_i e;rw[e];cases h;rfl
 .cases h
def Qh{Xb:Pos}(hu:X.A.units+9<cLine)(ho:E3 X o td)(hi:E3 X i tk)(hv:E3 X value tv)(hs:swapsWith value (some (.Subscript o i Xb)) pos.line X.env=pure false:=by rfl):S3 X (.Assign [.Subscript o i Xb] value pos) (Tw td tk tv):=
 PS.mono (PB (by omega) ho hi hv hs) λD' σ H zz=>J3 zz λδ M D hs hm ht k1 k2 k3 k4=>
 ⟨δ,M,_,hs,hm,ht,λv H1 d M1 hd W5 e1 q1=>⟨δ,M1,_,hs.mono e1,W5,q1,λvx H2 x M2 hx Xk e2 q2=>⟨δ,M2,_,hs.mono (e1.trans e2),Xk,q2,λvy H3 y M3 hy X2 e3 q3=>by
  split at q3
  .rename_i a0 k0;obtain⟨kvs,f1,f2,q3⟩:=qX q3;cases(hx.mono e3).mR;cases hy.str_inv;obtain⟨vs,h1,h2,h3⟩:=zw X2 f1;have hl:vs.length=kvs.length:=by have:=eV List.length h2;simpa using this
   refine⟨_,_,rfl,Nx.k (k:=Sum.inr k0) h1 (by omega),?_⟩;have hd3:=hd.mono (e2.trans e3);obtain⟨hm4,e4⟩:=X2.put (o:=.dK (yQ vs (Sum.inr k0) v)) (c:=.dk (BD kvs (.inr k0) d)) (zL f1) λex=>by obtain⟨g1,g2⟩:=Ku (k:=Sum.inr k0) (hd3.mono ex) h2 (h3.mono ex);exact⟨_,qp,g1,g2⟩
   exact k1 σ _ δ _ (hs.mono (e1.trans (e2.trans (e3.trans e4)))) hm4 (e1.trans (e2.trans (e3.trans e4))) rfl q3
  .exact q3.elim⟩⟩⟩
variable {W2:List (Addr × Obj)}{σ:St}{H:Hp}{s:Sd}{tp:Pos}{Xt:List Expr}{n:Nat}
end L3
namespace L2
open Builtin Builtin.Str
variable {prog:Pg}{w:Wo}{A:Ar}{E:QQX}{s:Sd}{X:Cx}
end L2
namespace L3
open L2 Builtin Builtin.Str
variable {X:Cx}{pos W6:Pos}{o e:Expr}{es:List Expr}{ta:T3}{t:xA}
@[irreducible] def SsI (X:Cx) (st:List Stmt) (t:xq):Prop:=Hn X st t
@[irreducible] def SI (X:Cx) (st:Stmt) (t:xq):Prop:=S3 X st t
@[irreducible] def EI (X:Cx) (e:Expr) (t:T3):Prop:=E3 X e t
@[irreducible] def AI (X:Cx) (es:List Expr) (t:xA):Prop:=A3 X es t
variable {prog:Pg}{w:Wo}{A:Ar}{E:QQX}{s:Sd}{W2:List (Addr × Obj)}{σ:St}{H:Hp}{p tp:Pos}{Xt:List Expr}{n:Nat}
theorem yd{g:Dd}{tt:AH}{te:T3}{ok:Mp->Prop}{Q:DK}(all:List D)(J:List D->List D->vg->Mp->Prop)(mZ:∀p acc δ M,J p acc δ M->ok M):∀(ds pre acc:List D) (δ:vg) (M:Mp),pre++ds=all->acc.length+ds.length<=sizeLine->J pre acc δ M->
  (∀pre d post,pre++d::post=all->∀acc δ M,J pre acc δ M->∀(k:vg->DK) (k2:vg->Mp->Prop),(∀δ2 y M4,J (pre++[d]) (acc++[y]) δ2 M4->k δ2 y M4)->(∀δ2 M3,J (pre++[d]) acc δ2 M3->k2 δ2 M3)->g d δ M λδ2 M2=>tt δ2 M2 λb M3=>if b=true then te δ2 M3 (k δ2)else k2 δ2 M3)->
  (∀acc δ M,J all acc δ M->∀p,M p=none->Q (.ref p) (pL M p (.lst acc)))->uY g tt te ok Q ds acc δ M
 | [],pre,acc,δ,M,e,hl,j,_,hq=>⟨by simpa using hl,hq acc δ M (by rw[<-e,fh];exact j)⟩
 | d::r,pre,acc,δ,M,e,hl,j,ht,hq=>by rw[eD]at hl;refine⟨by omega,?_⟩;refine ht pre d r e acc δ M j (λδ2 y M4=>ok M4/\uY g tt te ok Q r (acc++[y]) δ2 M4) (λδ2 M3=>ok M3/\uY g tt te ok Q r acc δ2 M3) (λδ2 y M4 j'=>⟨mZ _ _ _ _ j',yd all J mZ r (pre++[d]) (acc++[y]) δ2 M4 (by rw[<-e,fz];rfl) ?_ j' ht hq⟩) λδ2 M3 j'=>⟨mZ _ _ _ _ j',yd all J mZ r (pre++[d]) acc δ2 M3 (by rw[<-e,fz];rfl) (by omega) j' ht hq⟩;rw[de,dS];omega
end L3
namespace L2
def Cx.om(X:Cx)(E:QQX):Cx:={X with xe:=E}
def Inv.om{X:Cx}{E:QQX}{W2:QQY}{σ:St}{H:Hp}{s:Sd}(I:Inv X W2 σ H s):Inv (X.om E) W2 σ H s:=
 ⟨⟨I.ok.mod,I.ok.kind,I.ok.glob,I.ok.blt,I.ok.above,I.ok.inj,I.ok.has,I.ok.oK,I.ok.hd,I.ok.frames,I.ok.oR,I.ok.pk,I.ok.bs,I.ok.oq,I.ok.nZ,I.ok.oj,I.ok.nM,I.ok.oB⟩,I.os,I.bare,I.base,I.loc,I.cell,I.free,I.nk,I.pin,I.mZ,I.len⟩
def Inv.xeOf{X:Cx}{E:QQX}{W2:QQY}{σ:St}{H:Hp}{s:Sd}(I:Inv (X.om E) W2 σ H s):Inv X W2 σ H s:=
 ⟨⟨I.ok.mod,I.ok.kind,I.ok.glob,I.ok.blt,I.ok.above,I.ok.inj,I.ok.has,I.ok.oK,I.ok.hd,I.ok.frames,I.ok.oR,I.ok.pk,I.ok.bs,I.ok.oq,I.ok.nZ,I.ok.oj,I.ok.nM,I.ok.oB⟩,I.os,I.bare,I.base,I.loc,I.cell,I.free,I.nk,I.pin,I.mZ,I.len⟩
end L2
namespace L3
open L2
end L3
namespace L2
end L2
namespace L3
open L2
variable {X:Cx}{pos p tp kpos:Pos}{Xt:List Expr}{n:Nat}
end L3
namespace L2
variable {prog:Pg}{w:Wo}{A:Ar}{E:QQX}{s:Sd}{a:Addr}{δ:Type}{k:Str}{tk:Tok}
section
variable {R:δ→Vl→Prop}{D:List (Str × δ)}
end
end L2
namespace L3
open L2
variable {X:Cx}{pos p:Pos}{x:Str}{d:D}{e o i:Expr}{ta tb td tk:T3}{F:List (Str × QQQ)}
end L3
namespace L2
def L4(h:Heap)(e:Addr)(cls:Vl)(dx tb:Option Addr)(F:Vl):Prop:=
 ∃oe vs,h.get? e=some oe/\oe.cls=cls/\oe.dict=dx/\oe.data=.fields vs/\1<vs.size/\vs[1]?=some (tb.elim Value.none Value.ref)/\∀T,tb=some T->T≠e/\∃oT ts,h.get? T=some oT/\oT.data=.fields ts/\3<ts.size/\ts[3]?=some F
def Qv(h:Heap)(e:Addr)(cls:Vl)(dx tb:Option Addr):Prop:=L4 h e cls dx tb Value.none
theorem Bz{h base:Heap}:∀{l:List Env} {b:Addr},h.FunFrames base l->b∈wg l->∃o,h.get? b=some o/\∀vs,o.data≠.fields vs
 | [],b,_,hb=>by cases hb
 | env::r,b,hF,hb=>by
  obtain⟨_,⟨L,o,hL,_,ho,hd⟩,hr⟩:=hF;have e:wg (env::r)=L::wg r:=by unfold wg;rw[fY,hL]
  rw[e]at hb;rcases dv.mp hb with z|z
  .rw[z];exact⟨o,ho,hd⟩
  .exact Bz hr z
def DA{h base:Heap}{l:List Env}{b:Addr}{o:Obj}{vs:Array Vl}(hF:h.FunFrames base l)(ho:h.get? b=some o)(hd:o.data=.fields vs):b∉wg l:=λhb=>by obtain⟨o',XI,hn⟩:=Bz hF hb;rw[ho]at XI;cases XI;exact hn vs hd
variable {M:Model}{A:Ar}{s:Sd}{base:Heap}{env:Env}{outer:List Env}{L e:Addr}{cls:Vl}{dx:Option Addr}{Q:Unit→Sd→Prop}
section
variable {E:QQX}
def OM{Yn:Vl}{Zn:Bool}{oe:Obj}{vs:Array Vl}{XM:Env}(hcf:XM.frame=some L)(Y6:A.frames=some (env::outer))(hF:s.heap.FunFrames base (env::outer))(hL:env.frame=some L)(ho:s.heap.get? e=some oe)(hd:oe.data=.fields vs)(h1:1<vs.size) (k:∀(h':Heap) (T:Addr),s.heap.get? T=none->(∀b o,s.heap.get? b=some o->b∉wg (env::outer)->b≠e->h'.get? b=some o)->(∀b o,s.heap.get? b=some o->b∈wg (env::outer)->∃sl,h'.get? b=some {o with slots:=sl})->
   (∃oe',h'.get? e=some oe'/\oe'.cls=oe.cls/\oe'.dict=oe.dict/\oe'.data=.fields (vs.setIfInBounds 1 (.ref T)))->(∃oT ts,h'.get? T=some oT/\oT.data=.fields ts/\3<ts.size/\ts[3]?=some (rawInt ↑L))->Q () {s with heap:=h'}):
  wpAny M A (do
   let a<-PySem.frameOf XM;let pl<-entryPlaceOf L Zn;let b<-EntryCells.newEntry Yn a Value.none (rawInt ↑L) Value.none pl
   setField (Value.ref e) 1 b) Q E s:=by
 have ne:=DA hF ho hd;unfold PySem.frameOf;refine cY (cY (wpAny_frameEnvs Y6 (cY ?_)));have ed:List.dropWhile (λx=>x.frame != XM.frame) (env::outer)=env::outer:=by rw[List.dropWhile_cons,df (by rw[hL,hcf];simp)]
 rw[ed];unfold frameObject;refine cY (wpAny_readyFrames_fun hF λXN hs=>?_);obtain⟨z1,z2,z3⟩:=hs;rw[hL];refine dq (dq ?_);refine cY (wpAny_entryPlaceOf λpl hp=>?_);refine cY ?_;unfold EntryCells.newEntry newFields;have W9:([Yn,Value.ref L,Value.none,rawInt ↑L,Value.none]++if pl.isEmpty=true then List.replicate 6 Value.none else pl).length=11:=by rw[de];rcases hp with rfl|⟨_,_,_,_,_,_,_,rfl⟩<;>rfl
 have hfl:([Yn,Value.ref L,Value.none,rawInt ↑L,Value.none]++if pl.isEmpty=true then List.replicate 6 Value.none else pl)[3]?=some (rawInt ↑L):=rfl;generalize ([Yn,Value.ref L,Value.none,rawInt ↑L,Value.none]++if pl.isEmpty=true then List.replicate 6 Value.none else pl)=fs at W9 hfl ⊢;refine fU ?_ (by
  show fs.toArray.size<=_;rw[dB,W9];decide)
 have e1:XN.get? e=some oe:=by rw[z2 e ne];exact ho
 have e2:(XN.push {cls:=.type "traceback",data:=.fields fs.toArray}).get? e=some oe:=dg _ e1;refine h9 e2 hd h1 ?_;have tn:s.heap.get? XN.objs.size=none:=gM (by rw[z1];exact dz _);have te:XN.objs.size≠e:=λz=>by rw[z,ho]at tn;cases tn
 obtain⟨oc,od,odt,X1⟩:=oe;obtain rfl:odt=.fields vs:=hd;have up:∀b,e≠b->((XN.push {cls:=.type "traceback",data:=.fields fs.toArray}).update e (Obj.mapFields λx=>x.setIfInBounds 1 (.ref XN.objs.size))).get? b=(XN.push {cls:=.type "traceback",data:=.fields fs.toArray}).get? b:=λb z=>gb _ _ z;refine k _ XN.objs.size tn (λb o hb nf ne'=>?_) (λb o hb hf=>?_) ⟨_,fK _ e2 rfl,rfl,rfl,rfl⟩ ⟨_,fs.toArray,(up _ (dR te)).trans (dI _ rfl),rfl,by rw[dB,W9];decide,by rw[iQ];exact hfl⟩
 .rw[up b (dR ne')];exact dg _ (by rw[z2 b nf];exact hb)
 .obtain⟨sl,q⟩:=z3 b o hb;refine⟨sl,?_⟩;rw[up b (λz=>ne (z ▸ hf))];exact dg _ q
def S4{E₁:QQX}{tb:Option Addr}{F:Vl}{XM:Env}(hcf:XM.frame=some L)(Y6:A.frames=some (env::outer))(hF:s.heap.FunFrames base (env::outer))(hL:env.frame=some L)(hx:L4 s.heap e cls dx tb F)(hFL:(F==rawInt ↑L)=false) (k:∀(h':Heap) (T:Addr),s.heap.get? T=none->(∀b o,s.heap.get? b=some o->b∉wg (env::outer)->b≠e->tb≠some b->h'.get? b=some o)->(∀b o,s.heap.get? b=some o->b∈wg (env::outer)->∃sl,h'.get? b=some {o with slots:=sl})->
   (∀b,h'.get? b=none->s.heap.get? b=none)->L4 h' e cls dx (some T) (rawInt ↑L)->Q () {s with heap:=h'}):wpAny M A (noteFrame (.ref e) XM) Q E₁ s:=by
 obtain⟨oe,vs,ho,hc,YV,hd,h1,hv,hT⟩:=hx;have ne:=DA hF ho hd;unfold noteFrame;rw[hcf];refine cY (ft ho hd hv ?_);have W7:∀(s1:Sd) (oe1:Obj),s1.gens=s.gens->s1.drawn=s.drawn->s1.toks=s.toks->s1.os=s.os->s1.heap.FunFrames base (env::outer)->s1.heap.get? e=some oe1->oe1.cls=cls->oe1.dict=dx->oe1.data=.fields vs->(∀b o,s.heap.get? b=some o->b∉wg (env::outer)->b≠e->tb≠some b->s1.heap.get? b=some o)->
   (∀b o,s.heap.get? b=some o->b∈wg (env::outer)->s1.heap.get? b=some o)->(∀b,s1.heap.get? b=none↔s.heap.get? b=none)->∀(Yn:Vl) (Zn:Bool),wpAny M A (do
   let a<-PySem.frameOf XM;let pl<-entryPlaceOf L Zn;let b<-EntryCells.newEntry Yn a Value.none (rawInt ↑L) Value.none pl
   setField (Value.ref e) 1 b) Q E₁ s1:=by
  intro s1 oe1 g1 g2 g3 g4 hF1 ZZ hc1 hdx1 hd1 kb kf kn Yn Zn;refine OM hcf Y6 hF1 hL ZZ hd1 h1 λh' T tn k1 k2 ⟨oe',he',hce,hdxe,hde⟩ ⟨oT,ts,Yh,YH,h3,h3v⟩=>?_;have te:T≠e:=λz=>by rw[z,ZZ]at tn;cases tn
  have:=k h' T ((kn T).mp tn) (λb o hb nf nb nt=>k1 b o (kb b o hb nf nb nt) nf nb) (λb o hb hf=>k2 b o (kf b o hb hf) hf) (λb hb=>?_) ⟨oe',vs.setIfInBounds 1 (.ref T),he',hce.trans hc1,hdxe.trans hdx1,hde,by rw[jT];exact h1,by rw[ij h1];rfl,λT' eT=>?_⟩
  .show Q () {heap:=_,gens:=s1.gens,drawn:=s1.drawn,toks:=s1.toks,os:=s1.os};rw[g1,g2,g3,g4];exact this
  .refine(kn b).mp ?_;cases q:s1.heap.get? b with
   | none=>rfl
   | some o=>
    by_cases z:b=e
    .rw[z,he']at hb;cases hb
    .by_cases zf:b∈wg (env::outer)
     .obtain⟨sl,q2⟩:=k2 b o q zf;rw[q2]at hb;cases hb
     .rw[k1 b o q zf z]at hb;cases hb
  .cases eT;exact⟨te,oT,ts,Yh,YH,h3,h3v⟩
 cases tb with
 | none=>rw[df (show ¬((none:Option Addr).elim Value.none Value.ref != Value.none)=true by decide+kernel)];exact W7 s oe rfl rfl rfl rfl hF ho hc YV hd (λb o hb _ _ _=>hb) (λb o hb _=>hb) (λb=>.rfl) _ _
 | some T=>
  obtain⟨nTe,oT,ts,Yh,YH,h3,hn⟩:=hT T rfl;rw[dh (show((some T:Option Addr).elim Value.none Value.ref != Value.none)=true by rfl)];refine cY (ft Yh YH hn ?_);rw[df (by rw[hFL];exact dC)];refine cY (h9 Yh YH h3 ?_);have up:∀b,T≠b->(s.heap.update T (Obj.mapFields λx=>x.setIfInBounds 3 .none)).get? b=s.heap.get? b:=λb z=>gb _ _ z;have nf:∀b o,s.heap.get? b=some o->(∀vs,o.data≠.fields vs)->T≠b:=λb o hb hn z=>by rw[<-z,Yh]at hb;cases hb;exact hn ts YH
  have sz:∀b,(s.heap.update T (Obj.mapFields λx=>x.setIfInBounds 3 .none)).get? b=none↔s.heap.get? b=none:=λb=>by
   by_cases z:T=b
   .rw[<-z];obtain⟨oc,od,odt,X1⟩:=oT;obtain rfl:odt=.fields ts:=YH;rw[fK _ Yh rfl,Yh];exact⟨(λq=>by cases q),(λq=>by cases q)⟩
   .rw[up b z]
  exact W7 {s with heap:=s.heap.update T (Obj.mapFields λx=>x.setIfInBounds 3 .none)} oe rfl rfl rfl rfl (mL (λb o hb hn=>⟨o,(up b (nf b o hb hn)).trans hb,rfl⟩) hF) ((up e nTe).trans ho) hc YV hd
   (λb o hb _ _ nt=>(up b λz=>nt (by rw[z])).trans hb) (λb o hb hf=>by
    obtain⟨o',XI,hn⟩:=Bz hF hf;rw[hb]at XI;cases XI;exact(up b (nf b o hb hn)).trans hb) sz _ _
def MC{T:Addr}{F:Vl}(x:Option Addr)(hx:L4 s.heap e cls dx (some T) F)(k:∀h':Heap,(∀b,T≠b->h'.get? b=s.heap.get? b)->(∀b,h'.get? b=none↔s.heap.get? b=none)->L4 h' e cls dx (some T) (x.elim .none λf=>rawInt f)->Q () {s with heap:=h'}):wpAny M A (setFlight (.ref e) x) Q E s:=by
 obtain⟨oe,vs,ho,hc,YV,hd,h1,hv,hT⟩:=hx;obtain⟨nTe,oT,ts,Yh,YH,h3,hn⟩:=hT T rfl;unfold setFlight;refine cY (ft ho hd hv ?_);rw[dh (by rfl)];refine h9 Yh YH h3 ?_;obtain⟨oc,od,odt,X1⟩:=oT;obtain rfl:odt=.fields ts:=YH;have up:∀b,T≠b->(s.heap.update T (Obj.mapFields λy=>y.setIfInBounds 3 (x.elim .none λf=>rawInt f))).get? b=s.heap.get? b:=λb z=>gb _ _ z;refine k _ up (λb=>?_) ⟨oe,vs,(up e nTe).trans ho,hc,YV,hd,h1,hv,λT' eT=>?_⟩
 .by_cases z:T=b
  .rw[<-z,fK _ Yh rfl,Yh];exact⟨(λq=>by cases q),(λq=>by cases q)⟩
  .rw[up b z]
 .cases eT;exact⟨nTe,_,ts.setIfInBounds 3 (x.elim .none λf=>rawInt f),fK _ Yh rfl,rfl,by rw[jT];exact h3,by rw[ij h3]⟩
def IF{E₁ E₂:QQX}{tb:Option Addr}(Y6:A.frames=some (env::outer))(hF:s.heap.FunFrames base (env::outer))(hL:env.frame=some L)(hx:Qv s.heap e cls dx tb) (k:∀(h':Heap) (T:Addr),s.heap.get? T=none->(∀b o,s.heap.get? b=some o->b∉wg (env::outer)->b≠e->tb≠some b->h'.get? b=some o)->(∀b o,s.heap.get? b=some o->b∈wg (env::outer)->∃sl,h'.get? b=some {o with slots:=sl})->
   Qv h' e cls dx (some T)->Q () {s with heap:=h'}):wpAny M A (noteFrame (.ref e) env) (λ_ s₂=>wpAny M A (setFlight (.ref e) none) Q E₂ s₂) E₁ s:=by
 refine S4 hL Y6 hF hL hx (dO.mpr λz=>by have:=fk.mp z;cases this) λh' T tn k1 k2 _ x'=>?_;refine MC none x' λh2 up _ x2=>k h2 T tn (λb o hb nf nb nt=>?_) (λb o hb hf=>?_) x2
 .have tb:T≠b:=λz=>by rw[z,hb]at tn;cases tn
  exact(up b tb).trans (k1 b o hb nf nb nt)
 .have tb:T≠b:=λz=>by rw[z,hb]at tn;cases tn
  obtain⟨sl,q⟩:=k2 b o hb hf;exact⟨sl,(up b tb).trans q⟩
def PZ{tb:Option Addr}(Y6:A.frames=some (env::outer))(hF:s.heap.FunFrames base (env::outer))(hL:env.frame=some L)(hx:Qv s.heap e cls dx tb) (k:∀(h':Heap) (T:Addr),s.heap.get? T=none->(∀b o,s.heap.get? b=some o->b∉wg (env::outer)->b≠e->tb≠some b->h'.get? b=some o)->(∀b o,s.heap.get? b=some o->b∈wg (env::outer)->∃sl,h'.get? b=some {o with slots:=sl})->
   Qv h' e cls dx (some T)->Q () {s with heap:=h'}):wpAny M A (leaving env (.ref e)) Q E s:=cY (IF Y6 hF hL hx k)
end
def B1(P:Pg)(w:Wo):KS:=λouter H s E ev s'=>Ha λe C dx H' tb=>ev=.ref e/\E (.ref C) dx H'/\s'.os=s.os/\AllBare s'.gens/\Un (wg outer) [] H H' s.heap s'.heap/\yp P w H' s'.heap/\
 Qv s'.heap e (.ref C) dx (some tb)/\s.heap.get? e=none/\s.heap.get? tb=none/\H' e=none/\H' tb=none
def yl{P:Pg}{w:Wo}{H:Hp}{h:Heap}{a:Addr}{o:HO}(x:se P w H h a o):∃ob,h.get? a=some ob:=by
 cases o with
 | lst xs=>obtain⟨_,_,_,_,e⟩:=x;exact⟨_,e⟩
 | tup xs=>obtain⟨_,_,_,o,e,_⟩:=x;exact⟨_,e⟩
 | dK kvs=>obtain⟨_,_,_,_,o,_,_,e,_⟩:=x;exact⟨_,e⟩
 | dT kvs=>obtain⟨_,_,_,_,o,_,_,e,_⟩:=x;exact⟨_,e⟩
 | set S n=>obtain⟨o,_,_,_,e,_⟩:=x;exact⟨_,e⟩
 | ins C dx fs=>obtain⟨_,_,_,e,_⟩:=x;exact⟨_,e⟩
 | own y=>exact x
 | xd fs=>obtain⟨_,⟨_,_,_,e,_⟩,_⟩:=x;exact⟨_,e⟩
 | rng lo hi=>obtain⟨_,_,_,e⟩:=x;exact⟨_,e⟩
 | frz ob u=>obtain⟨e,_⟩:=x;exact⟨_,e⟩
 | tbl ps=>exact⟨_,x⟩
 | met f y=>exact⟨_,x⟩
 | ext φ=>obtain⟨_,e,_⟩:=x;exact e
def ze{P:Pg}{w:Wo}{H:Hp}{h:Heap}{T:Addr}(mZ:yp P w H h)(tn:h.get? T=none):H T=none:=by
 cases z:H T with
 | none=>rfl
 | some o=>obtain⟨ob,hob⟩:=yl (mZ T o z);rw[hob]at tn;cases tn
variable {P:Pg}{w:Wo}{K:qw}{mg:QQZ}{N:QQQ}{qual:Str}{scope:Scope}{f:Addr}{cd:Vl}{s0:Sd}{H0:Hp}
section
variable {E:XK}
def GX{fs ex:QXQ}{H H':Hp}{h h':Heap}(u:Un fs ex H H' h h')(hex:ex=[]){b:Addr}(hb:h'.get? b=none):h.get? b=none:=by
 cases q:h.get? b with
 | none=>rfl
 | some o=>obtain⟨o',e⟩:=u.there b o q (by rw[hex];simp);rw[e]at hb;cases hb
def LX{W2:QQY}{σ:St}{H:Hp}{s:Sd}{e C T:Addr}{tb dx:Option Addr}{h':Heap}(I:Inv (vB (B1 P w) P w K mg base N qual scope f cd A outer s0 H0 E) W2 σ H s)(he:s0.heap.get? e=none)(XA:∀T,tb=some T->s0.heap.get? T=none/\H T=none)(hn:H e=none)(q:E (.ref C) dx H)(hT:s0.heap.get? T=none/\H T=none) (k1:∀b o,s.heap.get? b=some o->b∉wg (envOfC qual scope s0.heap.objs.size f cd::outer)->b≠e->tb≠some b->h'.get? b=some o) (k2:∀b o,s.heap.get? b=some o->b∈wg (envOfC qual scope s0.heap.objs.size f cd::outer)->∃sl,h'.get? b=some {o with slots:=sl}) (x':Qv h' e (.ref C) dx (some T)):
  B1 P w outer H0 s0 E (.ref e) {s with heap:=h'}:=by
 have XQ:=I.nQ;have Xi:∀b o,H b=some o->∀u,s.heap.get? b=some u->h'.get? b=some u:=λb o hb u hu=>k1 b u hu (λz=>by rw[XQ b z]at hb;cases hb) (λz=>by rw[z,hn]at hb;cases hb) (λz=>by rw[(XA b z).2]at hb;cases hb);have oldf:∀b o,s0.heap.get? b=some o->b∉wg [envOfC qual scope s0.heap.objs.size f cd]:=λb o hb z=>by
  have:b=s0.heap.objs.size:=by have hz:b∈[s0.heap.objs.size]:=z;exact dD.mp hz
  rw[this]at hb;exact absurd (dA hb) (fj _)
 have fr:∀b,b∈wg (envOfC qual scope s0.heap.objs.size f cd::outer)->b∈wg [envOfC qual scope s0.heap.objs.size f cd]\/b∈wg outer:=λb hb=>by
  have hb:b∈s0.heap.objs.size::wg outer:=hb;rcases dv.mp hb with z|z
  .exact .inl (by rw[z];exact dU)
  .exact .inr z
 have Xw:Un (wg outer) [] H0 H s0.heap s.heap:=I.base;refine⟨e,C,dx,H,T,rfl,q,I.os,I.bare,⟨λb o hb h0 nf ne=>?_,λb o hb h0 hf ne=>?_,Xw.free,λb o hb ne=>?_,Xw.nL,Xw.nH,Xw.nO⟩,λb o hb=>?_,x',he,hT.1,hn,hT.2⟩
 .have hs:=Xw.keep b o hb h0 nf ne;refine k1 b o hs (λz=>?_) (λz=>by rw[z,he]at hb;cases hb) λz=>by rw[(XA b z).1]at hb;cases hb
  rcases fr b z with z|z
  .exact oldf b o hb z
  .exact nf z
 .obtain⟨sl,hs⟩:=Xw.slot b o hb h0 hf ne;have:b∈wg (envOfC qual scope s0.heap.objs.size f cd::outer):=dH _ hf;obtain⟨Yu,h2⟩:=k2 b _ hs this;exact⟨Yu,h2⟩
 .obtain⟨o',hs⟩:=Xw.there b o hb ne;by_cases z:b∈wg (envOfC qual scope s0.heap.objs.size f cd::outer)
  .obtain⟨sl,h2⟩:=k2 b o' hs z;exact⟨_,h2⟩
  .exact⟨o',k1 b o' hs z (λz=>by rw[z,he]at hb;cases hb) λz=>by rw[(XA b z).1]at hb;cases hb⟩
 .refine(I.mZ b o hb).nE (λb' u XY hu=>?_) (λ_ q=>q) λ_ _ q=>q;rcases XY with z|z
  .subst z;exact Xi b' o hb u hu
  .exact Xi b' _ z u hu
def Uj{W2:QQY}{σ:St}{H:Hp}{s:Sd}{e C:Addr}{tb dx:Option Addr}(I:Inv (vB (B1 P w) P w K mg base N qual scope f cd A outer s0 H0 E) W2 σ H s)(hx:Qv s.heap e (.ref C) dx tb)(he:s0.heap.get? e=none)(hT:∀T,tb=some T->s0.heap.get? T=none/\H T=none)(hn:H e=none)(q:E (.ref C) dx H):
  (vB (B1 P w) P w K mg base N qual scope f cd A outer s0 H0 E).xe (.ref e) s:=
 PZ (base:=base) (outer:=outer) I.ok.frames I.stack rfl hx λh' T tn k1 k2 x'=>LX I he hT hn q ⟨GX (show Un (wg outer) [] H0 H s0.heap s.heap from I.base) rfl tn,ze I.mZ tn⟩ k1 k2 x'
end
section
variable {E:XK}
end
def NV(d:Addr)(f:Str)(v:V)(h:Heap):Prop:=∃u,h.Ns1 d (λy=>if y=f then some u else none)/\qN v u
end L2
namespace L3
open L2
abbrev XR:=Addr->Option (Str×D)->Mp->Prop
abbrev GF:=List D->Mp->DK->XR->Prop
def Tn(K:qw)(H:Hp)(dx:Option Addr)(y:Option (Str×D)):Prop:=(dx=none/\y=none)\/BU λd f z v=>dx=some d/\y=some (f,z)/\H d=some (.ext (NV d f v))/\rV K H z v
def Uk(K:qw)(R:XR)(E:XK):Prop:=∀C dx H M y,HM K H M->Tn K H dx y->R C y M->E (.ref C) dx H
def VM(K:qw)(sp:GF):Sp:=λvs H Q' E=>BU λds M Q R=>qu K H ds vs/\HM K H M/\sp ds M Q R/\Up K H Q' Q/\Uk K R E
abbrev RF(P:Pg)(w:Wo)(K:qw)(mg:QQZ)(base:Heap)(k:Nat)(f:Addr)(fd:FuncData)(ps:QQQ)(sp:GF):Prop:=xo P w K mg base (B1 P w) k f fd ps (VM K sp)
variable {X:Cx}{x:Str}{p pos np Xa:Pos}{e:Expr}{es:List Expr}{t:xA}{k:Nat}{f C:Addr}{fd:FuncData}{ps:QQQ}{sp:GF}{R:XR}{E:XK}{P:Pg}{w:Wo}{K:qw}{mg:QQZ}{base:Heap}{N:QQQ}{qual:Str}{scope:Scope}{cd:Vl}{A:Ar}{outer:List Env}{s0:Sd}{H0:Hp}{ta:xA}
def TN{x qual:Str}{st:Stmt}{f:Addr}{fd:FuncData}{N ps:QQQ}{k:Nat}{sp:GF}(F:O8 K x qual st f fd)(S:sZ N ps (ql st))(len:∀ds M Q R,sp ds M Q R->ds.length=ps.length) (Xq:∀(Xc:Vl) (A:Ar) (outer:List Env) (s:Sd) (H:Hp) (E:XK) (R:XR),sj k (A.deeper (envOfC qual (ql st) s.heap.objs.size f Xc))->Uk K R E->
   ∃t,Hn (vB (B1 P w) P w K mg base N qual (ql st) f Xc A outer s H E) (rY st) t/\∀ds M Q,sp ds M Q R->t {nx:=λ_ M'=>∃W8,qz W8 M'/\Q .mW W8,rt:=λd M'=>∃W8,qz W8 M'/\Q d W8} (xi N ds) M):RF P w K mg base (k+1) f fd ps sp:=by
 obtain⟨oc,od,kV,XG,pm,an,Xc,ct,X1,rfl,lk,X6⟩:=F.ex;refine LS lk X6 S (λvs H Q E h=>?_) λA outer s H vs Q' E hr h=>?_
 .obtain⟨ds,M,Q,R,hd,_,hs,_⟩:=h;rw[<-hd.length];exact len ds M Q R hs
 .obtain⟨ds,M,Q,R,hd,hm,hs,k,hR⟩:=h;obtain⟨t,ht,hb⟩:=Xq Xc A outer s H E R hr hR;exact⟨_,ht,xi N ds,M,_,DR hd,hm,hb ds M Q hs,λσ' H' δ' M' _ x2 x3 _ ⟨W8,y1,y2⟩=>k .mW H' .mW W8 .mW (x2.sub y1) x3 y2,λv H' d M' x1 x2 x3 ⟨W8,y1,y2⟩=>k v H' d W8 x1 (x2.sub y1) x3 y2,λ_ _ _ _ _ _ _ _ z=>z,λ_ _ _ _ _ _ _ _ z=>z⟩
end L3
namespace L2
def TKept(H H':Hp):Prop:=(∀b xs,H b=some (.tup xs)->H' b=some (.tup xs))/\∀b o u,H b=some (.frz o u)->H' b=some (.frz o u)
def VZ(X:Cx)(W2:QQY)(σ:St)(J:Hp->Prop)(E:XK)(ev:Vl)(s':Sd):Prop:=AC λH s=>J H/\Inv X W2 σ H s/\B1 X.prog X.w X.stack H s E ev s'
def Ua(X:Cx)(W2:QQY)(σ:St)(J:Hp->Prop)(E:XK)(ev:Vl)(s':Sd):Prop:=Th λa C dx H' tb H1 s1=>ev=.ref a/\E (.ref C) dx H'/\Inv X W2 σ H' s'/\Qv s'.heap a (.ref C) dx (some tb)/\H' a=none/\H' tb=none/\J H1/\TKept H1 H'/\Inv X W2 σ H1 s1/\s1.heap.get? a=none
def RV{X:Cx}{M:Model}{E₁ E₂:QQX}{W2:QQY}{σ:St}{J:Hp->Prop}{E:XK}{ev:Vl}{s':Sd}{outer:List Env}{L:Addr}(h:VZ X W2 σ J E ev s')(Xp:X.stack=X.env::outer)(hL:X.env.frame=some L):
  wpAny M X.A (noteFrame ev X.env) (λ_ s₂=>wpAny M X.A (setFlight ev none) (λ_ s₃=>Ua X W2 σ J E ev s₃) E₂ s₂) E₁ s':=by
 obtain⟨H,s,jH,I,e,C,dx,H',tb,rfl,q,os,bare,un,mZ,x,he,ht,ne,nt⟩:=h;obtain⟨hh,g,d,t,ZS⟩:=s';obtain rfl:ZS=s.os:=os;have I':=I.call (h':=hh) (g':=g) (d':=d) (t':=t) (ch:=[]) un mZ bare (λb z=>absurd z (by simp));have hF:=I'.stack;have XQ:=I'.nQ;have Y6:=I.ok.frames;rw[Xp]at hF Y6;refine IF (base:=X.base) (outer:=outer) Y6 hF hL x λh' T tn k1 k2 x'=>?_;have Xi:∀b o,H' b=some o->∀u,hh.get? b=some u->h'.get? b=some u:=λb o hb u hu=>k1 b u hu (λz=>by rw[XQ b (by rw[Xp];exact z)]at hb;cases hb) (λz=>by rw[z,ne]at hb;cases hb) (λz=>by cases z;rw[nt]at hb;cases hb);have un':Un (wg X.stack) [] H H' s.heap h':=by
  refine⟨λb o hb h0 nf nx=>?_,λb o hb h0 hf nx=>?_,un.free,λb o hb nx=>?_,un.nL,un.nH,un.nO⟩
  .exact k1 b o (un.keep b o hb h0 nf nx) (λz=>nf (by rw[Xp];exact z)) (λz=>by rw[z,he]at hb;cases hb) λz=>by cases z;rw[ht]at hb;cases hb
  .obtain⟨sl,hs⟩:=un.slot b o hb h0 hf nx;obtain⟨Yu,h2⟩:=k2 b _ hs (by rw[<-Xp];exact hf);exact⟨Yu,h2⟩
  .obtain⟨o',hs⟩:=un.there b o hb nx;by_cases z:b∈wg (X.env::outer)
   .obtain⟨sl,h2⟩:=k2 b o' hs z;exact⟨_,h2⟩
   .exact⟨o',k1 b o' hs z (λz=>by rw[z,he]at hb;cases hb) λz=>by cases z;rw[ht]at hb;cases hb⟩
 have ZX:yp X.prog X.w H' h':=λb o hb=>(mZ b o hb).nE (λb' u XY hu=>by
  rcases XY with z|z
  .subst z;exact Xi b' o hb u hu
  .exact Xi b' _ z u hu) (λ_ q=>q) λ_ _ q=>q
 have I3:Inv X W2 σ H' {heap:=h',gens:=g,drawn:=d,toks:=t,os:=s.os}:=Inv.call (s:=s) (ch:=[]) I un' ZX bare (λb z=>absurd z (by simp));refine⟨e,C,dx,H',T,H,s,rfl,q,I3,x',ne,?_,jH,⟨un.nL,un.nH⟩,I,he⟩;cases z:H' T with
 | none=>rfl
 | some o=>obtain⟨ob,hob⟩:=yl (mZ T o z);have tn:hh.get? T=none:=tn;rw[hob]at tn;cases tn
variable {X:Cx}{W2:List (Addr × Obj)}{σ σ':St}{H H1:Hp}{s s1:Sd}{ev:Vl}{E':QQX}{a:Addr}
def Inv.adopt{o:HO}(I:Inv X W2 σ H s)(I1:Inv X W2 σ' H1 s1)(n1:s1.heap.get? a=none)(hn:H a=none)(ok:se X.prog X.w (upd H a o) s.heap a o):Inv X W2 σ (upd H a o) s:=by
 have ne:∀b ob,s1.heap.get? b=some ob->b≠a:=λb ob e z=>by rw[z,n1]at e;cases e
 have nh:∀b ob,H b=some ob->b≠a:=λb ob e z=>by rw[z,hn]at e;cases e
 refine⟨I.ok,I.os,I.bare,⟨I.base.keep,I.base.slot,λb o' e h0 hb=>?_,I.base.there,λb xs e=>?_,λb o' u e=>?_,λb ps e=>?_⟩,I.loc,I.cell,?_,λx c e=>?_,λp hp=>?_,λb ob e=>?_,I.len⟩
 .obtain⟨o2,e2⟩:=I1.base.there b o' e hb;rw[qd (ne b o2 e2)];exact I.base.free b o' e h0 hb
 .have:=I.base.nL b xs e;rw[qd (nh b _ this)];exact this
 .have:=I.base.nH b o' u e;rw[qd (nh b _ this)];exact this
 .obtain⟨more,this⟩:=I.base.nO b ps e;exact⟨more,by rw[qd (nh b _ this)];exact this⟩
 .obtain⟨m,⟨o2,_,_,e2,_⟩,_⟩:=I1.loc;rw[qd (ne _ o2 e2)];exact I.free
 .obtain⟨v,o2,e2,_⟩:=I1.cell x c e;rw[qd (ne _ o2 e2)];exact I.nk x c e
 .obtain⟨e1,e2,e3,e4,e5⟩:=I.pin p hp;exact⟨e1,by rw[qd (ne _ _ (I1.pin p hp).1)];exact e2,e3,e4,e5⟩
 .by_cases z:b=a
  .subst z;rw[qp]at e;cases e;exact ok
  .rw[qd z]at e;exact(I.mZ b ob e).nE (λ_ _ _ q=>q) (λb' q=>by rw[qd (nh b' _ q)];exact q) λb' xs q=>by rw[qd (nh b' _ q)];exact q
def Inv.locs{h':Heap}{m':QQZ}(I:Inv X W2 σ H s)(hn:h'.Ns X.env.locals m')(hs:Heap.SameBut X.env.locals s.heap h')(hl:σ'.length=X.N.length) (hm:∀m,s.heap.Ns X.env.locals m->(∀(i:Nat) (x:Str) (v:V),X.N[i]?=some x->σ[i]?=some (some v)->R8 X.env.scope x->∃u,qN v u/\Ux X.env s.heap m x u)->∀(i:Nat) (x:Str) (v:V),X.N[i]?=some x->σ'[i]?=some (some v)->R8 X.env.scope x->∃u,qN v u/\((X.env.kindOf x=some .local/\m' x=some u)\/((X.env.kindOf x=some .cell\/X.env.kindOf x=some .free)/\∃c,X.env.cells.lookup x=some c/\s.heap.IsCell c (some u)))):Inv X W2 σ' H {s with heap:=h'}:=by
 obtain⟨m,hn0,hl0⟩:=id I.loc;obtain⟨oL,_,_,hoL,_⟩:=id hn0;have pq:=I.pq;refine⟨I.ok,I.os,I.bare,⟨λb o e n hb hx=>?_,λb o e n hb hx=>?_,I.base.free,λb o e hx=>?_,I.base.nL,I.base.nH,I.base.nO⟩,⟨_,hn,λj y v' e1 e2 e3=>?_⟩,λy c e=>?_,I.free,I.nk,λp hp=>?_,λb ob e=>?_,hl⟩
 .exact(hs.2 b (dG (dP (dA e) I.ok.above))).trans (I.base.keep b o e n hb hx)
 .obtain⟨sl,e1⟩:=I.base.slot b o e n hb hx;exact⟨sl,(hs.2 b (dG (dP (dA e) I.ok.above))).trans e1⟩
 .obtain⟨o',e1⟩:=I.base.there b o e hx;exact⟨o',(hs.2 b (dG (dP (dA e) I.ok.above))).trans e1⟩
 .obtain⟨u,r,q⟩:=hm m hn0 hl0 j y v' e1 e2 e3;refine⟨u,r,?_⟩;rcases q with q|⟨k,c,e,z⟩
  .exact .inl q
  .exact .inr ⟨k,c,e,z.sameBut hs (pq y c e)⟩
 .obtain⟨w',z⟩:=I.cell y c e;exact⟨w',z.sameBut hs (pq y c e)⟩
 .obtain⟨e,n,ne,nf,d⟩:=I.pin p hp;exact⟨(hs.2 p.1 ne).trans e,n,ne,nf,d⟩
 .refine(I.mZ b ob e).nE (λc w' hc q=>(hs.2 c ?_).trans q) (λ_ q=>q) λ_ _ q=>q
  rintro rfl
  rcases hc with hc|hc
  .rw[<-hc,I.free]at e;cases e
  .rw[I.free]at hc;cases hc
def yj{M:Model}{A:Ar}{E:QQX}{i:Nat}{n:Str}{pos:Pos}{Q:Unit->Sd->Prop}(I:Inv X W2 σ H s)(hN:X.N.Nodup)(hi:X.N[i]?=some n)(hk:X.env.scope.names.lookup n=some .local) (h:∀s',Inv X W2 (σ.set i none) H s'->Q () s'):wpAny M A (do
   bindName X.env n Value.none
   unbindBehindTheSuite X.env n pos) Q E s:=by
 have hiσ:i<σ.length:=by rw[I.len];exact(c9.mp hi).1
 refine cY (wpAny_bindName (xF (v:=.mW) I hN hi (.inl hk) rfl (λs1 I1=>?_) (.inr hk)));have ZO:(X.env.scope.kind==.class||(X.env.scope.kind==.module&&X.env.locals != X.env.globals))=false:=by rw[I.ok.kind];rfl
 obtain⟨m,hn,hl⟩:=id I1.loc;obtain⟨u,ru,lk⟩:=hl i n .mW hi (by rw[eO hiσ]) (.inl hk);have em:m n=some u:=by
  rcases lk with⟨_,e⟩|⟨k,_⟩
  .exact e
  .have ZY:X.env.kindOf n=some .local:=hk;rw[ZY]at k;rcases k with k|k<;>cases k
 unfold unbindBehindTheSuite;refine iM (wpAny_unbindName_local hk hn em ZO λh' u' YC hs=>h _ ?_);refine I1.locs YC hs (by simpa using I.len) λm2 Xk ZC j y v' e1 e2 e3=>?_;have hj:j≠i:=λz=>by subst z;rw[eO hiσ]at e2;cases e2
 rw[eU (dR hj)]at e2;obtain⟨u2,r2,q2⟩:=hl j y v' e1 (by rw[eU (dR hj)];exact e2) e3;refine⟨u2,r2,?_⟩;rcases q2 with⟨k,e⟩|q2
 .refine .inl ⟨k,?_⟩;have:y≠n:=λe=>hj (Cz hN e1 (e ▸ hi));simp[this,e]
 .exact .inr q2
def Cx.marked(X:Cx)(ev:Vl)(E:QQX):Cx:={X with A:=X.A.mark (some ev),calm:=false,xe:=E}
def Inv.mark(I:Inv X W2 σ H s):Inv (X.marked ev E') W2 σ H s:=
 ⟨⟨I.ok.mod,I.ok.kind,I.ok.glob,I.ok.blt,I.ok.above,I.ok.inj,I.ok.has,I.ok.oK,(λz=>by cases z),I.ok.frames,I.ok.oR,I.ok.pk,I.ok.bs,I.ok.oq,I.ok.nZ,I.ok.oj,I.ok.nM,I.ok.oB⟩,I.os,I.bare,I.base,I.loc,I.cell,I.free,I.nk,I.pin,I.mZ,I.len⟩
def Inv.unmark(ok:X.Ok)(I:Inv (X.marked ev E') W2 σ H s):Inv X W2 σ H s:=⟨ok,I.os,I.bare,I.base,I.loc,I.cell,I.free,I.nk,I.pin,I.mZ,I.len⟩
def SP.unmark(ok:X.Ok){D:Ez}{f:Flow}(h:SP (X.marked ev E') W2 D f s):SP X W2 D f s:=by
 cases f with
 | next=>obtain⟨a,b,I,q⟩:=h;exact⟨a,b,I.unmark ok,q⟩
 | brk=>obtain⟨a,b,I,q⟩:=h;exact⟨a,b,I.unmark ok,q⟩
 | cont=>obtain⟨a,b,I,q⟩:=h;exact⟨a,b,I.unmark ok,q⟩
 | ret v=>obtain⟨a,b,c,I,q⟩:=h;exact⟨a,b,c,I.unmark ok,q⟩
def B7{M:Model}{h:Heap}{a:Addr}{o:Obj}(ho:h.get? a=some o):W.Looks M h (typeOf (.ref a)) o.cls:=by intro A Q E s k q;unfold typeOf;exact cY (wpAny_load (k a o ho) (dq q))
def FX{M:Model}{A:Ar}{E:QQX}{a C T:Addr}{Q:Unit->Sd->Prop}{dx:Option Addr}(x:Qv s.heap a (.ref C) dx (some T))(h:∀h':Heap,(∀b,h'.get? b=s.heap.get? b)->Q () {s with heap:=h'}):wpAny M A (setFlight (.ref a) none) Q E s:=by
 obtain⟨oe,vs,ho,hc,_,hd,h1,hv,hT⟩:=x;obtain⟨nTe,oT,ts,Yh,YH,h3,hn⟩:=hT T rfl;unfold setFlight;refine cY (ft ho hd hv ?_);rw[dh (by rfl)];refine h9 Yh YH h3 (h _ λb=>?_);by_cases z:T=b
 .subst z;obtain⟨oc,od,odt,X1⟩:=oT;obtain rfl:odt=.fields ts:=YH;rw[fK _ Yh rfl,Yh];show some (Obj.mk oc od (.fields (ts.setIfInBounds 3 .none)) X1)=_;have:ts.setIfInBounds 3 .none=ts:=by
   apply Array.ext
   .simp
   .intro i h1 h2;rw[Array.getElem_setIfInBounds];split
    .rename_i e;subst e;rw[Array.getElem?_eq_getElem h3]at hn;exact(dw hn).symm
    .rfl
  rw[this]
 .exact gb _ _ z
def SR(X:Cx)(e:Expr)(t:St->Hp->VK->(Hp->Prop)->XK->Prop):Prop:=∀(W2:QQY) (s:Sd) (σ:St) (H:Hp) (Q:VK) (J:Hp->Prop) (E:XK),Inv X W2 σ H s->t σ H Q J E->wpAny (model X.prog X.w) X.A (eval e X.env) (EP X W2 σ Q) (VZ X W2 σ J E) s
def WI(X:Cx)(st:Stmt)(t:Ez->St->Hp->(Hp->Prop)->XK->Prop):Prop:=∀(W2:QQY) (s:Sd) (σ:St) (H:Hp) (D:Ez) (J:Hp->Prop) (E:XK),Inv X W2 σ H s->t D σ H J E->wpAny (model X.prog X.w) X.A (exec st X.env) (SP X W2 D) (VZ X W2 σ J E) s
def Ow{X:Cx}{i:Nat}{x:Str}{e:Expr}{te:St->Hp->VK->(Hp->Prop)->XK->Prop}{pos Xb:Pos}(hN:X.N.Nodup)(hi:X.N[i]?=some x)(hx:KR X.env.scope x)(he:SR X e te)(hs:swapsWith e (some (.Name x Xb)) pos.line X.env=pure false:=by rfl)(hf:KQ X x:=by first|exact .inl rfl|exact .inr rfl|assumption):
  WI X (.Assign [.Name x Xb] e pos) (λD σ H J E=>te σ H (λv H'=>D.nx (σ.set i (some v)) H') J E):=by
 intro W2 s σ H D J E I h;refine lB (sH (he W2 s σ H _ J E I h) λv s1 zz=>x5 zz λy H1 I1 r1 q1=>?_) hs;exact xF I1 hN hi hx r1 (λs2 I2=>⟨_,H1,I2,q1⟩) hf
variable {k:Nat}{f C:Addr}{fd:FuncData}{ps:QQQ}{sp:Sp}{XS:List V}{ds:List Vl}{m:Str}{p pos W6:Pos}{e o:Expr}{es:List Expr}{t:TA}
section
variable {x:Str}
def LC(F:xo X.prog X.w X.K X.mg X.base (B1 X.prog X.w) k f fd ps sp)(hr:sj k X.A)(hg:Gl X x)(hm:X.mg x=some (.ref f))(hk:W.keepIn X.K (.ref f)=true)(hb:uS X.K fd ps ds)(hd:qE XS ds) (ha:PA (X.om λ_ _=>False) (e::es) t) (Xn:yJ x:=by decide) (he:Bj X e es:=by rfl) (Xj:CS X pos es:=by rfl):
  SR X (.Call (.Name x p) (e::es) [] pos) (λσ H Q J E=>t σ H λvs H1=>J H1/\sp (vs++XS) H1 Q E):=by
 intro W2 s σ H Q J E I h;refine fS (w9 I hg hm ?_ Xn);refine iS (h₀:=X.base) I.ok.mod.oN hk (eB (ha pos W2 s σ H _ I.om h) (λus s1 ⟨vs,H1,I1,r,jH,q⟩=>⟨I1.ny,?_⟩) λ_ _ z=>z.elim) he Xj;have I1:=I1.xeOf;have r2:qE (vs++XS) (us++ds):=r.append hd;have hl:(us++ds).length=ps.length:=by rw[<-r2.length];exact F.len _ _ _ _ q
 refine ib (gm (F.run X.A X.stack s1 H1 ⟨us,[]⟩ (us++ds) (vs++XS) Q E hr I1.oz (hb s1 us I1.ny hl) r2 q) λr s' hq=>?_);cases r with
 | error e=>exact⟨H1,s1,jH,I1,hq⟩
 | ok fl=>
  cases fl with
  | ret u=>exact I1.after hq
  | next=>exact False.elim hq
  | brk=>exact False.elim hq
  | cont=>exact False.elim hq
end
structure K9(K:qw)(C:Addr):Prop where
 hd:(W.clsIn K C).isSome=true
 ga:W.findIn K (.ref C) "__getattribute__"=some (some (.builtin "BaseException.__getattribute__"))
 gt:W.findIn K (.ref C) "__getattr__"=some none
 ha:W.findIn K (.ref C) "__class__"=some (some (.builtin "object.__class__"))
 hn:W.specialIn K (.builtin "object.__class__") "__get__"=some (some (.builtin "getset_descriptor.__get__"))
 htk:W.takesIn K (.builtin "object.__class__")=some true
 hm:W.mroIn K C (.type "object")=some true
 hb:W.mroIn K C (.type "BaseException")=some true
def PD:builtinKind "BaseException.__getattribute__"=some Manifest.AttrKind.slot:=by decide+kernel
def L6:splitId "BaseException.__getattribute__"=some ("BaseException","__getattribute__"):=by decide+kernel
variable {prog:Pg}{w:Wo}{A:Ar}{E:QQX}{K:qw}{ox:Obj}
section
variable {x:Addr}
def Lk{ZG:Vl}{Q:Unit->Sd->Prop}{M:Model}(c:K9 K C)(X:K.In s.heap)(hx:s.heap.get? x=some ox)(hc:ox.cls=.ref C)(hq:Q () s):wpAny M A (checkBuiltinCall "BaseException.__getattribute__" {pos:=[Value.ref x,ZG]}) Q E s:=by
 unfold checkBuiltinCall;simp only[PD,L6];unfold isInstance;refine cY (cY ?_);refine(B7 hx).at ?_;rw[hc];refine(W.looks_mroIn X c.hb).at ?_;rw[df (by decide)];have ha:=F.args_bexc_ga (Value.ref x) ZG;unfold argsOk at ha;have:∀t:Sem Unit,t=pure ()->wpAny M A t Q E s:=λt z=>by rw[z];exact dq hq
 exact this _ ha
end
end L2
namespace L3
open L2
theorem _root_.L2.TKept.ext{K:qw}{H H':Hp}(h:TKept H H'):qS K H H':=⟨λa xs q=>by
 rcases q with(q|⟨u,q⟩)|q
 .exact .inl (.inl (h.1 a xs q))
 .exact .inl (.inr ⟨u,h.2 a u _ q⟩)
 .exact .inr q,λa o xs q=>h.2 a o _ q⟩
abbrev Tj:=vg->Mp->DK->XR->Prop
def WU(K:qw)(t:Tj):St->Hp->VK->(Hp->Prop)->XK->Prop:=λσ H Q' J E=>BU λδ M Q R=>yX K H σ δ/\HM K H M/\t δ M Q R/\(∀v H' d M',rV K H' d v->HM K H' M'->qS K H H'->Q d M'->Q' v H')/\(∀H1,qS K H H1->J H1)/\Uk K R E
def Wz(X:Cx)(e:Expr)(t:Tj):Prop:=SR X e (WU X.K t)
def SR.mono{X:Cx}{e:Expr}{t t':St->Hp->VK->(Hp->Prop)->XK->Prop}(h:SR X e t)(m:∀σ H Q J E,t' σ H Q J E->t σ H Q J E):SR X e t':=λW2 s σ H Q J E I q=>h W2 s σ H Q J E I (m σ H Q J E q)
variable {X:Cx}{x:Str}{p pos np Xa:Pos}{e:Expr}{es:List Expr}{t:xA}{k:Nat}{f C:Addr}{fd:FuncData}{ps:QQQ}{sp:GF}
def K'(F:RF X.prog X.w X.K X.mg X.base k f fd ps sp)(hr:sj k X.A)(hg:Gl X x)(hm:X.mg x=some (.ref f))(hk:W.keepIn X.K (.ref f)=true)(hb:uS X.K fd ps [])(ha:A3 (X.om λ_ _=>False) (e::es) t) (Xn:yJ x:=by decide) (he:Bj X e es:=by rfl) (Xj:CS X pos es:=by rfl):
  Wz X (.Call (.Name x p) (e::es) [] pos) (λδ M Q R=>t δ M λds M1=>sp ds M1 Q R):=SR.mono (LC F hr hg hm hk hb .nil ha Xn he Xj) λσ H Q' J E ⟨δ,M,Q,R,hs,hm,ht,k,kJ,kR⟩=>
 ⟨δ,M,_,hs,hm,ht,λvs H1 ds M1 hd W5 e1 q1=>⟨kJ H1 e1,ds,M1,Q,R,by rw[fh];exact hd,W5,q1,vL e1 k,kR⟩⟩
variable {b₀:Stmt}{Ys:List Stmt}{cn n:Str}{cnp Yy W6 xpos:Pos}{Cc L:Addr}{outer:List Env}{i ix:Nat}{te:Tj}{th:xq}
def yX.unset{K:qw}{H:Hp}{σ:St}{δ:vg}{i:Nat}(h:yX K H σ δ):yX K H (σ.set i none) (δ.set i none):=λj e q=>by
 by_cases hj:j=i
 .subst hj;by_cases hl:j<δ.length
  .rw[eO hl]at q;cases q
  .rw[gG (by simpa using hl)]at q;cases q
 .rw[eU (dR hj)]at q ⊢;exact h j e q
end L3
namespace L2
def BM(es:Array DictEntry):Bool:=es.toList.all λe=>match e.key with|.str _ _=>true|_=>false
def Cr{es:Array DictEntry}(h:BM es=true):StrKeys es:=λe he=>by
 have:=eG.mp h e (kz.mpr he);cases z:e.key with
 | str n t=>exact⟨n,t,rfl⟩
 | _=>rw[z]at this;cases this
abbrev MX:List Vl:=[.type "ValueError",.type "Exception",.type "BaseException",.type "object"]
def P6{K:qw}{t:Vl}{C:Addr}{cd:ClassData}{b:Bool}(q0:W.subIn K (.ref C) (.type "BaseException")=some true)(q1:W.clsIn K C=some cd)(q2:W.typeIn K (.ref C)=some (.type "type"))(s:W.subIn K t (.ref C)=some b):W.exmOne K t (.ref C)=some b:=by unfold W.exmOne;rw[q0,dh (by rfl)];unfold W.kitCls;simp only;rw[q1,q2,dh (by rfl)];exact s
end L2
namespace L3
open L2
end L3
namespace L2
theorem BF(self:Vl):∀own:QXQ,refuseLoop self "__setattr__" (own.map Value.ref++MX)=pure ()
 | []=>jU.passes self
 | c::r=>by show refuseLoop self "__setattr__" (.ref c::(r.map Value.ref++MX))=pure ();rw[refuseLoop_ref];exact BF self r
variable {prog:Pg}{w:Wo}{A:Ar}{s:Sd}{K:qw}{x C:Addr}{ox:Obj}{own:QXQ}{name:Str}{v:Vl}
section
variable {E:QQX}{cd:ClassData}
def Po{Q:Unit->Sd->Prop}(X:K.In s.heap)(I:W.InstAt s.heap x ox C none)(hs:W.findIn K (.ref C) "__setattr__"=some (some (.builtin "object.__setattr__")))(hc:W.clsIn K C=some cd)(hm:cd.mro=own.map Value.ref++MX)(ht:W.takerIn K C name=some none)(hd:cd.hasDict=true) (h:∀h' d t,(∀b o,b≠x->s.heap.get? b=some o->h'.get? b=some o)->h'.get? x=some {ox with dict:=some d}->s.heap.get? d=none->d≠x->h'.Ns1 d (λy=>if y=name then some v else none)->Q () {s with heap:=h',toks:=t}):wpAny (model prog w) A (setAttr (.ref x) name v) Q E s:=by
 refine W.set_plain X I hs ?_;have SF:=jU;have ne:cd.mro.isEmpty=false:=by rw[hm];cases own<;>rfl
 have has:cd.mro.contains (.type "object")=true:=by
  rw[hm,List.contains_eq_any_beq,mw];have:MX.any (Value.type "object"==·)=true:=by decide+kernel
  rw[this,lw]
 have sub:W.Looks (model prog w) s.heap (isInstance (.ref x) (.type "object")) true:=I.type.andThen (W.looks_mroIn X (by unfold W.mroIn;rw[hc,mf,df (by rw[ne];decide),has]));refine ie SF.slot.plain SF.entry (@PySem.W.check_slot (model prog w) _ _ {s with toks:=s.toks+1} "object.__setattr__" "object" "__setattr__" (.ref x) [.str name s.toks,v] [] _ SF.kind SF.split sub (SF.args (.ref x) (.str name s.toks) v) ?_);obtain⟨attr,ha,hr⟩:=Option.bind_eq_some_iff.mp ht;have Z2:W.Looks (model prog w) s.heap (mroOf (.ref C)) cd.mro:=(kF X hc).andThen .now;have L3':W.Looks (model prog w) s.heap (Builtin.ObjectAttr.storeTaker? attr) none:=by
  cases attr with
  | none=>exact .now
  | some a=>
   obtain⟨b,hb,hr⟩:=iK.mp hr;refine(W.looks_takesIn X hb).andThen ?_;cases b
   .exact .now
   .cases hr
 rw[W.osa_eq,refuse_eq];refine cY (cY (I.type.here (s:={s with toks:=s.toks+1}) (cY (Z2.here (s:={s with toks:=s.toks+1}) ?_))));rw[hm,BF];refine dq (cY (I.type.here (s:={s with toks:=s.toks+1}) (cY ((jk X ha).here (s:={s with toks:=s.toks+1}) (cY (L3'.here (s:={s with toks:=s.toks+1}) ?_))))));obtain⟨hx,ZD,hn,YV⟩:=I;obtain⟨oc,odi,oda,X1⟩:=ox;dsimp only at ZD YV;subst ZD;cases odi with
 | some _=>exact YV.elim
 | none=>
  refine cY (dq (cY (cY (wpAny_loadPart hx (cY (mD (s:={s with toks:=s.toks+1}) (kF X hc) ?_))))));rw[hd];rw[df (by decide)];obtain⟨hh,g,dr,tk,os⟩:=s;dsimp only at hx h ⊢;rw[df (by simp[typeHasDict])];split
  .cases hn
  .have y1:(hh.push W.emptyDict).get? x=some ⟨.ref C,none,oda,X1⟩:=dg _ hx;have nx:x≠hh.objs.size:=λz=>fj _ (z ▸ dA hx);refine cY (wpAny_alloc' (cY (wpAny_update' y1 (dq ?_))));have e0:((hh.push W.emptyDict).update x λo=>{o with dict:=some hh.objs.size}).Ns hh.objs.size (λ_=>none):=⟨W.emptyDict,#[],_,(jh _ _ _ _ nx.symm).trans (dI hh rfl),rfl,λe he=>absurd he (by simp),λ_=>rfl⟩;refine cY (dq (cY (wpAny_nsSet1 (lD e0) λh' n1 sb=>?_)));obtain⟨oD,esD,epD,g1,g2,g3⟩:=n1.count (Within.cons name v Within.nil);refine cY (lT g1 (g2 ▸ lU (d9 g3 (by rw[dN,dS];decide))) (dq (h h' hh.objs.size _ (λb o hb z=>?_) ?_ (gM (dz _)) nx.symm n1)))
   .exact(sb.2 b λy=>fj _ (y ▸ dA z)).trans ((jh _ _ _ _ hb).trans (dg _ z))
   .refine(sb.2 x nx).trans (fK _ y1 ?_);have fr:=(Heap.get?_some_iff.mp hx).2;cases oda with
    | _=>first|rfl|exact fr
end
variable {nm q:Str}{bs bm Yt:List Vl}{hdct:Bool}{sn:QQQ}{sub:List Vl}{ab:Bool}{col:Option Bool}{dd:Option Addr}{k0 k1 k2 k3 k5:Option Vl}{B Bn newId nid Xy zr:String}{bmN:List Vl}{h:Heap}{g:Array GenState}{d:Drawn}{t:Nat}{os:OsState}
section
variable {E:QQX}{N:Addr}
abbrev Oj(C t:Addr):Obj:={cls:=.ref C,data:=.fields #[.ref t,.none,.none,.none,.bool false,.none]}
def Bc(Fn:ExcBaseFacts Bn newId zr bmN)(hBn:Yt.contains (.type Bn)=true)(F:ExcBaseFacts B nid Xy Yt)(T:OwnTail h Yt bm){mN:QQZ}{us:List Vl}{fI:Addr}{oI:Obj}{Q:PySem.Fin->Sd->Prop} (hC:h.get? C=some (excClassObj nm q C N bs bm hdct sn sub ab col dd k0 k1 k2 k3 k5 newId)) (hn:h.Ns N mN) (hi:mN "__init__"=some (.ref fI)) (hf:h.get? fI=some oI) (hfc:oI.cls=.type "function") (W9:us.length<=sizeLine) (hq:∀h' e,Heap.MadeExcOf h h' e (.ref C) us->wpAny (model prog w) A (call (.ref fI) (.ref e::us)) (λr s'=>r=.none/\Q (.done (.ret (.ref e))) s') E ⟨h',g,d,t,os⟩):
  wpAny (model prog w) A (Builtin.«type.__call__» ⟨.ref C::us,[]⟩) Q E ⟨h,g,d,t,os⟩:=by
 repeat (first|with_reducible refine hU hC ?_|with_reducible refine wpAny_madeBy_exc hC ?_|wp_step)
 refine codeAny_call_builtin_code (iy _ Fn.quiet) (wpAny_check_new_subU Fn hBn T hC (codeAny_exc_new_subU Fn hBn F T hC ?_ W9));have kp:∀b o,h.get? b=some o->((h.push {cls:=.type "tuple",data:=.seq us.toArray}).push (Oj C h.objs.size)).get? b=some o:=λb o z=>dg _ (dg _ z);have gE:((h.push {cls:=.type "tuple",data:=.seq us.toArray}).push (Oj C h.objs.size)).get? (h.objs.size+1)=some (Oj C h.objs.size):=by heap_get
 have hC2:=kp _ _ hC;have ZQ:((h.push {cls:=.type "tuple",data:=.seq us.toArray}).push (Oj C h.objs.size)).Ns N mN:=let⟨o,es,ep,e,r⟩:=hn;⟨o,es,ep,kp _ _ e,r⟩;have cC:(Value.ref C::bm).contains (.ref C)=true:=by rw[iB,fE,hZ]
 have T2:=T.keeps kp;show wpAny _ _ _ _ _ _;unfold isInstance
 repeat (first|with_reducible refine hU gE ?_|(with_reducible refine kQ hC2 ?_;rw[cC])|wp_step)
 show wpAny _ _ (typeLookup (.ref C) _) _ _ _;refine wpAny_typeLookup_tail hC2 ZQ T2 F.mroIs F.init.lookup ?_;rw[hi];refine eE (cY ?_);unfold bindSpecial;refine cY (jP (T:="function") ⟨_,kp _ _ hf,hfc⟩ ?_);rw[dh (by decide)];refine dq (cY (eB (hq _ (h.objs.size+1) ⟨kp,gM (gB _),h.objs.size,gE,gM (dz _),dg _ (Heap.get?_push_at rfl rfl)⟩) (λr s' hr=>?_) λ_ _ z=>z));obtain⟨rfl,hQ⟩:=hr
 wp_walk
 exact hQ
def Ht(Fn:ExcBaseFacts Bn newId zr bmN)(hBn:Yt.contains (.type Bn)=true)(F:ExcBaseFacts B nid Xy Yt)(T:OwnTail h Yt bm){mN:QQZ}{us:List Vl}{fI:Addr}{oI:Obj}{Q:QQX} (hC:h.get? C=some (excClassObj nm q C N bs bm hdct sn sub ab col dd k0 k1 k2 k3 k5 newId)) (hn:h.Ns N mN) (hi:mN "__init__"=some (.ref fI)) (hf:h.get? fI=some oI) (hfc:oI.cls=.type "function") (W9:us.length<=sizeLine) (hq:∀h' e,Heap.MadeExcOf h h' e (.ref C) us->wpAny (model prog w) (A.under (.builtin "type.__call__" ⟨.ref C::us,[]⟩)) (call (.ref fI) (.ref e::us)) (λr s'=>r=.none/\Q (.ref e) s') E ⟨h',g,d,t,os⟩):
  wpAny (model prog w) A (call (.ref C) us) Q E ⟨h,g,d,t,os⟩:=by
 have f1:=tc_lookup;have f2:=tc_bind (.ref C);have hT:(⟨h,g,d,t,os⟩:Sd).TypeIs (.ref C) "type":=⟨_,hC,rfl⟩;refine ib (j6 ?_);show wpAny _ _ (callAny (.ref C) _) _ _ _
 repeat (any_goals(first|assumption|with_reducible refine hU hC ?_|wp_step))
 exact⟨rfl,codeAny_call_builtin_at (iy _ (by decide+kernel)) entry_typeCall (wpAny_check_type_call_sub hC (Bc Fn hBn F T hC hn hi hf hfc W9 hq))⟩
end
variable {M:Model}{env:Env}
section
variable {E:QQX}{N:Addr}
def IX(h:Heap)(e C:Addr)(dx:Option Addr):Prop:=AC λt sl=>h.get? e=some ⟨.ref C,dx,.fields #[.ref t,.none,.none,.none,.bool false,.none],sl⟩
def G4{x:Sem Vl}{Q:Flow->Sd->Prop}(Xh:bm.contains (.type "BaseException")=true)(hh:A.handled=none) (h:wpAny M A x (λv s₁=>∃e dx,v=.ref e/\s₁.heap.get? C=some (excClassObj nm q C N bs bm hdct sn sub ab col dd k0 k1 k2 k3 k5 newId)/\IX s₁.heap e C dx/\E (.ref e) s₁) E s):
  wpAny M A (raiseStmt env (some x) none) Q E s:=by
 have cB:(Value.ref C::bm).contains (.type "BaseException")=true:=by rw[iB,Xh,lw]
 unfold raiseStmt;refine cY (eB h (λv s₁ ⟨e,dx,ev,hC,⟨t,sl,he⟩,hE⟩=>?_) λ_ _ z=>z);subst ev;obtain⟨hp,g,d,tk,os⟩:=s₁
 repeat (first|with_reducible refine hU he ?_|with_reducible refine hU hC ?_|(with_reducible refine kQ hC ?_;rw[cB])|wp_step)
 exact wpAny_raiseNew_none hh hE
def F9(Fn:ExcBaseFacts Bn newId zr bmN)(hBn:Yt.contains (.type Bn)=true)(F:ExcBaseFacts B nid Xy Yt){mN:QQZ}{fI:Addr}{x:Str}{np Xa pos:Pos}{args:List Expr}{Q:Flow->Sd->Prop} (Xh:bm.contains (.type "BaseException")=true) (hh:A.handled=none) (Xl:(backTo Xa (starEach args env)).any (·.1)=false) (hi:mN "__init__"=some (.ref fI)) (h:wpAny (model prog w) A (eval (.Name x np) env) (λf s₁=>f=.ref C/\wpAny (model prog w) A (evalArgs (.ref C) true (backTo Xa (starEach args env)) []) (λa s₂=>a.kw=[]/\a.pos.length<=sizeLine/\s₂.heap.get? C=some (excClassObj nm q C N bs bm hdct sn sub ab col dd k0 k1 k2 k3 k5 newId)/\s₂.heap.Ns N mN/\OwnTail s₂.heap Yt bm/\(∃oI,s₂.heap.get? fI=some oI/\oI.cls=.type "function")/\
    ∀h' e,Heap.MadeExcOf s₂.heap h' e (.ref C) a.pos->wpAny (model prog w) (A.under (.builtin "type.__call__" ⟨.ref C::a.pos,[]⟩)) (call (.ref fI) (.ref e::a.pos))
     (λr s'=>r=.none/\∃dx,s'.heap.get? C=some (excClassObj nm q C N bs bm hdct sn sub ab col dd k0 k1 k2 k3 k5 newId)/\IX s'.heap e C dx/\E (.ref e) s') E {s₂ with heap:=h'}) E s₁) E s):
  wpAny (model prog w) A (exec (.Raise (some (.Call (.Name x np) args [] Xa)) none pos) env) Q E s:=by
 rw[arm_exec_Raise];refine cY (gT (G4 (C:=C) (nm:=nm) (q:=q) (N:=N) (bs:=bs) (bm:=bm) (hdct:=hdct) (sn:=sn) (sub:=sub) (ab:=ab) (col:=col) (dd:=dd) (k0:=k0) (k1:=k1) (k2:=k2) (k3:=k3) (k5:=k5) (newId:=newId) Xh hh ?_));refine cY (eB (wpAny_Call_ofName (eB h (λf s₁ ⟨ef,h₁⟩=>?_) λ_ _ z=>z)) (λv s₃ h₃=>cY (gT (dq h₃))) λ_ _ z=>z);subst ef;unfold callWith;refine cY (eE (eB h₁ (λa s₂ h₂=>cY (gT ?_)) λ_ _ z=>z));obtain⟨W6,akw⟩:=a;obtain⟨hkw,W9,hC,hn,T,⟨oI,hf,hfc⟩,h₂⟩:=h₂;obtain rfl:akw=[]:=hkw;obtain⟨hp,g,d,tk,os⟩:=s₂;simp only[Xl];refine cY (wpAny_keeperOf_exc hC (cY (Ht Fn hBn F T hC hn hi hf hfc W9 λh' e hm=>eB (h₂ h' e hm) (λr s' ⟨z,dx,c1,c2,c3⟩=>⟨z,cY (eE (wpAny_point (dq ⟨e,dx,rfl,c1,c2,c3⟩)))⟩) λ_ _ z=>z)))
end
def x0(a C:Addr)(h:Heap):Prop:=IX h a C none
def x1(a C d:Addr)(h:Heap):Prop:=IX h a C (some d)
structure yC(K:qw)(C:Addr)(f:Str):Prop where
 sa:W.findIn K (.ref C) "__setattr__"=some (some (.builtin "object.__setattr__"))
 cd:∃cd own,W.clsIn K C=some cd/\cd.mro=List.map Value.ref own++MX/\cd.hasDict=true
 tk:W.takerIn K C f=some none
variable {X:Cx}{W2:List (Addr × Obj)}{σ σ':St}{H H1:Hp}{s1:Sd}{a:Addr}
section
variable {f:Str}
def GV{A:Ar}{E:QQX}{y:V}{u:Vl}{Q:Unit->Sd->Prop}(I:Inv X W2 σ H s)(e:H a=some (.ext (x0 a C)))(ry:qN y u)(st:yC X.K C f)(h:∀d s',H d=none->d≠a->Inv X W2 σ (upd (upd H a (.ext (x1 a C d))) d (.ext (NV d f y))) s'->Q () s'):wpAny (model X.prog X.w) A (setAttr (.ref a) f u) Q E s:=by obtain⟨⟨t,sl,ho⟩,_,_⟩:=I.mZ a _ e;obtain⟨cd,own,c1,c2,c3⟩:=st.cd;refine Po I.ny ⟨ho,rfl,rfl,trivial⟩ st.sa c1 c2 st.tk c3 λh' d tk k1 k2 dn da n1=>h d _ (ze I.mZ dn) da ?_;have I2:=I.write (t':=tk) (x:=a) (e:=a) (o:=.ext (x1 a C d)) (by rw[e];exact True.intro) (.inl rfl) k1 ⟨_,k2⟩ ⟨⟨t,sl,k2⟩,⟨_,k2⟩,λh1 h2 ⟨t',Yu,z⟩ kk=>⟨t',Yu,kk _ z⟩⟩;refine I2.adopt I dn (by rw[qd da];exact ze I.mZ dn) ⟨⟨u,n1,ry⟩,?_,λh1 h2 ⟨u,n,r⟩ kk=>⟨u,n.at kk,r⟩⟩;obtain⟨o,_,_,z,_⟩:=n1;exact⟨o,z⟩
def Inv.drop{φ:Heap->Prop}(I:Inv X W2 σ H s)(ea:H a=some (.ext φ)):Inv X W2 σ (λb=>if b=a then none else H b) s:=by
 have less:∀b,H b=none->(if b=a then none else H b)=none:=λb e=>by split<;>first|rfl|exact e
 have keep:∀b o,H b=some o->(∀φ,o≠.ext φ)->(if b=a then none else H b)=some o:=λb o e n=>by
  rw[df]
  .exact e
  .intro z;rw[z,ea]at e;exact n φ (dw e).symm
 refine⟨I.ok,I.os,I.bare,⟨I.base.keep,I.base.slot,λb o e h0 hb=>less b (I.base.free b o e h0 hb),I.base.there,λb xs e=>keep b _ (I.base.nL b xs e) (λ_ z=>nomatch z),λb o u e=>keep b _ (I.base.nH b o u e) (λ_ z=>nomatch z),λb ps e=>?_⟩,I.loc,I.cell,less _ I.free,λx c e=>less _ (I.nk x c e),λp hp=>⟨(I.pin p hp).1,less _ (I.pin p hp).2.1,(I.pin p hp).2.2⟩,λb ob e=>?_,I.len⟩
 .obtain⟨more,z⟩:=I.base.nO b ps e;exact⟨more,keep b _ z (λ_ z=>nomatch z)⟩
 .have e':H b=some ob:=by
   by_cases z:b=a
   .rw[dh z]at e;cases e
   .rw[df z]at e;exact e
  exact(I.mZ b ob e').nE (λ_ _ _ q=>q) (λb' q=>keep b' _ q (λ_ z=>nomatch z)) λb' xs q=>keep b' _ q (λ_ z=>nomatch z)
end
def My(K:qw)(ta tv:TE)(f:Str):TS:=λD σ H=>tv σ H λy H1=>ta σ H1 λx H2=>∃a C,x=.ref a/\H2 a=some (.ext (x0 a C))/\yC K C f/\∀d,H2 d=none->d≠a->D.nx σ (upd (upd H2 a (.ext (x1 a C d))) d (.ext (NV d f y)))
def OX{X:Cx}{o value:Expr}{f:Str}{pos Xb:Pos}{ta tv:TE}(ha:PE X o ta)(hv:PE X value tv)(hs:swapsWith value (some (.Attribute o f Xb)) pos.line X.env=pure false:=by rfl):PS X (.Assign [.Attribute o f Xb] value pos) (My X.K ta tv f):=by intro W2 s σ H D I h;refine iR (sH (hv W2 s σ H _ I h) λu s1 zz=>x5 zz λy H1 I1 ry q=>sH (ha W2 s1 σ H1 _ I1 q) λov s2 zz=>?_) hs;obtain⟨x,H2,I2,rx,a,C,ex,ea,st,q2⟩:=zz;subst ex;obtain rfl:ov=Value.ref a:=rx;exact GV I2 ea ry st λd s3 dn da I3=>⟨σ,_,I3,q2 d dn da⟩
def wq(K:qw)(f:Str):Sp:=λvs H Q _=>CT λe C y=>vs=[.ref e,y]/\H e=some (.ext (x0 e C))/\yC K C f/\∀d,H d=none->d≠e->Q .mW (upd (upd H e (.ext (x1 e C d))) d (.ext (NV d f y)))
variable {qual:Str}{scope:Scope}{outer:List Env}{s0:Sd}{H0:Hp}{P:Pg}{mg:QQZ}{base:Heap}
section
def LR{x qual y1 y2 fl:Str}{st:Stmt}{f:Addr}{fd:FuncData}(F:O8 K x qual st f fd)(S:sZ [y1,y2] [y1,y2] (ql st)) (hb:∀(Xc:Vl) (A:Ar) (outer:List Env) (s:Sd) (H:Hp) (E:XK),Cn (vB (B1 P w) P w K mg base [y1,y2] qual (ql st) f Xc A outer s H E) (rY st) (My K (EM 0) (EM 1) fl)):xo P w K mg base (B1 P w) 1 f fd [y1,y2] (wq K fl):=by
 obtain⟨oc,od,kV,XG,pm,an,Xc,ct,X1,rfl,lk,X6⟩:=F.ex;refine LS lk X6 S (λvs H Q E h=>?_) λA outer s H vs Q' E hr h=>⟨_,hb Xc A outer s H E,?_⟩
 .obtain⟨e,C,y,rfl,_⟩:=h;rfl
 .obtain⟨e,C,y,rfl,h1,h2,q⟩:=h;exact⟨y,rfl,.ref e,rfl,e,C,rfl,h1,h2,q⟩
def IM(K:qw)(C fI:Addr):Prop:=
 ∃nm q N bs bm Yt hdct sn sub ab col dd k0 k1 k2 k3 k5,∃B Bn newId nid Xy zr:String,∃bmN,∃mN:QQZ,ExcBaseFacts Bn newId zr bmN/\Yt.contains (Value.type Bn)=true/\ExcBaseFacts B nid Xy Yt/\bm.contains (Value.type "BaseException")=true/\mN "__init__"=some (.ref fI)/\
  ∀h:Heap,K.In h->h.get? C=some (excClassObj nm q C N bs bm hdct sn sub ab col dd k0 k1 k2 k3 k5 newId)/\h.Ns N mN/\OwnTail h Yt bm/\∃oI,h.get? fI=some oI/\oI.cls=.type "function"
variable {N:QQQ}{f:Addr}{cd:Vl}{E:XK}
def KF{X:Cx}(hX:X=vB (B1 P w) P w K mg base N qual scope f cd A outer s0 H0 E){C fI:Addr}{fdI:FuncData}{ps:QQQ}{fl:Str}{k:Nat}{x:Str}{np Xa pos:Pos}{e:Expr}{ta:TA}(hC:IM X.K C fI)(F:xo X.prog X.w X.K X.mg X.base (B1 X.prog X.w) k fI fdI ps (wq X.K fl))(hr:sj (k+1) X.A)(hb:uS X.K fdI ps [])(st:yC X.K C fl) (hg:Gl X x) (hm:X.mg x=some (.ref C)) (ha:PA X [e] ta) (hs:starEach [e] X.env=[(false,eval e X.env)]:=by rfl) (Xn:yJ x:=by decide):
  PS X (.Raise (some (.Call (.Name x np) [e] [] Xa)) none pos) (λ_ σ H=>ta σ H λvs H1=>∃y,vs=[y]/\∀d,H1 d=none->E (.ref C) (some d) (upd H1 d (.ext (NV d fl y)))):=by
 intro W2 s σ H D I h;obtain⟨nm,q,N',bs,bm,Yt,hdct,sn,sub,ab,col,dd,k0,k1,k2,k3,k5,B,Bn,newId,nid,Xy,zr,bmN,mN,f1,f2,f3,f4,f5,Y1⟩:=hC;have hcalm:X.A.handled=none:=I.ok.hd (by rw[hX];rfl);refine F9 (nm:=nm) (q:=q) (N:=N') (bs:=bs) (hdct:=hdct) (sn:=sn) (sub:=sub) (ab:=ab) (col:=col) (dd:=dd) (k0:=k0) (k1:=k1) (k2:=k2) (k3:=k3) (k5:=k5) f1 f2 f3 f4 hcalm (by rw[hs];rfl) f5 (w9 I hg hm ⟨rfl,?_⟩ Xn);rw[hs];refine evalArgs_kwB rfl ?_;have YE:=ha Xa W2 s σ H _ I h;rw[hs]at YE;refine sH YE λus s1 zz=>?_;obtain⟨vs,H1,I1,r1,y,ey,q1⟩:=zz;subst ey;obtain⟨u,rfl,ru⟩:=yu r1;refine wpAny_evalAll_nil ?_;obtain⟨c1,c2,c3,c4⟩:=Y1 s1.heap I1.ny;refine⟨rfl,by show 1<=sizeLine;rw[dN];decide,c1,c2,c3,c4,λh' e' md=>?_⟩;obtain⟨mk,mn,t,mt,_⟩:=md;have hn:H1 e'=none:=ze I1.mZ mn;have I2:Inv X W2 σ H1 {s1 with heap:=h'}:=I1.kept (t':=s1.toks) mk;have I3:Inv X W2 σ (upd H1 e' (.ext (x0 e' C))) {s1 with heap:=h'}:=I2.adopt I1 mn hn ⟨⟨t,_,mt⟩,⟨_,mt⟩,λh1 h2 ⟨t',Yu,z⟩ kk=>⟨t',Yu,kk _ z⟩⟩;have r2:qE [V.ref e',y] [Value.ref e',u]:=.cons rfl (.cons ru .nil);have Yv:wq X.K fl [V.ref e',y] (upd H1 e' (.ext (x0 e' C))) (λv H2=>v=.mW/\∃d,d≠e'/\H1 d=none/\H2=upd (upd H1 e' (.ext (x1 e' C d))) d (.ext (NV d fl y))) (λ_ _ _=>False):=⟨e',C,y,rfl,qp,st,λd dn da=>⟨rfl,d,da,by rw[qd da]at dn;exact dn,by rw[Qf]⟩⟩;have hl:([Value.ref e',u]:List Vl).length=ps.length:=by rw[<-r2.length];exact F.len _ _ _ _ Yv
 refine ib (gm (F.run _ X.stack _ _ ⟨[Value.ref e',u],[]⟩ [Value.ref e',u] _ _ _ (hr.make C [u] []) (I3.oz.make C [u] []) (hb _ [Value.ref e',u] I3.ny hl) r2 Yv) λr s' YJ=>?_);cases r with
 | error ev=>obtain⟨_,_,_,_,_,_,z,_⟩:=YJ;exact z.elim
 | ok fw=>
  cases fw with
  | ret uv=>
   obtain⟨v,H',I4,rv,ev,d,da,dn,eH⟩:=I3.after YJ;subst ev eH;obtain⟨⟨t',Yu,md⟩,_,_⟩:=I4.mZ e' _ (by rw[qd (dR da)];exact qp);have I5:Inv X W2 σ (upd H1 d (.ext (NV d fl y))) _:=(funext λb=>by
    by_cases z:b=e'
    .subst z;rw[dh rfl,qd (dR da),hn]
    .rw[df z];by_cases z2:b=d
     .subst z2;rw[qp,qp]
     .rw[qd z2,qd z2,qd z]:(λb=>if b=e' then none else upd (upd H1 e' (.ext (x1 e' C d))) d (.ext (NV d fl y)) b)=upd H1 d (.ext (NV d fl y))) ▸ I4.drop (a:=e') (φ:=x1 e' C d) (by rw[qd (dR da)];exact qp)
   refine⟨rv,some d,(Y1 s'.heap I4.ny).1,⟨t',Yu,md⟩,?_⟩;subst hX;have Xw:Un (wg outer) [] H0 H1 s0.heap s1.heap:=I1.base;exact Uj I5 (tb:=none) ⟨_,_,md,rfl,rfl,rfl,(by show 1<6;decide),rfl,λT z=>by cases z⟩ (GX Xw rfl mn) (λT z=>by cases z) (by rw[qd (dR da)];exact hn) (q1 d dn)
  | next=>exact False.elim YJ
  | brk=>exact False.elim YJ
  | cont=>exact False.elim YJ
end
end L2
namespace L3
open L2
variable {P:Pg}{w:Wo}{K:qw}{mg:QQZ}{base:Heap}{N:QQQ}{qual:Str}{scope:Scope}{f:Addr}{cd:Vl}{A:Ar}{outer:List Env}{s0:Sd}{H0:Hp}{E:XK}{x:Str}{np Xa pos:Pos}{e:Expr}{C fI:Addr}{fdI:FuncData}{ps:QQQ}{fl:Str}{k:Nat}{R:XR}{ta:xA}
def Qq(C:Addr)(R:XR)(f:Str)(ta:xA):xq:=λ_ δ M=>ta δ M λds M1=>∃z,ds=[z]/\R C (some (f,z)) M1
def J2(hC:IM K C fI)(F:xo P w K mg base (B1 P w) k fI fdI ps (wq K fl))(hr:sj (k+1) (vB (B1 P w) P w K mg base N qual scope f cd A outer s0 H0 E).A)(hb:uS K fdI ps [])(st:yC K C fl)(_:W.findIn K (.ref C) "__init__"=some (some (.ref fI)))(hg:Gl (vB (B1 P w) P w K mg base N qual scope f cd A outer s0 H0 E) x)(hm:mg x=some (.ref C))(hR:Uk K R E)(ha:A3 (vB (B1 P w) P w K mg base N qual scope f cd A outer s0 H0 E) [e] ta) (hs:starEach [e] (vB (B1 P w) P w K mg base N qual scope f cd A outer s0 H0 E).env=[(false,eval e (vB (B1 P w) P w K mg base N qual scope f cd A outer s0 H0 E).env)]:=by rfl) (Xn:yJ x:=by decide):
  S3 (vB (B1 P w) P w K mg base N qual scope f cd A outer s0 H0 E) (.Raise (some (.Call (.Name x np) [e] [] Xa)) none pos) (Qq C R fl ta):=
 PS.mono (KF rfl hC F hr hb st hg hm ha hs Xn) λD' σ H ⟨δ,M,D,hs,hm,ht,_⟩=>⟨δ,M,_,hs,hm,ht,λvs H1 ds M1 hd W5 e1 q1=>by
  obtain⟨z,rfl,r⟩:=q1;obtain⟨v,rfl,hv⟩:=sE hd;exact⟨v,rfl,λd dn=>hR C (some d) _ M1 _ (W5.add dn) (.inr ⟨d,fl,z,v,rfl,rfl,qp,hv.mono (.new dn)⟩) r⟩⟩
variable {X:Cx}{b₀:Stmt}{Ys:List Stmt}{cn:Str}{cnp Yy epos:Pos}{Cc L:Addr}{te:Tj}{th:xq}
end L3
namespace L2
def Nm{K:qw}{C C2 N fI:Addr}{nm q:Str}{bs sub:List Vl}{hdct ab:Bool}{sn:QQQ}{col:Option Bool}{dd od1 od2 dd2:Option Addr}{k0 k1 k2 k3 k5:Option Vl}{oc1 oc2 c0:Vl}{es1 es2:Array DictEntry}{ep1 ep2:Nat}{sl1 sl2 VD:Array (Option Vl)}{cd2:ClassData}{oI:Obj} (l1:K.lookup C=some (excClassObj nm q C N bs (.ref C2::MX) hdct sn sub ab col dd k0 k1 k2 k3 k5 "ValueError.__new__")) (n1:K.lookup N=some ⟨oc1,od1,.dict es1 ep1,sl1⟩) (s1:BM es1=true) (i1:nsFind es1 "__init__"=some (.ref fI)) (l2:K.lookup C2=some ⟨c0,dd2,.cls cd2,VD⟩) (n2:K.lookup cd2.ns=some ⟨oc2,od2,.dict es2 ep2,sl2⟩) (s2:BM es2=true) (i2:nsFind es2 "__init__"=none) (l3:K.lookup fI=some oI) (hf:W.isFn K (.ref fI)=true):IM K C fI:=by
 have hc:oI.cls=.type "function":=by have hf:=fk.mp hf;unfold W.typeIn at hf;simp only at hf;rw[l3]at hf;exact dw hf
 refine⟨nm,q,N,bs,.ref C2::MX,MX,hdct,sn,sub,ab,col,dd,k0,k1,k2,k3,k5,"ValueError","ValueError","ValueError.__new__","ValueError.__new__","ValueError.__init__","ValueError.__init__",MX,λn=>nsFind es1 n,kD,by decide+kernel,kD,?_,i1,λh X=>⟨X C _ l1,⟨_,es1,ep1,X N _ n1,rfl,Cr s1,λ_=>rfl⟩,.own (X C2 _ l2) ⟨_,es2,ep2,X _ _ n2,rfl,Cr s2,λ_=>rfl⟩ i2 .base,oI,X fI _ l3,hc⟩⟩;rw[iB];have:MX.contains (.type "BaseException")=true:=by decide+kernel
 rw[this,lw]
def KP{K:qw}{C C2 N:Addr}{nm q f:Str}{bs sub:List Vl}{ab:Bool}{sn:QQQ}{col:Option Bool}{dd:Option Addr}{k0 k1 k2 k3 k5:Option Vl}(l1:K.lookup C=some (excClassObj nm q C N bs (.ref C2::MX) true sn sub ab col dd k0 k1 k2 k3 k5 "ValueError.__new__"))(sa:W.findIn K (.ref C) "__setattr__"=some (some (.builtin "object.__setattr__")))(tk:W.findIn K (.ref C) f=some none):yC K C f:=by refine⟨sa,⟨_,[C,C2],by unfold W.clsIn;rw[l1],rfl,rfl⟩,?_⟩;unfold W.takerIn;rw[tk];rfl
end L2
namespace L3
open L2
variable {X:Cx}{pos W6:Pos}{o e:Expr}{es:List Expr}{ta:T3}{t:xA}
structure FA where
 f:Addr
 d:FuncData
 p:QQQ
structure DG(K:qw)(st:Stmt)(py qual:Str)(ps:QQQ)(x:FA):Prop where
 pe:x.p=ps
 fn:O8 K py qual st x.f x.d
 b:uS K x.d x.p []
 ty:W.isFn K (.ref x.f)=true
structure TG(K:qw)(mg:QQZ)(st:Stmt)(py:Str)(ps:QQQ)(x:FA):Prop extends DG K st py py ps x where
 mg:mg py=some (.ref x.f)
structure MG(K:qw)(C:Addr)(st:Stmt)(py qual:Str)(ps:QQQ)(x:FA):Prop extends DG K st py qual ps x where
 at_:W.findIn K (.ref C) py=some (some (.ref x.f))
structure CG(K:qw)(mg:QQZ)(nm:Str)(C:Addr):Prop extends Cls K C where
 mg:mg nm=some (.ref C)
def DG.kp{K:qw}{st:Stmt}{py qual:Str}{ps:QQQ}{x:FA}(h:DG K st py qual ps x):W.keepIn K (.ref x.f)=true:=h.fn.kp
def MG.nF{K:qw}{C:Addr}{st:Stmt}{py qual:Str}{ps:QQQ}{x:FA}(h:MG K C st py qual ps x):vE K C py x.f:=⟨h.at_,h.ty,h.toDG.kp⟩
def zk(K:qw)(C:Addr)(fs:QQQ):Prop:=∀f,fs.contains f=true->uj K C f
def tG{K:qw}{C:Addr}:zk K C []:=λf h=>by simp at h
def pW{K:qw}{C:Addr}{g:Str}{fs:QQQ}(h:W.findIn K (.ref C) g=some none)(r:zk K C fs):zk K C (g::fs):=λf q=>by
 rw[iB,gY]at q;rcases q with q|q
 .rw[eq_of_beq q];exact h
 .exact r f q
abbrev Fq(P:Pg)(w:Wo)(K:qw)(mg:QQZ)(base:Heap)(k:Nat)(x:FA)(sp:rC):Prop:=Ti P w K mg base k x.f x.d x.p sp
abbrev Wu(P:Pg)(w:Wo)(K:qw)(mg:QQZ)(base:Heap)(k:Nat)(x:FA)(sp:GF):Prop:=RF P w K mg base k x.f x.d x.p sp
def R5(N P:QQQ)(sc:Scope):Bool:=sc.kind==.function&&(!sc.isCoroutine&&(!sc.isGenerator&&(decide N.Nodup&&(decide (N.take P.length=P)&&((P.all λx=>sc.names.lookup x==some .local||sc.names.lookup x==some .cell)&&sc.names.all λy=>!(y.2==.free))))))
def WS{N P:QQQ}{sc:Scope}(h:R5 N P sc=true):sZ N P sc:=by
 unfold R5 at h;simp only[dX,gL,fk,eC]at h;obtain⟨h1,h2,h3,h4,h5,h6,h7⟩:=h;refine⟨h1,h2,h3,h4,h5,λx hx=>?_,λy hy e=>?_⟩
 .have:=eG.mp h6 x hx
  simpa using this
 .have:=eG.mp h7 y hy;rw[e]at this;simp at this
variable {P:Pg}{w:Wo}{K:qw}{mg:QQZ}{base:Heap}
def V8{x qual:Str}{st:Stmt}{fa:FA}{N ps:QQQ}{k:Nat}{sp:rC}(F:DG K st x qual ps fa)(S:sZ N ps (ql st))(len:∀ds M Q,sp ds M Q->ds.length=ps.length) (Xq:∀(Xc:Vl) (A:Ar) (outer:List Env) (s:Sd) (H:Hp) (E:XK),sj k (A.deeper (envOfC qual (ql st) s.heap.objs.size fa.f Xc))->
   ∃t,Hn (vB NR P w K mg base N qual (ql st) fa.f Xc A outer s H E).oQ (rY st) t/\∀ds M Q,sp ds M Q->t {nx:=λ_ M'=>∃W8,qz W8 M'/\Q .mW W8,rt:=λd M'=>∃W8,qz W8 M'/\Q d W8} (xi N ds) M):Fq P w K mg base (k+1) fa sp:=by
 unfold Fq;rw[F.pe];exact UV F.fn S len Xq
def Tt{x qual:Str}{st:Stmt}{fa:FA}{N ps:QQQ}{k:Nat}{sp:GF}(F:DG K st x qual ps fa)(S:sZ N ps (ql st))(len:∀ds M Q R,sp ds M Q R->ds.length=ps.length) (Xq:∀(Xc:Vl) (A:Ar) (outer:List Env) (s:Sd) (H:Hp) (E:XK) (R:XR),sj k (A.deeper (envOfC qual (ql st) s.heap.objs.size fa.f Xc))->Uk K R E->
   ∃t,Hn (vB (B1 P w) P w K mg base N qual (ql st) fa.f Xc A outer s H E) (rY st) t/\∀ds M Q,sp ds M Q R->t {nx:=λ_ M'=>∃W8,qz W8 M'/\Q .mW W8,rt:=λd M'=>∃W8,qz W8 M'/\Q d W8} (xi N ds) M):Wu P w K mg base (k+1) fa sp:=by
 unfold Wu;rw[F.pe];exact TN F.fn S len Xq
variable {k n:Nat}{f C:Addr}{fa:FA}{st:Stmt}{qual:Str}{ps:QQQ}{sp:rC}{x m:Str}{p:Pos}
def pO(F:Fq X.prog X.w X.K X.mg X.base k fa sp)(hr:sj n X.A)(T:TG X.K X.mg st x ps fa)(ha:A3 X (e::es) t)(hn:k<=n:=by first|decide|omega)(hg:Gl X x:=by rfl)
  (Xn:yJ x:=by decide) (he:Bj X e es:=by rfl) (Xj:CS X pos es:=by rfl):
  E3 X (.Call (.Name x p) (e::es) [] pos) (Ea sp t):=PL F (hr.mono hn) hg T.mg T.toDG.kp T.b ha Xn he Xj
def vq(F:Fq X.prog X.w X.K X.mg X.base k fa sp)(hr:sj n X.A)(c:CG X.K X.mg x C)(i:Mk X.K C fa.f)(T:DG X.K st m qual ps fa)(ha:A3 X (e::es) t)(hn:k+1<=n:=by first|decide|omega)(hg:Gl X x:=by rfl)
  (Xn:yJ x:=by decide) (he:Bj X e es:=by rfl) (Xj:CS X pos es:=by rfl):
  E3 X (.Call (.Name x p) (e::es) [] pos) (QJ C sp t):=OY c.toCls i F (hr.mono hn) hg c.mg T.b ha Xn he Xj
def qe{pl:Sem Bool}(he:E3 X o ta)(c:Cls X.K C)(T:MG X.K C st m qual ps fa)(F:Fq X.prog X.w X.K X.mg X.base k fa sp)(hr:sj n X.A)(ha:A3 X (e::es) t)(hn:k<=n:=by first|decide|omega)
  (Xp:Bj X e es:=by rfl) (Xj:CS X pos es:=by rfl)
  (ht:eval (.Call (.Attribute o m W6) (e::es) [] pos) X.env=(do
   let ov<-eval o X.env
   standAt W6.atName
   let(f,first)<-holding [ov] (getMethod ov m pl)
   callWith pos f first (backTo pos (starEach (e::es) X.env)) (backToKw pos (keywordEach [] X.env))):=by rfl):
  E3 X (.Call (.Attribute o m W6) (e::es) [] pos) (AG m (λD s=>D=C/\s=sp) ta t):=
 Fk (R:=λD s=>D=C/\s=sp) he (λD s ⟨e1,e2⟩=>by subst e1 e2;exact⟨c,_,_,_,T.nF,F,T.b⟩) (hr.mono hn) ha Xp Xj ht
def yh{pl:Sem Bool}(he:E3 X o ta)(c:Cls X.K C)(T:MG X.K C st m qual ps fa)(F:Fq X.prog X.w X.K X.mg X.base k fa sp)(hr:sj n X.A)(hn:k<=n:=by first|decide|omega)
  (ht:eval (.Call (.Attribute o m W6) [] [] pos) X.env=(do
   let ov<-eval o X.env
   standAt W6.atName
   let(f,first)<-holding [ov] (getMethod ov m pl)
   callWith pos f first (backTo pos (starEach [] X.env)) (backToKw pos (keywordEach [] X.env))):=by rfl):
  E3 X (.Call (.Attribute o m W6) [] [] pos) (AG m (λD s=>D=C/\s=sp) ta xC):=
 B' (R:=λD s=>D=C/\s=sp) he (λD s ⟨e1,e2⟩=>by subst e1 e2;exact⟨c,_,_,_,T.nF,F,T.b⟩) (hr.mono hn) ht
def yL{pl:Sem Bool}(cm:LB X.K C m fa.f)(F:Fq X.prog X.w X.K X.mg X.base k fa sp)(hr:sj n X.A)(c:CG X.K X.mg x C)(T:DG X.K st m qual ps fa)(ha:A3 X (e::es) t)(hn:k<=n:=by first|decide|omega)(hg:Gl X x:=by rfl)
  (Xn:yJ x:=by decide) (Xp:Bj X e es:=by rfl) (Xj:CS X pos es:=by rfl)
  (ht:eval (.Call (.Attribute (.Name x p) m W6) (e::es) [] pos) X.env=(do
   let ov<-eval (.Name x p) X.env
   standAt W6.atName
   let(f,first)<-holding [ov] (getMethod ov m pl)
   callWith pos f first (backTo pos (starEach (e::es) X.env)) (backToKw pos (keywordEach [] X.env))):=by rfl):
  E3 X (.Call (.Attribute (.Name x p) m W6) (e::es) [] pos) (Ea sp t):=Qr cm F (hr.mono hn) hg c.mg T.kp T.b ha Xn Xp Xj ht
variable {h:Heap}{py:Str}{od an:Option Addr}{sl:Array (Option Vl)}{kv dc pm cd ct:Vl}
def IT{fd:FuncData}{oc:Vl}(l:K.lookup f=some ⟨oc,od,.func fd,sl⟩):W.keepIn K (.ref f)=true:=by unfold W.keepIn;simp only;rw[l]
def PJ{fd:FuncData}(l:K.lookup f=some ⟨.type "function",od,.func fd,sl⟩):W.isFn K (.ref f)=true:=by unfold W.isFn W.typeIn;simp only;rw[l];rfl
abbrev nA(py qual:Str)(st:Stmt)(ps:QQQ):Prop:=∀(kV XG pm:Vl) (an:Option Addr) (Xc ct:Vl) (us:List Vl),us.length=ps.length->bindArgs (W.fnOf py qual (uA st) (rY st) (ql st) .none kV XG pm an Xc ct) ⟨us,[]⟩=pure (ps.zip us)
def QN(l:K.lookup f=some ⟨.type "function",od,.func (W.fnOf py qual (uA st) (rY st) (ql st) .none kv dc pm an cd ct),sl⟩)(k:W.codeIn K cd qual=true)(hb:nA py qual st ps):
  DG K st py qual ps ⟨f,W.fnOf py qual (uA st) (rY st) (ql st) .none kv dc pm an cd ct,ps⟩:=⟨rfl,Mn l k (IT l),(Mn l k (IT l)).binds hb,PJ l⟩
def qx(X:K.In h)(G:h.Ns mainGlobals mg)(a:W.nsIn K mainGlobals py=some (some (.ref f)))(l:K.lookup f=some ⟨.type "function",od,.func (W.fnOf py py (uA st) (rY st) (ql st) .none kv dc pm an cd ct),sl⟩)(k:W.codeIn K cd py=true)(hb:nA py py st ps):
  TG K mg st py ps ⟨f,W.fnOf py py (uA st) (rY st) (ql st) .none kv dc pm an cd ct,ps⟩:=⟨QN l k hb,W.mg_of X G a⟩
def qh(a:W.findIn K (.ref C) py=some (some (.ref f)))(l:K.lookup f=some ⟨.type "function",od,.func (W.fnOf py qual (uA st) (rY st) (ql st) .none kv dc pm an cd ct),sl⟩)(k:W.codeIn K cd qual=true)(hb:nA py qual st ps):
  MG K C st py qual ps ⟨f,W.fnOf py qual (uA st) (rY st) (ql st) .none kv dc pm an cd ct,ps⟩:=⟨QN l k hb,a⟩
def ww(X:K.In h)(G:h.Ns mainGlobals mg)(a:W.nsIn K mainGlobals py=some (some (.ref C)))(h1:W.plainGet K C Str.empty=true)(h2:W.hasDictIn K C=true)(h3:W.plainOver K C=true)(h4:W.findIn K (.ref C) "__setattr__"=some (some (.builtin "object.__setattr__"))):CG K mg py C:=⟨⟨h1,h2,h3,h4⟩,W.mg_of X G a⟩
def UO(h1:(W.clsIn K C).isSome=true)(h2:W.findIn K (.ref C) "__getattribute__"=some (some (.builtin "BaseException.__getattribute__")))(h3:W.findIn K (.ref C) "__getattr__"=some none)(h4:W.findIn K (.ref C) "__class__"=some (some (.builtin "object.__class__"))) (h5:W.specialIn K (.builtin "object.__class__") "__get__"=some (some (.builtin "getset_descriptor.__get__"))) (h6:W.takesIn K (.builtin "object.__class__")=some true) (h7:W.mroIn K C (.type "object")=some true) (h8:W.mroIn K C (.type "BaseException")=some true):K9 K C:=⟨h1,h2,h3,h4,h5,h6,h7,h8⟩
def OD{x:Str}{a:Addr}{es:List DictEntry}{ep:Nat}{T:List (Str×QQQ)}(h:mg x=some (.ref a))(s:(a==sysModules)=false)(l:K.lookup a=some ⟨.type "dict",none,.dict es.toArray ep,#[]⟩) (r:KTD.Rows (λ(ss:QQQ) v=>∃t,v=Value.ref t/\ve K (λ_=>none) t (ss.map V.str)) es T):Mt K mg x T:=⟨a,_,_,_,h,s,l,⟨rfl,rfl,rfl⟩,rfl,by simpa using r⟩
def LY{P:Pg}{w:Wo}{base:Heap}{x qual y1 y2 fl:Str}{st:Stmt}{fa:FA}(F:DG K st x qual [y1,y2] fa)(S:sZ [y1,y2] [y1,y2] (ql st)) (hb:∀(Xc:Vl) (A:Ar) (outer:List Env) (s:Sd) (H:Hp) (E:XK),Cn (vB (B1 P w) P w K mg base [y1,y2] qual (ql st) fa.f Xc A outer s H E) (rY st) (My K (EM 0) (EM 1) fl)):xo P w K mg base (B1 P w) 1 fa.f fa.d fa.p (wq K fl):=by
 rw[F.pe];exact LR F.fn S hb
def T7(ds:List D)(M:Mp)(Q:DK):Prop:=match ds with
 | [.ref a]=>(pf M a).elim False λes=>(F6 es).elim False λbs=>Q (.bl (bs.any id)) M
 | _=>False
def S5(hc:X.calm=true):C3 X (.builtin "any") T7:=by
 intro W2 s σ H vs us Q' I rv h;obtain⟨ds,M,Q,hd,hm,q,k⟩:=h;unfold T7 at q;split at q
 .rename_i a;obtain⟨v,rfl,hv⟩:=sE hd;obtain⟨es,e0,q⟩:=qX q;obtain⟨bs,e1,q⟩:=qX q;cases hv.mR;obtain⟨u,rfl,ru⟩:=yu rv;cases ru;obtain⟨xs,h1,h2,_⟩:=qy hm e0;obtain⟨its,r,pl,hz⟩:=I.list h1;have Z8:=EZ e1 h2 r;subst Z8;have Xm:a≠s.heap.objs.size:=by obtain⟨o,_,e,_⟩:=pl;exact dG (dA e)
  refine call_any_walk (gJ pl.isList ?_);refine⟨s.heap.objs.size,_,_,_,_,_,λi=>(bs[i]?).getD false,rfl,kB (A:=X.A.in1) (I.ok.hd hc) _ a Xm (bs.map Value.bool).toArray,⟨⟨_,dI _ rfl,rfl,rfl⟩,?_⟩,λi v s' Q E hP hQ=>?_,λh' tk hk=>?_⟩
  .obtain⟨o,n,e,c,d,q⟩:=pl;exact⟨o,dg _ e,c,n,q⟩
  .simp only[iQ,dF]at hP;cases e2:bs[i]? with
   | none=>rw[e2]at hP;cases hP
   | some b=>rw[e2]at hP;cases hP;have hQ:Q ((bs[i]?).getD false) s':=hQ;rw[e2]at hQ;exact fv hQ
  .have ea:(List.range (bs.map Value.bool).toArray.size).any (λi=>(bs[i]?).getD false)=bs.any id:=by
    rw[dB,cX];rw[gp,gA,gA];constructor
    .rintro ⟨i,hi,z⟩
     have YF:=gi.mp hi;rw[cZ YF]at z;exact⟨_,ig YF,z⟩
    .rintro ⟨b,hb,z⟩
     obtain⟨i,hi,e⟩:=gS hb;refine⟨i,gi.mpr hi,?_⟩;rw[cZ hi,e];exact z
   rw[ea];refine⟨.bl (bs.any id),H,?_,rfl,k _ _ _ _ .bl hm .refl q⟩;exact I.kept (h':=h') (t':=tk) λb o e=>hk b o (by simpa using dG (dA e)) (dg _ e)
 .exact q.elim
def Ta:bootBuiltins "any"=some (.builtin "any"):=by decide+kernel
end L3
namespace L2
def JR(a C d:Addr)(h:Heap):Prop:=AC λoe vs=>h.get? a=some oe/\oe.cls=.ref C/\oe.data=.fields vs/\oe.dict=some d
structure Od(K:qw)(C:Addr)(f:Str):Prop where
 ci:K9 K C
 hh:W.hasDictIn K C=true
 tk:W.findIn K (.ref C) f=some none
def Nh{h:Heap}{d:Addr}{m:QQZ}{f:Str}{u:Vl}(x:h.Ns1 d m)(e:m f=some u):∃od,h.get? d=some od/\W.lookIn f od=some (some u):=by obtain⟨o,es,ep,e1,e2,_,_,e3⟩:=x;refine⟨o,e1,?_⟩;have e3:=e3 f;rw[e]at e3;unfold nsFind findBy at e3;rw[<-kZ]at e3;obtain⟨en,h1,h2⟩:=iK.mp e3;unfold W.lookIn;rw[e2];dsimp only;rw[h1];exact eV (λz=>some (some z)) h2
variable {prog:Pg}{w:Wo}{A:Ar}{E:QQX}{s:Sd}{K:qw}{x C:Addr}{ox od:Obj}{f:Str}{v:Vl}
def MA{tk:Tok}{Q:PySem.Fin->Sd->Prop}(X:K.In s.heap)(I:W.InstAt s.heap x ox C (some od))(hf:W.findObj K C (some od) f=some (.value v))(h:Q (.done (.ret v)) s):wpAny (model prog w) A (Builtin.«object.__getattribute__» {pos:=[.ref x,.str f tk]}) Q E s:=by have L0:=I.type (M:=model prog w);unfold Builtin.«object.__getattribute__» slotArgs;refine cY ?_;rw[df (by simp)];dsimp only;rw[df (by simp)];refine dq ?_;dsimp only;refine cY ?_;unfold Builtin.ObjectAttr.attrName;refine dq (cY (L0.at (cY ((W.looks_find X I hf).at ?_))));exact dq h
def Qx{ZP:Bool}{Q:QQX}(c:Od K C f)(X:K.In s.heap)(I:W.InstAt s.heap x ox C (some od))(hl:W.lookIn f od=some (some v))(hv:W.handedIn v=true)(h:Q v {s with toks:=s.toks+1}):wpAny (model prog w) A (getAttr (.ref x) f ZP) Q E s:=by have L0:=I.type (M:=model prog w);unfold getAttr getAttrBy;refine cY (wpAny_mkText (eE (cY (L0.at (cY ((jk X c.ci.ga).at ?_))))));dsimp only;rw[df (by simp)];unfold getAttrByItsOwn;refine cY ?_;unfold hookBefore;rw[dh (by rfl)];refine(jk X c.ci.gt).at (cY (kI (eE ?_)));unfold callGetattribute;rw[df (by simp;intro _;rfl)];unfold boundAndCalled;refine cY ?_;rw[ku.ga.bind (.ref x)];refine dq ?_;refine ib (ie ku.ga.plain F.entry_bexc_ga (Lk c.ci X I.at_ I.cls ?_));exact MA X I (W.findObj_own c.hh c.tk rfl hl) (W.handed_on hv h)
variable {X:Cx}{e:Expr}{pos:Pos}{ta:TE}
def KZ:V->Bool
 | .str _=>true
 | .int _=>true
 | .bl _=>true
 | .mW=>true
 | _=>false
def EJ{v:V}{u:Vl}(r:qN v u)(p:KZ v=true):W.handedIn u=true:=by
 cases v<;>first
  | (cases r;rfl)
  | (obtain⟨t,rfl⟩:=r;rfl)
  | cases p
def MN(K:qw)(ta:TE)(f:Str):TE:=λσ H Q=>ta σ H λx H1=>BU λa C d v=>x=.ref a/\H1 a=some (.ext (JR a C d))/\H1 d=some (.ext (NV d f v))/\Od K C f/\KZ v=true/\Q v H1
def Qo(he:PE X e ta)(hb:attributeBase e f X.env (eval e X.env)=eval e X.env):PE X (.Attribute e f pos) (MN X.K ta f):=by intro W2 s σ H Q I h;refine Ji hb (sH (he W2 s σ H _ I h) λu s1 zz=>?_);obtain⟨x,H1,I1,rx,a,C,d,v,ex,ea,ed,c,p,q⟩:=zz;subst ex;obtain rfl:u=Value.ref a:=rx;obtain⟨⟨oe,vs,e1,e2,e3,e4⟩,_,_⟩:=I1.mZ a _ ea;obtain⟨⟨u,n1,r⟩,_,_⟩:=I1.mZ d _ ed;obtain⟨od,g1,g2⟩:=Nh n1 (dh rfl);exact Qx (ox:=oe) c I1.ny ⟨e1,e2,by unfold W.notCls;rw[e3],by rw[e4];exact g1⟩ g2 (EJ r p) ⟨v,H1,I1.tok _,r,q⟩
def Pa{P:Pg}{w:Wo}{H:Hp}{h:Heap}{a C d:Addr}(x:JR a C d h):se P w H h a (.ext (JR a C d)):=by refine⟨x,?_,λh1 h2 ⟨oe,vs,e1,e2,e3,e4⟩ k=>⟨oe,vs,k oe e1,e2,e3,e4⟩⟩;obtain⟨oe,_,e,_⟩:=x;exact⟨oe,e⟩
def P9{X:Cx}{st b₀:Stmt}{Ys:List Stmt}{cn n:Str}{cnp Yy pos:Pos}{Cc L:Addr}{outer:List Env}{i:Nat}{t:Ez->St->Hp->(Hp->Prop)->XK->Prop}{th:TS}(hb:WI X st t)(Xp:X.stack=X.env::outer)(hL:X.env.frame=some L)(hg:Gl X cn)(hm:X.mg cn=some (.ref Cc)) (hN:X.N.Nodup) (hi:X.N[i]?=some n) (hk:X.env.scope.names.lookup n=some .local) (hs:∀ev E',Cn (X.marked ev E') (b₀::Ys) th) (Xn:yJ cn:=by decide):
  PS X (.Try [st] [.ExceptHandler (some (.Name cn cnp)) (some n) (b₀::Ys) Yy] [] [] pos) (λD σ H=>∃(J:Hp->Prop) (E:XK),t D σ H J E/\∀C dx H1 H',J H1->TKept H1 H'->E (.ref C) dx H'->∃d,dx=some d/\W.exmOne X.K (.ref C) (.ref Cc)=some true/\
   ∀a,H' a=none->th {nx:=λσ' H2=>D.nx (σ'.set i none) H2,rt:=D.rt,bk:=λσ' H2=>D.bk (σ'.set i none) H2,ct:=λσ' H2=>D.ct (σ'.set i none) H2} (σ.set i (some (.ref a))) (upd H' a (.ext (JR a C d)))):=by
 intro W2 s σ H D I ⟨J,E,h,hh⟩;refine wpAny_Try_except (eB (Q:=λf s'=>SP X W2 D f s') (jM (sH (hb W2 s σ H D J E I h) λf s1 q=>?_)) (λf s1 q=>?_) λev s1 x=>?_)
 .cases f with
  | next=>exact gU q
  | brk=>exact q
  | cont=>exact q
  | ret v=>exact q
 .cases f with
  | next=>exact gU q
  | brk=>exact q
  | cont=>exact q
  | ret v=>exact q
 .refine eB (RV x Xp hL) (λ_ s2 y=>sH y λ_ s3 z=>?_) λ_ _ z=>z;obtain⟨a,C,dx,H',tb,H1,s1,rfl,q,I3,x3,na,nt,jH,tk,I1,n1⟩:=z;obtain⟨d,rfl,W5,h1⟩:=hh C dx H1 H' jH tk q;refine wpAny_handleBy_cons (codeAny_handlers_test (w9 (X:=X.marked (.ref a) λ_ _=>False) I3.mark hg hm ?_ Xn)) (by intro z;cases z);obtain⟨oe,vs,ho,hc,YV,hd,_⟩:=id x3;refine W.exm_one I3.ny (B7 ho) (by rw[hc];exact W5) _ _ _ _ (λ_ _ z=>z) ?_;refine codeAny_handlers_suite_as (FX x3 λh' hh'=>?_);have I4:Inv X W2 σ H' {s3 with heap:=h'}:=I3.kept (t':=s3.toks) λb u z=>by rw[hh' b];exact z
  have I5:Inv X W2 σ (upd H' a (.ext (JR a C d))) {s3 with heap:=h'}:=I4.adopt I1 n1 na (Pa ⟨oe,vs,by show h'.get? a=_;rw[hh' a];exact ho,hc,hd,YV⟩);refine xF (v:=.ref a) I5 hN hi (.inl hk) rfl (λs6 I6=>?_) (.inr hk);refine eB (hs (.ref a) _ W2 _ _ _ _ I6.mark (h1 a na)) (λf s7 q7=>?_) λ_ _ z=>z;have q7:=SP.unmark I.ok q7;cases f with
  | next=>obtain⟨σ',H2,I7,q⟩:=q7;exact yj I7 hN hi hk λs8 I8=>⟨_,H2,I8,q⟩
  | brk=>obtain⟨σ',H2,I7,q⟩:=q7;exact yj I7 hN hi hk λs8 I8=>⟨_,H2,I8,q⟩
  | cont=>obtain⟨σ',H2,I7,q⟩:=q7;exact yj I7 hN hi hk λs8 I8=>⟨_,H2,I8,q⟩
  | ret v=>obtain⟨y,σ',H2,I7,r,q⟩:=q7;exact yj I7 hN hi hk λs8 I8=>⟨y,_,H2,I8,r,q⟩
end L2
namespace L3
open L2
variable {X:Cx}{cn n x:Str}{e:Expr}{cnp Yy pos W6 xpos p1 p2 p3 p4:Pos}{Cc L:Addr}{outer:List Env}{i ix:Nat}{te:Tj}{fl:Str}
def UT(K:qw)(ix i:Nat)(Cc:Addr)(fl:Str)(te:Tj):xq:=λD δ M=>∃R,te δ M (λd M1=>D.nx (δ.set ix (some d)) M1) R/\∀C y M',R C y M'->W.exmOne K (.ref C) (.ref Cc)=some true/\Od K C fl/\∃z,y=some (fl,.str z)/\D.nx ((δ.set ix (some (.str z))).set i none) M'
def O6(he:Wz X e te)(Xp:X.stack=X.env::outer)(hL:X.env.frame=some L)(hg:Gl X cn)(hm:X.mg cn=some (.ref Cc))(hN:X.N.Nodup)(Zj:X.N[ix]?=some x)(hx:X.env.scope.names.lookup x=some .local)(hi:X.N[i]?=some n)(hk:X.env.scope.names.lookup n=some .local)(Xm:ix≠i) (hd:yJ n:=by decide) (X6:(n==("__classdict__":Str))=false:=by decide) (hab:attributeBase (.Name n p2) fl X.env (eval (.Name n p2) X.env)=eval (.Name n p2) X.env:=by rfl) (hsw2:swapsWith (.Attribute (.Name n p2) fl p3) (some (.Name x p1)) p4.line X.env=pure false:=by rfl)
  (Xn:yJ cn:=by decide) (Yw:swapsWith e (some (.Name x xpos)) W6.line X.env=pure false:=by rfl):
  S3 X (.Try [.Assign [.Name x xpos] e W6] [.ExceptHandler (some (.Name cn cnp)) (some n) [.Assign [.Name x p1] (.Attribute (.Name n p2) fl p3) p4] Yy] [] [] pos) (UT X.K ix i Cc fl te):=
 PS.nY (P9 (th:=Qb (MN X.K (EM i) fl) (Jv ix)) (Ow hN Zj (.inl hx) he Yw (.inr hx)) Xp hL hg hm hN hi hk (λev E'=>EK (Mj (X:=X.marked ev E') (te:=MN X.K (EM i) fl) hN Zj (.inl hx) (Qo (X:=X.marked ev E') (LN (X:=X.marked ev E') hi (.inl hk) hd X6) hab) hsw2 (.inr hx))) Xn) λD' σ H hl ⟨δ,M,D,hs,hm,⟨R,ht,hh⟩,k1,k2,k3,k4⟩=>by
  refine⟨λH1=>qS X.K H H1,λcv d H'=>∃C M' y,cv=.ref C/\HM X.K H' M'/\Tn X.K H' d y/\R C y M',⟨δ,M,_,R,hs,hm,ht,λv H1 d M1 hd W5 e1 q1=>?_,λ_ z=>z,λC dx H' M' y h1 h0 h2=>⟨C,M',y,rfl,h1,h0,h2⟩⟩,λC dx H1 H' jH tk ⟨C',M',y,ec,Yx,YV,r⟩=>?_⟩
  .exact k1 _ H1 _ M1 ((hs.mono e1).set hd (by rw[hl];exact(c9.mp Zj).1)) W5 e1 (by simp) q1
  .cases ec;obtain⟨r1,c,z,ey,q⟩:=hh C y M' r;rcases YV with⟨_,z⟩|⟨d,f,z',v,ed,ez,hd,hv⟩
   .rw[ey]at z;cases z
   .rw[ey]at ez;cases ez;have hiσ:i<σ.length:=by rw[hl];exact(c9.mp hi).1
    refine⟨d,ed,r1,λa na=>⟨.ref a,by rw[eO hiσ],a,C,d,v,rfl,qp,?_,c,?_,?_⟩⟩
    .rw[qd]
     .exact hd
     .intro z;rw[z,na]at hd;cases hd
    .rw[hv.str_inv];rfl
    .have e1:qS X.K H H':=jH.trans (L2.TKept.ext tk);have e2:qS X.K H' (upd H' a (.ext (JR a C d))):=.new na;have s1:=(hs.mono (e1.trans e2)).set (i:=ix) (hv.mono e2) (by rw[hl];exact(c9.mp Zj).1);have s2:=s1.unset (i:=i);refine k1 _ _ _ M' ?_ (Yx.add na) (e1.trans e2) (by simp) q;rw[List.set_comm _ _ Xm.symm,iY];exact s2
end L3
namespace L2
variable {prog:Pg}{w:Wo}{A:Ar}{E:QQX}{s:Sd}
theorem DP{it t:Addr}{W4:Array Vl}(Xm:t≠it):∀(n i:Nat) (s:Sd) (Q:List Vl->Sd->Prop),s.heap.IsListIter it t i->s.heap.IsList t W4->i+n<=W4.size->
  (∀h',h'.IsListIter it t (i+n)->Heap.SameBut it s.heap h'->Q ((W4.toList.drop i).take n) {s with heap:=h'})->wpAny (model prog w) A (draw (.ref it) n) Q E s
 | 0,i,s,Q,hit,_,_,hQ=>by show wpAny _ _ (pure []) Q E s;exact dq (by simpa using hQ s.heap hit (Heap.SameBut.refl ..))
 | n+1,i,s,Q,hit,ht,hle,hQ=>by
  have Xe:i<W4.size:=by omega
  show wpAny _ _ (pyNext (.ref it)>>=_) Q E s;refine cY (j9 hit ht (x:=W4[i]) (by simp[Xe]) λh₁ hit₁ hs₁=>?_);refine cY (eE (DP Xm n (i+1) _ _ hit₁ (ht.extBut hs₁.extBut Xm) (by omega) λh₂ hit₂ hs₂=>dq ?_));have hd:W4.toList.drop i=W4[i]::W4.toList.drop (i+1):=by simp[gN,Xe]
  have:=hQ h₂ (by rw[show i+(n+1)=i+1+n by omega];exact hit₂) (hs₁.trans hs₂);rw[hd,List.take_succ_cons]at this;exact this
def Aq{t:Addr}{W4:Array Vl}{Q:List Vl->Sd->Prop}(hh:A.handled=none)(ht:s.heap.IsList t W4) (hQ:∀h',Heap.ExtBut s.heap.objs.size s.heap h'->Q W4.toList {s with heap:=h'}):wpAny (model prog w) A (unpackItems (.ref t) W4.size none) Q E s:=by
 have Xe:t≠s.heap.objs.size:=by obtain⟨o,ho,_⟩:=ht;exact dG (dA ho)
 unfold unpackItems;refine cY ?_
 .unfold notIterableAtAll;refine cY (iU ht.typeIs slot_list_iter.lookup ?_);refine dq ?_;simp only[iA,jl];refine cY (eE (gJ ht ?_));refine cY (eE (DP Xe W4.size 0 _ _ ⟨_,dI _ rfl,rfl,rfl⟩ (ht.push _) (by omega) λh₁ hit₁ hs₁=>?_));have XJ:List.take W4.size (List.drop 0 W4.toList)=W4.toList:=by rw[jo];exact hJ (by simp)
  rw[XJ];rw[df (by simp)];have ht₁:h₁.IsList t W4:=(ht.push _).extBut hs₁.extBut Xe;refine cY (eE (kh hh hit₁ ht₁ (by simp) λh₂ he₂=>?_));simp only[Option.isSome_none,iA,jl];refine dq (hQ h₂ λb o hb e=>he₂ b o hb (hs₁.extBut b o hb (dg _ e)))
def zD{env:Env}{Xt:List Expr}{x1}{pos:Pos}{t:Addr}{W4:Array Vl}{Q:Unit->Sd->Prop}(hh:A.handled=none)(ht:s.heap.IsList t W4) (hn:(assignEach Xt env).length=W4.size) (hstar:(assignEach Xt env).findIdx? (·.1)=none) (h:∀h',Heap.ExtBut s.heap.objs.size s.heap h'->wpAny (model prog w) A (assignInOrder ((assignEach Xt env).map (·.2)) W4.toList) Q E {s with heap:=h'}):
  wpAny (model prog w) A (assign (.Tuple Xt x1 pos) env (.ref t)) Q E s:=by
 rw[arm_assign_Tuple];refine cY (gT ?_);unfold unpack;rw[hn,hstar];exact cY (eE (Aq hh ht h))
end L2
namespace L3
open L2
variable {X:Cx}{pos:Pos}
def RM(n:Nat)(t:Ds):Dd:=λd δ M Q=>match d with|.ref a=>(pf M a).elim False λds=>ds.length=n/\t ds δ M Q|_=>False
def Pq{es:List Expr}{k:Nat}{t:Ds}{n:Nat}(hc:X.calm=true)(h:Ub X es t)(hn:(assignEach es X.env).length=n:=by rfl)(Xp:(assignEach es X.env).findIdx? (·.1)=none:=by rfl):G3 X (.Tuple es k pos) (RM n t):=by
 intro W2 s σ H v u Q' I r ⟨d,δ,M,Q,hd,hs,hm,ht,kq⟩;cases d with
 | ref a=>
  obtain⟨ds,e,hl,ht⟩:=qX ht;cases hd.mR;cases r;obtain⟨xs,h1,h2,_⟩:=qy hm e;obtain⟨its,rv,pl,hz⟩:=I.list h1;have hx:xs.length=n:=by rw[<-hl];exact h2.length.symm
  refine zD (I.ok.hd hc) pl.isList (by simp[hn,<-hx,rv.length]) Xp λh' hx=>?_;have I1:Inv X W2 σ H {s with heap:=h'}:=I.kept (t':=s.toks) λb o e=>hx b o (dG (dA e)) e;exact h W2 _ σ H xs _ Q' I1 (by simpa using rv) ⟨ds,δ,M,Q,h2,hs,hm,ht,kq⟩
 | _=>exact ht.elim
def HF{K:qw}(h:X.K=K):C3 X (.builtin "isinstance") (Nq K):=by subst h;exact zX
end L3
namespace L3
open L2
def NT(i:Nat){X:Cx}{pos:Pos}{x:Str}(h1:X.N[i]?=some x:=by rfl)(h2:R8 X.env.scope x:=by first|exact Or.inl rfl|exact Or.inr (Or.inl rfl)|exact Or.inr (Or.inr rfl))(h3:yJ x:=by decide)(h4:(x==("__classdict__":Str))=false:=by decide):E3 X (.Name x pos) (v3 i):=RC i (pv i h1 h2 h3 h4)
variable {X:Cx}{pos:Pos}
def WT{N:QQQ}(h:decide N.Nodup=true):N.Nodup:=fR h
def pR(i:Nat){x:Str}{e:Expr}{te:T3}{Xb:Pos}{ps:QQQ}{sc:Scope}(S:sZ X.N ps sc)(he:E3 X e te)(hi:X.N[i]?=some x:=by rfl)(hx:KR X.env.scope x:=by first|exact Or.inl rfl|exact Or.inr rfl)(Yw:swapsWith e (some (.Name x Xb)) pos.line X.env=pure false:=by rfl)(hf:KQ X x:=by first|exact .inl rfl|exact .inr rfl|assumption):S3 X (.Assign [.Name x Xb] e pos) (Gm te (tD i)):=S8 S.nd hi hx he Yw hf
def rL(i:Nat){x:Str}{ps:QQQ}{sc:Scope}(S:sZ X.N ps sc)(hi:X.N[i]?=some x:=by rfl)(hx:KR X.env.scope x:=by first|exact Or.inl rfl|exact Or.inr rfl)(hf:KQ X x:=by first|exact .inl rfl|exact .inr rfl|assumption):G3 X (.Name x pos) (tD i):=Js S.nd hi hx hf
def qJ(i:Nat){x:Str}(hN:decide X.N.Nodup=true:=by kernel_rfl)(hi:X.N[i]?=some x:=by rfl)(hx:KR X.env.scope x:=by first|exact Or.inl rfl|exact Or.inr rfl)(hf:KQ X x:=by first|exact .inl rfl|exact .inr rfl|assumption):G3 X (.Name x pos) (tD i):=Js (WT hN) hi hx hf
abbrev Sc(n:Nat)(N:QQQ)(s:Stmt):=sZ N (N.take n) (ql s)
def sk{n:Nat}{N:QQQ}{s:Stmt}(h:R5 N (N.take n) (ql s)=true:=by decide+kernel):Sc n N s:=WS h
def qr{X:Cx}{e0:Expr}{t0:T3}(h0:E3 X e0 t0)(g0:starEach [e0] X.env=(false,eval e0 X.env)::starEach [] X.env:=by rfl):A3 X [e0] (vw t0 xC):=(qg h0 sG g0)
def so{X:Cx}{e0 e1:Expr}{t0 t1:T3}(h0:E3 X e0 t0)(h1:E3 X e1 t1)(g0:starEach [e0,e1] X.env=(false,eval e0 X.env)::starEach [e1] X.env:=by rfl)(g1:starEach [e1] X.env=(false,eval e1 X.env)::starEach [] X.env:=by rfl):A3 X [e0,e1] (vw t0 (vw t1 xC)):=(qg h0 (qg h1 sG g1) g0)
def rB{X:Cx}{e0 e1 e2:Expr}{t0 t1 t2:T3}(h0:E3 X e0 t0)(h1:E3 X e1 t1)(h2:E3 X e2 t2)(g0:starEach [e0,e1,e2] X.env=(false,eval e0 X.env)::starEach [e1,e2] X.env:=by rfl)(g1:starEach [e1,e2] X.env=(false,eval e1 X.env)::starEach [e2] X.env:=by rfl)(g2:starEach [e2] X.env=(false,eval e2 X.env)::starEach [] X.env:=by rfl):A3 X [e0,e1,e2] (vw t0 (vw t1 (vw t2 xC))):=(qg h0 (qg h1 (qg h2 sG g2) g1) g0)
abbrev v0:=@NT 0
abbrev U1:=@NT 1
abbrev U2:=@NT 2
abbrev U3:=@NT 3
abbrev v5:=@NT 5
abbrev v4:=@NT 4
abbrev v6:=@NT 6
abbrev v7:=@NT 7
abbrev v8:=@NT 8
abbrev v9:=@NT 9
variable {P:Pg}{w:Wo}{K:qw}{mg:QQZ}{base:Heap}
def fq{x qual:Str}{st:Stmt}{fa:FA}{N ps:QQQ}{k:Nat}{sp:rC}(F:DG K st x qual ps fa)(S:sZ N ps (ql st)) (hb:∀{Xc:Vl} {A:Ar} {outer:List Env} {s:Sd} {H:Hp} {E:XK},sj k (A.deeper (envOfC qual (ql st) s.heap.objs.size fa.f Xc))->(A.deeper (envOfC qual (ql st) s.heap.objs.size fa.f Xc)).units+9<cLine->
   ∃t,Hn (vB NR P w K mg base N qual (ql st) fa.f Xc A outer s H E).oQ (rY st) t/\∀ds M Q,sp ds M Q->t {nx:=λ_ M'=>∃W8,qz W8 M'/\Q .mW W8,rt:=λd M'=>∃W8,qz W8 M'/\Q d W8} (xi N ds) M) (len:∀ds M Q,sp ds M Q->ds.length=ps.length:=by walk_at "l"):Fq P w K mg base (k+1) fa sp:=V8 F S len λ_ _ _ _ _ _ h=>hb h (WG h)
def xt{X:Cx}{scope:Scope}{ix:List (Option Nat)}{N':QQQ}(h:HG X.env.scope X.N scope ix N'=true:=by kernel_rfl):sy X scope ix N':=TL h
end L3
namespace Z
open L2 L3
def rj(i:Nat):Stmt:=PySem.Challenge.pw_callboard_k25_the_log_is_told.main.body.getD i (.Pass ⟨0,0,0,0⟩)
abbrev tm(i j:Nat):Stmt:=Oe (rj i) j
def Ag:Sc 1 ["answers"] (rj 1):=sk
def Gu:Sc 2 ["call","word"] (rj 3):=sk
def CY:Sc 2 ["call","phone"] (rj 4):=sk
def xQ:Sc 2 ["call","event","word"] (rj 5):=sk
def xm:Sc 1 ["call","lists"] (rj 7):=sk
def By:Sc 1 ["board","calls"] (rj 8):=sk
def Cw:Sc 3 ["board","caller","target","wishes"] (rj 14):=sk
def tw:Sc 3 ["board","caller","target","free","members","place","in_turn"] (rj 15):=sk
def uX:Sc 3 ["board","caller","target","phones"] (rj 16):=sk
def zW:Sc 2 ["wanted","target"] (rj 17):=sk
def wA:Sc 4 ["board","caller","target","way","come_to","steps","fits","wanted"] (rj 18):=sk
def yT:Sc 2 ["board","phone"] (rj 20):=sk
def wj:Sc 3 ["board","phone","target","word"] (rj 21):=sk
def Li:Sc 3 ["word","phone","calls"] (rj 22):=sk
def tU:Sc 4 ["board","word","phone","numbers","calls","due"] (rj 23):=sk
def yH:Sc 3 ["board","word","number"] (rj 24):=sk
def CJ:Sc 2 ["board","deed","word"] (rj 25):=sk
def tW:Sc 3 ["board","number","steps","last","target","fits"] (rj 26):=sk
def uL:Sc 4 ["board","number","target","phones","members","place"] (rj 27):=sk
def xU:Sc 3 ["board","number","target","talk","members"] (rj 28):=sk
def xX:Sc 3 ["board","number","end","word"] (rj 29):=sk
def wz:Sc 2 ["board","number","call","told","end","steps","last"] (rj 30):=sk
def zQ:Sc 3 ["board","phone","target","number"] (rj 31):=sk
def Cu:Sc 3 ["board","phone","number","call"] (rj 32):=sk
def yx:Sc 2 ["board","call","wishes"] (rj 33):=sk
def B4:Sc 3 ["board","number","fits","wish"] (rj 34):=sk
def tL:Sc 1 ["board","number","call","fits"] (rj 35):=sk
def tq:Sc 2 ["board","deed","word","phone","number","call","kept","others"] (rj 36):=sk
def MJ:Sc 2 ["board","deed","word"] (rj 37):=sk
def HR:Sc 2 ["board","deed","word","begun"] (rj 38):=sk
def Ih:Sc 3 ["board","caller","target"] (rj 40):=sk
def Cd:Sc 1 ["told","word"] (rj 51):=sk
def OP:Sc 2 ["holds","words"] (rj 66):=sk
def Ig:Sc 1 ["text"] (rj 67):=sk
def Dq:Sc 1 ["things"] (rj 68):=sk
def Fc:Sc 3 ["chosen","known","most"] (rj 69):=sk
def ug:Sc 1 ["phones","name","lines","rank"] (rj 70):=sk
def ui:Sc 2 ["groups","phone_names","name","manner","members"] (rj 71):=sk
def Dh:Sc 4 ["kind","part","phone_names","names"] (rj 72):=sk
def tY:Sc 3 ["wish","phone_names","names","form","parts","kind","part"] (rj 73):=sk
def uV:Sc 3 ["wishes","phone_names","names","on","wish"] (rj 74):=sk
def vW:Sc 3 ["phones","groups","wishes","phone_names","names"] (rj 75):=sk
def Km:Sc 2 ["_law_script","_law_k"] (rj 78):=sk
def Gh:Sc 3 ["_law_cell","_law_factor","_law_many"] (rj 79):=sk
def ul:Sc 2 ["_law_seed","_law_which","_law_letters","_law_size","_law_place","_law_rest","_law_letter"] (rj 80):=sk
def xY:Sc 3 ["_law_row","_law_cell","_law_most","_law_first","_law_size"] (rj 81):=sk
def uP:Sc 2 ["_law_seed","_law_most","_law_phones_here","_law_k","_law_lines"] (rj 82):=sk
def uO:Sc 2 ["_law_seed","_law_own","_law_groups_here","_law_g","_law_manner"] (rj 83):=sk
def tI:Sc 3 ["_law_cell","_law_own","_law_names_here","_law_a","_law_place","_law_b","_law_c","_law_pick","_law_first"] (rj 84):=sk
def sC:Sc 2 ["_law_script","_law_most","_law_seed","_law_phones_here","_law_own","_law_groups_here","_law_names_here","_law_wishes","_law_k","_law_cell"] (rj 85):=sk
def C0:Sc 1 ["_law_call"] (rj 86):=sk
def AX:Sc 2 ["_law_board","_law_states"] (rj 87):=sk
def rK:Sc 4 ["_law_board","_law_cell","_law_word_here","_law_states","_law_some_here","_law_k","_law_people_here","_law_a","_law_m"] (rj 88):=sk
def uI:Sc 4 ["_law_cell","_law_own","_law_names_here","_law_many","_law_a","_law_b","_law_k","_law_m","_law_some_here"] (rj 89):=sk
def rM:Sc 4 ["_law_board","_law_cell","_law_own","_law_names_here","_law_word_here","_law_states","_law_found","_law_a"] (rj 90):=sk
def vM:Sc 2 ["_law_script","_law_most","_law_phones_here","_law_groups_here","_law_wishes"] (rj 91):=sk
def zJ:Sc 1 ["_law_board","_law_own"] (rj 92):=sk
def xy:Sc 2 ["_law_board","_law_deed_here","_law_told","e"] (rj 93):=sk
def uf:Sc 1 ["_law_board","_law_rows","_law_call","_law_parts"] (rj 94):=sk
def vI:Sc 1 ["_law_log","_law_legs_here","_law_event"] (rj 95):=sk
def xN:Sc 1 ["_law_script","_law_board","_law_own","_law_names_here","_law_log","_law_cell","_law_told"] (rj 96):=sk
def B9:Sc 2 ["self","word"] (tm 12 0):=sk
def Dc:Sc 3 ["self","plan","hour"] (tm 6 0):=sk
def Fj:Sc 4 ["self","phones","groups","wishes"] (tm 76 0):=sk
def As:Sc 2 ["self","phone"] (tm 6 3):=sk
def GW:Sc 2 ["self","told"] (tm 42 0):=sk
def Fo:Sc 2 ["self","told"] (tm 43 0):=sk
def AN:Sc 2 ["self","told"] (tm 44 0):=sk
def Do:Sc 2 ["self","told"] (tm 46 0):=sk
def CC:Sc 2 ["self","told"] (tm 48 0):=sk
def ER:Sc 2 ["self","told"] (tm 49 0):=sk
def CK:Sc 2 ["self","told"] (tm 50 0):=sk
def yq:Sc 1 ["self"] (tm 76 2):=sk
def xG:Sc 2 ["self","event","word"] (tm 6 12):=sk
def Fw:Sc 2 ["self","told"] (tm 41 0):=sk
def C9:Sc 1 ["self"] (tm 76 1):=sk
def Av:Sc 2 ["self","phone"] (tm 6 2):=sk
def FR:Sc 2 ["self","caller"] (tm 2 0):=sk
def yO:Sc 2 ["self","phone"] (tm 2 2):=sk
def yN:Sc 2 ["self","phone"] (tm 2 5):=sk
def ym:Sc 2 ["self","phone"] (tm 2 4):=sk
def Aj:Sc 2 ["self","leg"] (tm 6 10):=sk
def xT:Sc 4 ["self","merged","kept","members","call"] (tm 6 11):=sk
def vk:Sc 1 ["self","call"] (tm 6 9):=sk
def yS:Sc 2 ["self","phone"] (tm 2 8):=sk
def Cv:Sc 2 ["self","phone"] (tm 6 4):=sk
def zU:Sc 2 ["self","phone"] (tm 6 5):=sk
def C4:Sc 2 ["self","phone"] (tm 6 1):=sk
def Dg:Sc 2 ["self","phone"] (tm 76 3):=sk
def xh:Sc 2 ["self","phone"] (tm 2 7):=sk
def Dt:Sc 2 ["self","phone"] (tm 2 6):=sk
def Bu:Sc 2 ["self","call"] (tm 41 4):=sk
def Af:Sc 2 ["self","call"] (tm 48 2):=sk
def EG:Sc 1 ["self"] (tm 41 1):=sk
def Di:Sc 2 ["self","phone"] (tm 2 3):=sk
def F5:Sc 2 ["self","phone"] (tm 2 1):=sk
def Fs:Sc 1 ["self"] (tm 42 1):=sk
def Dl:Sc 1 ["self"] (tm 43 1):=sk
def Ae:Sc 1 ["self"] (tm 44 1):=sk
def Dk:Sc 1 ["self"] (tm 49 1):=sk
def AK:Sc 1 ["self"] (tm 50 1):=sk
def Gy:Sc 4 ["self","board","caller","target"] (tm 42 2):=sk
def EW:Sc 4 ["self","board","caller","target"] (tm 43 2):=sk
def B8:Sc 4 ["self","board","caller","target"] (tm 45 0):=sk
def CZ:Sc 4 ["self","board","caller","target"] (tm 46 2):=sk
def Fb:Sc 4 ["self","board","caller","target"] (tm 47 0):=sk
def Cb:Sc 4 ["self","board","caller","target"] (tm 48 1):=sk
def Em:Sc 4 ["self","board","caller","target"] (tm 49 2):=sk
def vm:Sc 4 ["self","board","caller","target","talk","members"] (tm 50 3):=sk
def B6:Sc 2 ["self","name"] (tm 76 6):=sk
def zg:Sc 2 ["self","name"] (tm 76 5):=sk
def zu:Sc 2 ["self","hour"] (tm 46 1):=sk
def y9:Sc 1 ["self"] (tm 6 8):=sk
def zC:Sc 2 ["self","phone"] (tm 6 6):=sk
def vt:Sc 3 ["self","plan","members","rank"] (tm 50 2):=sk
def zo:Sc 3 ["self","caller","target"] (tm 6 7):=sk
def EB:Sc 2 ["self","phone"] (tm 76 4):=sk
noncomputable def Ky:List (Str×QQQ):=[("bar",["phone","names"]),("shut",["name","phones"]),("always",["name","name"]),("night",["name","name","hour","hour"]),("busy",["name","name"]),("silent",["name","name","turns"]),("wait",["phone"]),("breaks",["phone"])]
set_option genInjectivity false in
structure Ad where
 (J Z aO aP aQ aR aS aT aU aV aW aa aX aY aZ a0 a1 a2 a3 a4 a5 ab a6 a7 a8 a9 ba bb bc L M bd n ac ad N be bf bg bh bi bj O i ae P bk bl bm bn bo bp bq br bs bt bu bv bw bx af I ag ah Q ai aj B ak al am an R k F bz S ao T ap U bA bB bC aq bD bE bF bG bH ar r au m bI bJ av aw A ax ay az aA aB aC aD aE aF aG aH V bK bL bM bN aI aJ:FA)
 (e c C t u X x o y v w q h b3 H:Addr)
structure Gl(K:qw)(mg:QQZ)(a:Ad):Prop where
 e:CG K mg "Call" a.e
 c:CG K mg "Board" a.c
 C:CG K mg "Wish" a.C
 t:CG K mg "Bar" a.t
 u:CG K mg "Shut" a.u
 X:CG K mg "Forward" a.X
 x:CG K mg "Always" a.x
 o:CG K mg "Night" a.o
 y:CG K mg "Busy" a.y
 v:CG K mg "Silent" a.v
 w:CG K mg "Wait" a.w
 q:CG K mg "Breaks" a.q
 h:CG K mg "Plan" a.h
 cW:mg "CallError"=some (.ref a.b3)
 bW:mg "NoDeed"=some (.ref a.H)
 J:TG K mg (rj 1) "place_of_true" ["answers"] a.J
 Z:TG K mg (rj 3) "end_call" ["call","word"] a.Z
 aO:TG K mg (rj 4) "drop_phone" ["call","phone"] a.aO
 aP:TG K mg (rj 5) "change_call" ["call","event"] a.aP
 aQ:TG K mg (rj 7) "call_picture" ["call"] a.aQ
 aR:TG K mg (rj 8) "picture" ["board"] a.aR
 aS:TG K mg (rj 14) "fitting" ["board","caller","target"] a.aS
 aT:TG K mg (rj 15) "rung_phones" ["board","caller","target"] a.aT
 aU:TG K mg (rj 16) "end_without_wish" ["board","caller","target"] a.aU
 aV:TG K mg (rj 17) "end_as_wanted" ["wanted","target"] a.aV
 aW:TG K mg (rj 18) "route" ["board","caller","target","way"] a.aW
 aa:TG K mg (rj 20) "word_for_idling" ["board","phone"] a.aa
 aX:TG K mg (rj 21) "word_for_call" ["board","phone","target"] a.aX
 aY:TG K mg (rj 22) "suits" ["word","phone","calls"] a.aY
 aZ:TG K mg (rj 23) "word_for_numbers" ["board","word","phone","numbers"] a.aZ
 a0:TG K mg (rj 24) "word_for_switch" ["board","word","number"] a.a0
 a1:TG K mg (rj 25) "refusal" ["board","deed"] a.a1
 a2:TG K mg (rj 26) "take_steps" ["board","number","steps"] a.a2
 a3:TG K mg (rj 27) "start_ringing" ["board","number","target","phones"] a.a3
 a4:TG K mg (rj 28) "break_in" ["board","number","target"] a.a4
 a5:TG K mg (rj 29) "come_to_end" ["board","number","end"] a.a5
 ab:TG K mg (rj 30) "go_on" ["board","number"] a.ab
 a6:TG K mg (rj 31) "make_call" ["board","phone","target"] a.a6
 a7:TG K mg (rj 32) "hang_up" ["board","phone","number"] a.a7
 a8:TG K mg (rj 33) "due_wishes" ["board","call"] a.a8
 a9:TG K mg (rj 34) "send_on" ["board","number","fits"] a.a9
 ba:TG K mg (rj 35) "let_turn_pass" ["board"] a.ba
 bb:TG K mg (rj 36) "event_of" ["board","deed"] a.bb
 bc:TG K mg (rj 37) "act" ["board","deed"] a.bc
 L:TG K mg (rj 38) "do" ["board","deed"] a.L
 M:TG K mg (rj 40) "is_busy" ["board","caller","target"] a.M
 bd:TG K mg (rj 51) "wish_of" ["told"] a.bd
 n:TG K mg (rj 66) "need" ["holds","words"] a.n
 ac:TG K mg (rj 67) "is_name" ["text"] a.ac
 ad:TG K mg (rj 68) "all_unlike" ["things"] a.ad
 N:TG K mg (rj 69) "is_choice" ["chosen","known","most"] a.N
 be:TG K mg (rj 70) "check_phones" ["phones"] a.be
 bf:TG K mg (rj 71) "check_groups" ["groups","phone_names"] a.bf
 bg:TG K mg (rj 72) "part_holds" ["kind","part","phone_names","names"] a.bg
 bh:TG K mg (rj 73) "check_wish" ["wish","phone_names","names"] a.bh
 bi:TG K mg (rj 74) "check_wishes" ["wishes","phone_names","names"] a.bi
 bj:TG K mg (rj 75) "check_plan" ["phones","groups","wishes"] a.bj
 O:TG K mg (rj 78) "_law_at" ["_law_script","_law_k"] a.O
 i:TG K mg (rj 79) "_law_draw" ["_law_cell","_law_factor","_law_many"] a.i
 ae:TG K mg (rj 80) "_law_word" ["_law_seed","_law_which"] a.ae
 P:TG K mg (rj 81) "_law_some" ["_law_row","_law_cell","_law_most"] a.P
 bk:TG K mg (rj 82) "_law_phones" ["_law_seed","_law_most"] a.bk
 bl:TG K mg (rj 83) "_law_groups" ["_law_seed","_law_own"] a.bl
 bm:TG K mg (rj 84) "_law_wish" ["_law_cell","_law_own","_law_names_here"] a.bm
 bn:TG K mg (rj 85) "_law_plan" ["_law_script","_law_most"] a.bn
 bo:TG K mg (rj 86) "_law_people" ["_law_call"] a.bo
 bp:TG K mg (rj 87) "_law_of_state" ["_law_board","_law_states"] a.bp
 bq:TG K mg (rj 88) "_law_on_call" ["_law_board","_law_cell","_law_word_here","_law_states"] a.bq
 br:TG K mg (rj 89) "_law_any" ["_law_cell","_law_own","_law_names_here","_law_many"] a.br
 bs:TG K mg (rj 90) "_law_deed" ["_law_board","_law_cell","_law_own","_law_names_here"] a.bs
 bt:TG K mg (rj 91) "_law_made" ["_law_script","_law_most"] a.bt
 bu:TG K mg (rj 92) "_law_names" ["_law_board"] a.bu
 bv:TG K mg (rj 93) "_law_done" ["_law_board","_law_deed_here"] a.bv
 bw:TG K mg (rj 94) "_law_pictured" ["_law_board"] a.bw
 bx:TG K mg (rj 95) "_law_legs" ["_law_log"] a.bx
 af:TG K mg (rj 96) "law" ["_law_script"] a.af
 I:MG K a.H (tm 12 0) "__init__" "NoDeed.__init__" ["self","word"] a.I
 ag:MG K a.c (tm 6 0) "__init__" "Board.__init__" ["self","plan","hour"] a.ag
 ah:MG K a.h (tm 76 0) "__init__" "Plan.__init__" ["self","phones","groups","wishes"] a.ah
 Q:MG K a.c (tm 6 3) "talk_of" "Board.talk_of" ["self","phone"] a.Q
 ai:MG K a.t (tm 42 0) "__init__" "Bar.__init__" ["self","told"] a.ai
 aj:MG K a.u (tm 43 0) "__init__" "Shut.__init__" ["self","told"] a.aj
 B:MG K a.X (tm 44 0) "__init__" "Forward.__init__" ["self","told"] a.B
 ak:MG K a.o (tm 46 0) "__init__" "Night.__init__" ["self","told"] a.ak
 al:MG K a.v (tm 48 0) "__init__" "Silent.__init__" ["self","told"] a.al
 am:MG K a.w (tm 49 0) "__init__" "Wait.__init__" ["self","told"] a.am
 an:MG K a.q (tm 50 0) "__init__" "Breaks.__init__" ["self","told"] a.an
 R:MG K a.h (tm 76 2) "phone_names" "Plan.phone_names" ["self"] a.R
 k:MG K a.c (tm 6 12) "apply" "Board.apply" ["self","event"] a.k
 F:MG K a.C (tm 41 0) "__init__" "Wish.__init__" ["self","told"] a.F
 bz:MG K a.h (tm 76 1) "names" "Plan.names" ["self"] a.bz
 S:MG K a.c (tm 6 2) "is_free" "Board.is_free" ["self","phone"] a.S
 ao:MG K a.e (tm 2 0) "__init__" "Call.__init__" ["self","caller"] a.ao
 T:MG K a.e (tm 2 2) "talks_with" "Call.talks_with" ["self","phone"] a.T
 ap:MG K a.e (tm 2 5) "waits_with" "Call.waits_with" ["self","phone"] a.ap
 U:MG K a.e (tm 2 4) "is_tried_by" "Call.is_tried_by" ["self","phone"] a.U
 bA:MG K a.c (tm 6 10) "add_leg" "Board.add_leg" ["self","leg"] a.bA
 bB:MG K a.c (tm 6 11) "merge" "Board.merge" ["self","merged","kept","members"] a.bB
 bC:MG K a.c (tm 6 9) "pass_turn" "Board.pass_turn" ["self"] a.bC
 aq:MG K a.e (tm 2 8) "other_than" "Call.other_than" ["self","phone"] a.aq
 bD:MG K a.c (tm 6 4) "bound" "Board.bound" ["self","phone"] a.bD
 bE:MG K a.c (tm 6 5) "calling" "Board.calling" ["self","phone"] a.bE
 bF:MG K a.c (tm 6 1) "used" "Board.used" ["self","phone"] a.bF
 bG:MG K a.h (tm 76 3) "lines" "Plan.lines" ["self","phone"] a.bG
 bH:MG K a.e (tm 2 7) "can_be_left_by" "Call.can_be_left_by" ["self","phone"] a.bH
 ar:MG K a.e (tm 2 6) "pairs" "Call.pairs" ["self","phone"] a.ar
 r:MG K a.C (tm 41 4) "is_due" "Wish.is_due" ["self","call"] a.r
 au:MG K a.v (tm 48 2) "is_due" "Silent.is_due" ["self","call"] a.au
 m:MG K a.C (tm 41 1) "told" "Wish.told" ["self"] a.m
 bI:MG K a.e (tm 2 3) "binds" "Call.binds" ["self","phone"] a.bI
 bJ:MG K a.e (tm 2 1) "has" "Call.has" ["self","phone"] a.bJ
 av:MG K a.t (tm 42 1) "wants" "Bar.wants" ["self"] a.av
 aw:MG K a.u (tm 43 1) "wants" "Shut.wants" ["self"] a.aw
 A:MG K a.X (tm 44 1) "wants" "Forward.wants" ["self"] a.A
 ax:MG K a.w (tm 49 1) "wants" "Wait.wants" ["self"] a.ax
 ay:MG K a.q (tm 50 1) "wants" "Breaks.wants" ["self"] a.ay
 az:MG K a.t (tm 42 2) "fits" "Bar.fits" ["self","board","caller","target"] a.az
 aA:MG K a.u (tm 43 2) "fits" "Shut.fits" ["self","board","caller","target"] a.aA
 aB:MG K a.x (tm 45 0) "fits" "Always.fits" ["self","board","caller","target"] a.aB
 aC:MG K a.o (tm 46 2) "fits" "Night.fits" ["self","board","caller","target"] a.aC
 aD:MG K a.y (tm 47 0) "fits" "Busy.fits" ["self","board","caller","target"] a.aD
 aE:MG K a.v (tm 48 1) "fits" "Silent.fits" ["self","board","caller","target"] a.aE
 aF:MG K a.w (tm 49 2) "fits" "Wait.fits" ["self","board","caller","target"] a.aF
 aG:MG K a.q (tm 50 3) "fits" "Breaks.fits" ["self","board","caller","target"] a.aG
 aH:MG K a.h (tm 76 6) "manner" "Plan.manner" ["self","name"] a.aH
 V:MG K a.h (tm 76 5) "phones_of" "Plan.phones_of" ["self","name"] a.V
 bK:MG K a.o (tm 46 1) "has_hour" "Night.has_hour" ["self","hour"] a.bK
 bL:MG K a.c (tm 6 8) "hour_now" "Board.hour_now" ["self"] a.bL
 bM:MG K a.c (tm 6 6) "waits_at" "Board.waits_at" ["self","phone"] a.bM
 bN:MG K a.q (tm 50 2) "outranks" "Breaks.outranks" ["self","plan","members"] a.bN
 aI:MG K a.c (tm 6 7) "ringable" "Board.ringable" ["self","caller","target"] a.aI
 aJ:MG K a.h (tm 76 4) "rank" "Plan.rank" ["self","phone"] a.aJ
 b4:IM K a.H a.I.f
 b5:yC K a.H "word"
 b6:Od K a.H "word"
 b7:W.exmOne K (.ref a.H) (.ref a.H)=some true
 b8:Mk K a.c a.ag.f
 b9:Mk K a.h a.ah.f
 ca:Mk K a.t a.ai.f
 cb:Mk K a.u a.aj.f
 cc:Mk K a.x a.B.f
 cd:Mk K a.o a.ak.f
 ce:Mk K a.y a.B.f
 cf:Mk K a.v a.al.f
 cg:Mk K a.w a.am.f
 ch:Mk K a.q a.an.f
 ci:Mk K a.e a.ao.f
 cj:vE K a.t "is_due" a.r.f
 ck:vE K a.u "is_due" a.r.f
 cl:vE K a.x "is_due" a.r.f
 cm:vE K a.o "is_due" a.r.f
 cn:vE K a.y "is_due" a.r.f
 co:vE K a.w "is_due" a.r.f
 cp:vE K a.q "is_due" a.r.f
 cq:vE K a.t "told" a.m.f
 cr:vE K a.u "told" a.m.f
 cs:vE K a.x "told" a.m.f
 ct:vE K a.o "told" a.m.f
 cu:vE K a.y "told" a.m.f
 cv:vE K a.v "told" a.m.f
 cw:vE K a.w "told" a.m.f
 cx:vE K a.q "told" a.m.f
 cy:vE K a.x "wants" a.A.f
 cz:vE K a.o "wants" a.A.f
 cA:vE K a.y "wants" a.A.f
 cB:vE K a.v "wants" a.A.f
 aK:LB K a.C "__init__" a.F.f
 bX:LB K a.X "__init__" a.B.f
 E:zk K a.c ["plan","hour","turn","calls","legs","nexts","on","log"]
 Y:zk K a.h ["phones","groups","wishes","on","phone_rows","group_rows"]
 bP:zk K a.t ["form","phone","targets"]
 bQ:zk K a.u ["form","target","callers"]
 bR:zk K a.x ["form","target","goal"]
 aL:zk K a.o ["form","target","goal","first","last"]
 bS:zk K a.y ["form","target","goal"]
 bO:zk K a.v ["form","target","goal","turns"]
 bY:zk K a.w ["form","phone"]
 bZ:zk K a.q ["form","phone"]
 j:zk K a.e ["state","caller","way","at","members","holder","since","word"]
 cC:W.kitOne K (.type "str") (.type "str")=some true
 cD:W.kitOne K (.type "list") (.type "str")=some false
 cE:W.kitOne K (.type "list") (.type "list")=some true
 cF:W.kitOne K (.type "tuple") (.type "tuple")=some true
 bT:mg "isinstance"=none
 cG:mg "str"=none
 z:mg "list"=none
 aM:mg "all"=none
 l:mg "tuple"=none
 g:mg "len"=none
 b0:mg "sorted"=none
 aN:mg "range"=none
 bU:mg "dict"=none
 cH:mg "min"=none
 cI:mg "set"=none
 bV:mg "enumerate"=none
 cJ:mg "zip"=none
 cK:mg "any"=none
 cL:KD K mg "MOST_PHONES" (.int 8)
 cM:KD K mg "MOST_LINES" (.int 3)
 cN:KD K mg "MOST_RANK" (.int 9)
 cO:KD K mg "MOST_GROUPS" (.int 3)
 cP:KD K mg "MANNERS" (.tup ((["all","turns"]:QQQ).map D.str))
 cQ:KD K mg "MOST_MEMBERS" (.int 4)
 cR:KD K mg "MOST_WISHES" (.int 16)
 cS:KD K mg "MOST_SIGNS" (.int 6)
 cT:KD K mg "LETTERS" (.str "abcdefghijklmnopqrstuvwxyz")
 b1:Mt K mg "FORMS" Ky
 b2:KD K mg "MOST_LISTED" (.int 6)
 cU:KD K mg "LAST_HOUR" (.int 23)
 cV:KD K mg "MOST_TURNS" (.int 9)
noncomputable def draw(c f m:Int):Int:=(c % 2147483647+5)*f % 2147483629 / 89 % m
def rb{c f m:Int}(h:0<m):0<=draw c f m:=eW _ (by omega)
def qQ{c f m:Int}(h:0<m):draw c f m<m:=eQ _ h
def Jl:rC:=λds M Q=>CT λc f m=>ds=[.int c,.int f,.int m]/\0<m/\Q (.int (draw c f m)) M
noncomputable def uy:Str:="abcdefghijklmnopqrstuvwxyz"
noncomputable def uk(i:Int):Str:=⟨#[97+i.toNat]⟩
noncomputable def size(s:Int):Int:=1+s % 6
noncomputable def uu(s:Int):Int:=s / 6 % size s
noncomputable def xO(s v:Int):Str:=yK (uk (s / 36 % 26)) (uu s)++uk ((s / 936+v) % 26)++yK (uk (s / 36 % 26)) (size s - 1 - uu s)
def P8:rC:=λds M Q=>AC λs v=>ds=[.int s,.int v]/\Q (.str (xO s v)) M
noncomputable def cell(ns:List Int)(i:Int):Int:=if 0<=i/\i<ns.length then ns.getD i.toNat 0 else 0
def TX:rC:=λds M Q=>AC λns i=>ds=[.rl (ns.map D.int),.int i]/\Q (.int (cell ns i)) M
def Gp(c:Int):0<size c:=by unfold size;have:=eW c (show(6:Int)≠0 by decide);omega
def IJ(c:Int):size c<=6:=by unfold size;have:=eQ c (show(0:Int)<6 by decide);omega
def GC(i n:Int):(yK (uk i) n).length=n.toNat:=by show((List.replicate n.toNat (uk i).cps).foldl (·++·) #[]:Array Nat).size=n.toNat;rw[JA];show n.toNat*1=n.toNat;omega
def Aw:uy.length<=sizeLine:=by decide+kernel
variable {P:Pg}{w:Wo}{K:qw}{mg:QQZ}{base:Heap}{a:Ad}(G:Gl K mg a)
def qO:Fq P w K mg base 1 a.i Jl:=by
 refine fq G.i.toDG Gh (λr u=>⟨_,(pE (pJ (qc (qc (qc (qc (qc (qc v0 pF) pF) U1) pF) pF) U2))),?_⟩)
 rintro ds M Q ⟨c,f,m,rfl,hm,q⟩
 refine⟨by decide,.inl ?_,by decide,⟨by decide,by decide⟩,hm,M,.refl,q⟩;have h1:0<=c % 2147483647:=eW _ (by decide);have h2:c % 2147483647<2147483647:=eQ _ (by decide);exact⟨by omega,by omega⟩
def DY{i:Int}(h0:0<=i)(h1:i<26):wC uy.cps.toList i=some (97+i.toNat):=by
 obtain⟨n,rfl⟩:=eF h0;have hn:n<26:=by omega
 have key:∀n:_root_.Fin 26,wC uy.cps.toList ((n.val:Nat):Int)=some (97+n.val):=by decide+kernel
 exact key ⟨n,hn⟩
def IW:Fq P w K mg base 1 a.ae P8:=by
 refine fq G.ae.toDG ul (λr u=>⟨_,(pC (pR 2 ul pG)
 (pC (pR 3 ul (qc pF (qc v0 pF)))
 (pC (pR 4 ul (qc (qc v0 pF) U3))
 (pC (pR 5 ul (pQ U2 (qc (qc v0 pF) pF)))
 (pC (pR 6 ul (pQ U2 (qc (qc (qc v0 pF) U1) pF)))
 (pE (pJ (qc (qc (qc v5 v4) v6) (qc v5 (qc (qc U3 pF) v4)))))))))),?_⟩)
 rintro ds M Q ⟨c,v,rfl,q⟩
 have hs:=Gp c;have hs6:=IJ c;have hp0:0<=uu c:=eW _ (by omega);have X0:uu c<size c:=eQ _ hs;have l1:=GC (c / 36 % 26) (uu c);have l2:=GC (c / 36 % 26) (size c - 1 - uu c);have hz:=dN;refine⟨by decide,⟨by decide,by decide⟩,hs,⟨by decide,by decide⟩,by decide,Aw,i' (DY (eW _ (by decide)) (eQ _ (by decide))) ?_⟩;refine⟨⟨by decide,by decide⟩,by decide,Aw,i' (DY (eW _ (by decide)) (eQ _ (by decide))) ?_⟩;refine⟨⟨?_,?_,?_⟩,?_,⟨?_,?_,?_⟩,?_,M,.refl,q⟩
 .show uu c<4096;omega
 .show -4096<uu c;omega
 .show(1:Nat)<4096;decide
 .show(yK (uk (c / 36 % 26)) (uu c)).length+1<=sizeLine;omega
 .show size c - 1 - uu c<4096;omega
 .show -4096<size c - 1 - uu c;omega
 .show(1:Nat)<4096;decide
 .show(yK (uk (c / 36 % 26)) (uu c)++uk ((c / 936+v) % 26)).length+(yK (uk (c / 36 % 26)) (size c - 1 - uu c)).length<=sizeLine;rw[PySem.size_cat];have:(uk ((c / 936+v) % 26)).length=1:=rfl;omega
def Lb:Fq P w K mg base 1 a.O TX:=by
 refine fq G.O.toDG Km (λr u=>⟨_,(pC (pV (G2 u pF U1 (pY qH rfl G.g qG (qr v0)))
 (pE (pJ (pQ v0 U1)))
 pP)
 (pE (pJ pF))),?_⟩)
 rintro ds M Q ⟨ns,i,rfl,q⟩
 refine qM (λh0=>?_) (λh0=>?_)
 .have h0:0<=i:=fR h0;refine qM (λh1=>?_) (λh1=>?_)
  .have h1:i<((ns.map D.int).length:Int):=fR h1;rw[cX]at h1;have hi:i.toNat<ns.length:=by omega
   have e:wC (ns.map D.int) i=some (D.int (ns.getD i.toNat 0)):=by
    obtain⟨n,rfl⟩:=eF h0;have hn:n<ns.length:=by omega
    refine vf ?_;rw[dF,cZ hn];simp[hn]
   refine i' e ⟨M,.refl,?_⟩;have:cell ns i=ns.getD i.toNat 0:=by unfold cell;rw[dh ⟨h0,h1⟩]
   rw[<-this];exact q
  .have h1:¬i<((ns.map D.int).length:Int):=λz=>h1 (dZ z);rw[cX]at h1;refine⟨M,.refl,?_⟩;have:cell ns i=0:=by unfold cell;rw[df (λz=>h1 z.2)]
   rw[<-this];exact q
 .have h0:¬0<=i:=λz=>h0 (dZ z);refine⟨M,.refl,?_⟩;have:cell ns i=0:=by unfold cell;rw[df (λz=>h0 z.1)]
  rw[<-this];exact q
inductive Wi where
 | bar (x:Str) (ns:QQQ)|shut (x:Str) (ns:QQQ)|always (x y:Str)|night (x y:Str) (f l:Int)|busy (x y:Str)|silent (x y:Str) (n:Int)|wait (x:Str)|breaks (x:Str)
abbrev names(ns:QQQ):D:=.tup (ns.map D.str)
noncomputable def Wi.told:Wi->List D
 | .bar x ns=>[.str "bar",.str x,names ns]
 | .shut x ns=>[.str "shut",.str x,names ns]
 | .always x y=>[.str "always",.str x,.str y]
 | .night x y f l=>[.str "night",.str x,.str y,.int f,.int l]
 | .busy x y=>[.str "busy",.str x,.str y]
 | .silent x y n=>[.str "silent",.str x,.str y,.int n]
 | .wait x=>[.str "wait",.str x]
 | .breaks x=>[.str "breaks",.str x]
noncomputable def Wi.cls(a:Ad):Wi->Addr
 | .bar _ _=>a.t
 | .shut _ _=>a.u
 | .always _ _=>a.x
 | .night _ _ _ _=>a.o
 | .busy _ _=>a.y
 | .silent _ _ _=>a.v
 | .wait _=>a.w
 | .breaks _=>a.q
noncomputable def Wi.more:Wi->List (Str×D)
 | .bar x ns=>[("phone",.str x),("targets",names ns)]
 | .shut x ns=>[("target",.str x),("callers",names ns)]
 | .always x y=>[("target",.str x),("goal",.str y)]
 | .night x y f l=>[("target",.str x),("goal",.str y),("first",.int f),("last",.int l)]
 | .busy x y=>[("target",.str x),("goal",.str y)]
 | .silent x y n=>[("target",.str x),("goal",.str y),("turns",.int n)]
 | .wait x=>[("phone",.str x)]
 | .breaks x=>[("phone",.str x)]
noncomputable def Wi.nR(v:Wi):List (Str×D):=("form",.tup v.told)::v.more
abbrev BJ(ns:QQQ)(i:Int):Str:=ns.getD i.toNat Str.empty
noncomputable def xl(row:QQQ)(c m:Int):Nat:=(1+draw c 40692 (if (row.length:Int)<m then(row.length:Int)else m)).toNat
noncomputable def T8(row:QQQ)(c:Int)(j:Nat):Str:=BJ row ((draw c 69621 row.length+(0+(j:Nat))) % row.length)
noncomputable def vP(row:QQQ)(c m:Int):QQQ:=(List.range (xl row c m)).map (T8 row c)
def P':rC:=λds M Q=>BU λr c m row=>ds=[.ref r,.int c,.int m]/\pf M r=some (row.map D.str)/\row≠[]/\0<m/\row.length<=64/\Q (names (vP row c m)) M
def Iw{row:QQQ}(h:row≠[])(x:Int):wC (row.map D.str) (x % row.length)=some (D.str (BJ row (x % row.length))):=by
 have hl:0<row.length:=fF.mpr h;have h0:0<=x % row.length:=eW _ (by omega);have h1:x % row.length<row.length:=eQ _ (by omega);obtain⟨n,hn⟩:=eF h0;rw[hn]at h1 ⊢;have YC:n<row.length:=by omega
 refine vf ?_;rw[dF,cZ YC];simp[BJ,YC]
def yl:Fq P w K mg base 2 a.P P':=by
 refine fq G.P.toDG xY (λr u=>⟨_,(pC (pR 3 xY (pO (qO G) r G.i (rB U1 pF (pY qH rfl G.g qG (qr v0)))))
 (pC (pR 4 xY (qc pF (pO (qO G) r G.i (rB U1 pF (pY (Rm rfl) rfl G.cH RN (so U2 (pY qH rfl G.g qG (qr v0))))))))
 (pE (pJ (qa rh rfl G.l qY (qr (qK rfl (xt (ix:=[none,some 0,some 3]) (N':=["_law_j","_law_row","_law_first"])) (wu rfl G.aN (qr v4)) (qJ 0) rN (pQ U1 (qc (qc U2 v0) (pY qH rfl G.g qG (qr U1))))))))))),?_⟩)
 rintro ds M Q ⟨r,c,m,row,rfl,hl,Xm,hm,h64,q⟩
 have W9:0<row.length:=fF.mpr Xm;have hz:=dN;have el:((row.map D.str).length:Int)=row.length:=by rw[cX]
 refine i' hl ⟨c,69621,_,rfl,by rw[el];omega,?_⟩;refine i' hl ⟨c,40692,_,rfl,by rw[el];split<;>omega,?_⟩;rw[el];have d0:=rb (c:=c) (f:=40692) (m:=if (row.length:Int)<m then(row.length:Int)else m) (by split<;>omega);have d1:=qQ (c:=c) (f:=40692) (m:=if (row.length:Int)<m then(row.length:Int)else m) (by split<;>omega);have d2:draw c 40692 (if (row.length:Int)<m then(row.length:Int)else m)<row.length+1:=by refine Int.lt_of_lt_of_le d1 ?_;split<;>omega
 refine⟨rfl,⟨?_,?_⟩,qV (f:=λd=>match d with|.int j=>D.str (BJ row ((draw c 69621 row.length+j) % row.length))|_=>.mW) trivial _ [] _ ?_ (λd hd k hk=>?_) λp hp=>?_⟩
 .show -(2 ^ 62)<=1+draw c 40692 (if (row.length:Int)<m then(row.length:Int)else m);omega
 .show 1+draw c 40692 (if (row.length:Int)<m then(row.length:Int)else m)<2 ^ 62;omega
 .rw[cX,eI];show 0+xl row c m<=sizeLine;unfold xl;omega
 .obtain⟨j,_,rfl⟩:=dE.mp hd;refine i' hl ⟨by rw[el];omega,i' hl ?_⟩;rw[el];exact i' (Iw Xm _) hk
 .refine i' (x:=(vP row c m).map D.str) ?_ ⟨M,.new hp,q⟩;unfold pf;rw[pX];show some ([]++((List.range (xl row c m)).map λi=>D.int (0+(i:Nat))).map _)=_;rw[d6,eA];unfold vP;rw[eA];rfl
noncomputable def wk(c:Int)(own all:QQQ):Wi:=
 let x:=BJ own (draw c 16807 own.length);let pl:=draw c 39373 all.length;let y:=BJ all pl;let z:=BJ all ((pl+1+draw c 742938285 ((all.length:Int) - 1)) % all.length);let k:=draw c 1226874159 12
 if k=0 then .bar x (vP all c 3)
 else if k=1 then .shut y (vP own c 3)
 else if k=2 then .always y z
 else if k<5 then .night y z (draw c 22695477 24) ((draw c 22695477 24+1+draw c 48271 23) % 24)
 else if k<7 then .busy y z
 else if k<9 then .silent y z ([1,1,2,3,9].getD (draw c 950706376 5).toNat 0)
 else if k=9 then .wait x
 else .breaks x
def Pv:rC:=λds M Q=>Ha λc o n own all=>ds=[.int c,.ref o,.ref n]/\pf M o=some (own.map D.str)/\pf M n=some (all.map D.str)/\own≠[]/\2<=all.length/\own.length<=64/\all.length<=64/\Q (.tup (wk c own all).told) M
def Ir{row:QQQ}{x:Int}(h0:0<=x)(h1:x<row.length):wC (row.map D.str) x=some (D.str (BJ row x)):=by
 obtain⟨n,rfl⟩:=eF h0;have YC:n<row.length:=by omega
 refine vf ?_;rw[dF,cZ YC];simp[BJ,YC]
def Qw:Fq P w K mg base 3 a.bm Pv:=by
 refine fq G.bm.toDG tI (λr u=>⟨_,(pC (pR 3 tI (pQ U1 (pO (qO G) r G.i (rB v0 pF (pY qH rfl G.g qG (qr U1))))))
 (pC (pR 4 tI (pO (qO G) r G.i (rB v0 pF (pY qH rfl G.g qG (qr U2)))))
 (pC (pR 5 tI (pQ U2 v4))
 (pC (pR 6 tI (pQ U2 (qc (qc (qc v4 pF) (pO (qO G) r G.i (rB v0 pF (qc (pY qH rfl G.g qG (qr U2)) pF)))) (pY qH rfl G.g qG (qr U2)))))
 (pC (pR 7 tI (pO (qO G) r G.i (rB v0 pF pF)))
 (pC (pV (pM u v7 pF)
 (pE (pJ (pS (rB pG U3 (pO (yl G) r G.P (rB U2 v0 pF))))))
 pP)
 (pC (pV (pM u v7 pF)
 (pE (pJ (pS (rB pG v5 (pO (yl G) r G.P (rB U1 v0 pF))))))
 pP)
 (pC (pV (pM u v7 pF)
 (pE (pJ (pS (rB pG v5 v6))))
 pP)
 (pC (pV (pM u v7 pF)
 (pC (pR 8 tI (pO (qO G) r G.i (rB v0 pF pF)))
 (pE (pJ (pS (qg pG (qg v5 (rB v6 v8 (qc (qc (qc v8 pF) (pO (qO G) r G.i (rB v0 pF pF))) pF))))))))
 pP)
 (pC (pV (pM u v7 pF)
 (pE (pJ (pS (rB pG v5 v6))))
 pP)
 (pC (pV (pM u v7 pF)
 (pE (pJ (pS (qg pG (rB v5 v6 (pQ (pS (qg pF (qg pF (rB pF pF pF)))) (pO (qO G) r G.i (rB v0 pF pF))))))))
 pP)
 (pC (pV (pM u v7 pF)
 (pE (pJ (pS (so pG U3))))
 pP)
 (pE (pJ (pS (so pG U3)))))))))))))))),?_⟩)
 rintro ds M Q ⟨c,o,n,own,all,rfl,ho,hn,Xm,h2,l1,l2,q⟩
 have W9:0<own.length:=fF.mpr Xm;have hne2:all≠[]:=λz=>by rw[z]at h2;simp at h2
 have e1:((own.map D.str).length:Int)=own.length:=by rw[cX]
 have e2:((all.map D.str).length:Int)=all.length:=by rw[cX]
 have p1:(0:Int)<own.length:=by omega
 have p2:(0:Int)<all.length:=by omega
 have p3:(0:Int)<(all.length:Int) - 1:=by omega
 refine i' ho ⟨c,_,_,rfl,by rw[e1];exact p1,?_⟩;rw[e1];refine i' ho (i' (Ir (rb p1) (qQ p1)) ?_);refine i' hn ⟨c,_,_,rfl,by rw[e2];exact p2,?_⟩;rw[e2];refine i' hn (i' (Ir (rb p2) (qQ p2)) ?_);refine i' hn ⟨c,_,_,rfl,by rw[e2];exact p3,?_⟩;rw[e2];refine i' hn ⟨by rw[e2];exact p2,?_⟩;rw[e2];refine i' hn (i' (Iw hne2 _) ?_);refine⟨c,_,_,rfl,by decide,?_⟩;have W7:∀t:List D,(wk c own all).told=t->∃W8,qz W8 M/\Q (.tup t) W8:=λt e=>⟨M,.refl,e ▸ q⟩;have k0:0<=draw c 1226874159 12:=rb (by decide);refine qM (λh=>?_) (λh=>?_)
 .have h:draw c 1226874159 12=0:=by simpa using h
  refine⟨n,c,3,all,rfl,hn,hne2,by decide,l2,pA rfl,W7 _ ?_⟩;simp only[wk,dh h,Wi.told]
 have h:¬draw c 1226874159 12=0:=by simpa using h
 refine qM (λg=>?_) (λg=>?_)
 .have g:draw c 1226874159 12=1:=by simpa using g
  refine⟨o,c,3,own,rfl,ho,Xm,by decide,l1,pA rfl,W7 _ ?_⟩;simp only[wk,df h,dh g,Wi.told]
 have g:¬draw c 1226874159 12=1:=by simpa using g
 refine qM (λi=>?_) (λi=>?_)
 .have i:draw c 1226874159 12=2:=by simpa using i
  refine⟨pA rfl,W7 _ ?_⟩;simp only[wk,df h,df g,dh i,Wi.told]
 have i:¬draw c 1226874159 12=2:=by simpa using i
 refine qM (λj=>?_) (λj=>?_)
 .have j:draw c 1226874159 12<5:=fR j;refine⟨c,_,_,rfl,by decide,c,_,_,rfl,by decide,by decide,pA rfl,W7 _ ?_⟩;simp only[wk,df h,df g,df i,dh j,Wi.told]
 have j:¬draw c 1226874159 12<5:=λz=>j (dZ z);refine qM (λl=>?_) (λl=>?_)
 .have l:draw c 1226874159 12<7:=fR l;refine⟨pA rfl,W7 _ ?_⟩;simp only[wk,df h,df g,df i,df j,dh l,Wi.told]
 have l:¬draw c 1226874159 12<7:=λz=>l (dZ z);refine qM (λm=>?_) (λm=>?_)
 .have m:draw c 1226874159 12<9:=fR m;have d0:0<=draw c 950706376 5:=rb (by decide);have d1:draw c 950706376 5<5:=qQ (by decide);have e:wC [D.int 1,.int 1,.int 2,.int 3,.int 9] (draw c 950706376 5)=some (D.int ([1,1,2,3,9].getD (draw c 950706376 5).toNat 0)):=by
   obtain⟨t,ht⟩:=eF d0;rw[ht]at d1 ⊢;have:t<5:=by omega
   match t,this with
   | 0,_=>rfl
   | 1,_=>rfl
   | 2,_=>rfl
   | 3,_=>rfl
   | 4,_=>rfl
  refine⟨pA rfl,c,_,_,rfl,by decide,i' e ⟨pA rfl,W7 _ ?_⟩⟩;simp only[wk,df h,df g,df i,df j,df l,dh m,Wi.told]
 have m:¬draw c 1226874159 12<9:=λz=>m (dZ z);refine qM (λr=>?_) (λr=>?_)
 .have r:draw c 1226874159 12=9:=by simpa using r
  refine⟨pA rfl,W7 _ ?_⟩;simp only[wk,df h,df g,df i,df j,df l,df m,dh r,Wi.told]
 have r:¬draw c 1226874159 12=9:=by simpa using r
 refine⟨pA rfl,W7 _ ?_⟩;simp only[wk,df h,df g,df i,df j,df l,df m,df r,Wi.told]
def LP(K:qw):rC:=λds M Q=>CT λp d C=>ds=[.ref p,d]/\M p=some (.ins C [])/\uj K C "form"/\Q .mW (pL M p (.ins C [("form",d)]))
def Nc(K:qw):rC:=λds M Q=>Ha λp t x y C=>ds=[.ref p,.tup t]/\wC t 1=some x/\wC t 2=some y/\M p=some (.ins C [])/\uj K C "form"/\uj K C "target"/\uj K C "goal"/\Q .mW (pL M p (.ins C [("form",.tup t),("target",x),("goal",y)]))
def ye(a:Ad)(k:Wi->Prop):rC:=λds M Q=>AC λp v=>ds=[.ref p,.tup (Wi.told v)]/\k v/\M p=some (.ins (v.cls a) [])/\Q .mW (pL M p (.ins (v.cls a) v.nR))
def xw:Fq P w K mg base 1 a.F (LP K):=by
 refine fq G.F.toDG Fw (λr u=>⟨_,(pE (qk v0 U1)),?_⟩)
 rintro ds M Q ⟨p,d,C,rfl,hp,na,q⟩
 exact pD hp ⟨na,by decide,_,.refl,q⟩
def zy:Fq P w K mg base 2 a.B (Nc K):=by
 refine fq G.B.toDG AN (λr u=>⟨_,(pC (pU (yL G.aK (xw G) r G.C G.F.toDG (so v0 U1)))
 (pC (qk v0 (pQ U1 pF))
 (pE (qk v0 (pQ U1 pF))))),?_⟩)
 rintro ds M Q ⟨p,t,x,y,C,rfl,e1,e2,hp,n1,n2,n3,q⟩
 refine⟨p,_,C,rfl,hp,n1,i' e1 (pD pX ⟨n2,by show 1<1000;decide,?_⟩)⟩;refine i' e2 (pD pX ⟨n3,by show 2<1000;decide,_,?_,q⟩);rw[rT,rT];exact .refl
def SE:Fq P w K mg base 2 a.ai (ye a λv=>∃x ns,v=.bar x ns):=by
 refine fq G.ai.toDG GW (λr u=>⟨_,(pC (pU (yL G.aK (xw G) r G.C G.F.toDG (so v0 U1)))
 (pC (qk v0 (pQ U1 pF))
 (pE (qk v0 (pQ U1 pF))))),?_⟩)
 rintro ds M Q ⟨p,v,rfl,⟨x,ns,rfl⟩,hp,q⟩
 refine⟨p,_,_,rfl,hp,(G.bP "form" rfl),pD pX ⟨(G.bP "phone" rfl),by show 1<1000;decide,?_⟩⟩;refine pD pX ⟨(G.bP "targets" rfl),by show 2<1000;decide,_,?_,q⟩;rw[rT,rT];exact .refl
def PN:Fq P w K mg base 2 a.aj (ye a λv=>∃x ns,v=.shut x ns):=by
 refine fq G.aj.toDG Fo (λr u=>⟨_,(pC (pU (yL G.aK (xw G) r G.C G.F.toDG (so v0 U1)))
 (pC (qk v0 (pQ U1 pF))
 (pE (qk v0 (pQ U1 pF))))),?_⟩)
 rintro ds M Q ⟨p,v,rfl,⟨x,ns,rfl⟩,hp,q⟩
 refine⟨p,_,_,rfl,hp,(G.bQ "form" rfl),pD pX ⟨(G.bQ "target" rfl),by show 1<1000;decide,?_⟩⟩;refine pD pX ⟨(G.bQ "callers" rfl),by show 2<1000;decide,_,?_,q⟩;rw[rT,rT];exact .refl
def MT:Fq P w K mg base 3 a.ak (ye a λv=>∃x y f l,v=.night x y f l):=by
 refine fq G.ak.toDG Do (λr u=>⟨_,(pC (pU (yL G.bX (zy G) r G.X G.B.toDG (so v0 U1)))
 (pC (qk v0 (pQ U1 pF))
 (pE (qk v0 (pQ U1 pF))))),?_⟩)
 rintro ds M Q ⟨p,v,rfl,⟨x,y,f,l,rfl⟩,hp,q⟩
 refine⟨p,_,_,_,_,rfl,rfl,rfl,hp,(G.aL "form" rfl),(G.aL "target" rfl),(G.aL "goal" rfl),pD pX ⟨(G.aL "first" rfl),by show 3<1000;decide,?_⟩⟩;refine pD pX ⟨(G.aL "last" rfl),by show 4<1000;decide,_,?_,q⟩;rw[rT,rT];exact .refl
def Ko:Fq P w K mg base 3 a.al (ye a λv=>∃x y n,v=.silent x y n):=by
 refine fq G.al.toDG CC (λr u=>⟨_,(pC (pU (yL G.bX (zy G) r G.X G.B.toDG (so v0 U1)))
 (pE (qk v0 (pQ U1 pF)))),?_⟩)
 rintro ds M Q ⟨p,v,rfl,⟨x,y,n,rfl⟩,hp,q⟩
 refine⟨p,_,_,_,_,rfl,rfl,rfl,hp,(G.bO "form" rfl),(G.bO "target" rfl),(G.bO "goal" rfl),pD pX ⟨(G.bO "turns" rfl),by show 3<1000;decide,_,?_,q⟩⟩;rw[rT];exact .refl
def P7:Fq P w K mg base 2 a.am (ye a λv=>∃x,v=.wait x):=by
 refine fq G.am.toDG ER (λr u=>⟨_,(pC (pU (yL G.aK (xw G) r G.C G.F.toDG (so v0 U1)))
 (pE (qk v0 (pQ U1 pF)))),?_⟩)
 rintro ds M Q ⟨p,v,rfl,⟨x,rfl⟩,hp,q⟩
 refine⟨p,_,_,rfl,hp,(G.bY "form" rfl),pD pX ⟨(G.bY "phone" rfl),by show 1<1000;decide,_,?_,q⟩⟩;rw[rT];exact .refl
def Kn:Fq P w K mg base 2 a.an (ye a λv=>∃x,v=.breaks x):=by
 refine fq G.an.toDG CK (λr u=>⟨_,(pC (pU (yL G.aK (xw G) r G.C G.F.toDG (so v0 U1)))
 (pE (qk v0 (pQ U1 pF)))),?_⟩)
 rintro ds M Q ⟨p,v,rfl,⟨x,rfl⟩,hp,q⟩
 refine⟨p,_,_,rfl,hp,(G.bZ "form" rfl),pD pX ⟨(G.bZ "phone" rfl),by show 1<1000;decide,_,?_,q⟩⟩;rw[rT];exact .refl
def Hd(a:Ad):rC:=λds M Q=>∃v:Wi,ds=[.tup v.told]/\∀p,M p=none->Q (.ref p) (pL M p (.ins (v.cls a) v.nR))
def IY(a:Ad):rC:=λds M Q=>AC λp (v:Wi)=>ds=[.ref p]/\M p=some (.ins (v.cls a) v.nR)/\Q (.tup v.told) M
def Hj:rC:=λds M Q=>∃p,ds=[.ref p]/\Q (.tup [.str "end"]) M
def MV:rC:=λds M Q=>∃p,ds=[.ref p]/\Q (.tup [.str "break"]) M
def QP:rC:=λds M Q=>BU λp C fs y=>ds=[.ref p]/\M p=some (.ins C fs)/\fs.lookup ("goal":Str)=some y/\Q (.tup [.str "to",y]) M
def QY:rC:=λds M Q=>BU λp C fs y=>ds=[.ref p]/\M p=some (.ins C fs)/\fs.lookup ("phone":Str)=some y/\Q (.tup [.str "wait",y]) M
def MK(a:Ad):Addr->rC->Prop:=λC sp=>(∃v:Wi,C=v.cls a)/\sp=IY a
def Jd(a:Ad):Addr->rC->Prop:=λC sp=>((C=a.t\/C=a.u)/\sp=Hj)\/((C=a.x\/C=a.o\/C=a.y\/C=a.v)/\sp=QP)\/(C=a.w/\sp=QY)\/(C=a.q/\sp=MV)
def HY:Fq P w K mg base 5 a.bd (Hd a):=by
 refine fq G.bd.toDG Cd (λr u=>⟨_,(pC (pR 1 Cd (pQ v0 pF))
 (pC (pV (pM u U1 pG)
 (pE (pJ (vq (SE G) r G.t G.ca G.ai.toDG (qr v0))))
 pP)
 (pC (pV (pM u U1 pG)
 (pE (pJ (vq (PN G) r G.u G.cb G.aj.toDG (qr v0))))
 pP)
 (pC (pV (pM u U1 pG)
 (pE (pJ (vq (zy G) r G.x G.cc G.B.toDG (qr v0))))
 pP)
 (pC (pV (pM u U1 pG)
 (pE (pJ (vq (MT G) r G.o G.cd G.ak.toDG (qr v0))))
 pP)
 (pC (pV (pM u U1 pG)
 (pE (pJ (vq (zy G) r G.y G.ce G.B.toDG (qr v0))))
 pP)
 (pC (pV (pM u U1 pG)
 (pE (pJ (vq (Ko G) r G.v G.cf G.al.toDG (qr v0))))
 pP)
 (pC (pV (pM u U1 pG)
 (pE (pJ (vq (P7 G) r G.w G.cg G.am.toDG (qr v0))))
 pP)
 (pC (pV (pM u U1 pG)
 (pE (pJ (vq (Kn G) r G.q G.ch G.an.toDG (qr v0))))
 pP)
 (pE Gw)))))))))),?_⟩)
 rintro ds M Q ⟨v,rfl,q⟩
 have W7:∀(x:Addr) (c0 c1:uT) (C:Addr) (fs:List (Str×D)),M x=none->Q (.ref x) (pL M x c1)->∃W8,qz W8 (pL (pL M x c0) x c1)/\Q (.ref x) W8:=λx c0 c1 C fs hx q=>⟨_,by rw[rT];exact .refl,q⟩;cases v with
 | bar x ns=>exact λp hp=>⟨p,.bar x ns,rfl,⟨_,_,rfl⟩,pX,rfl,W7 p _ _ 0 [] hp (q p hp)⟩
 | shut x ns=>exact λp hp=>⟨p,.shut x ns,rfl,⟨_,_,rfl⟩,pX,rfl,W7 p _ _ 0 [] hp (q p hp)⟩
 | always x y=>exact λp hp=>⟨p,_,_,_,_,rfl,rfl,rfl,pX,(G.bR "form" rfl),(G.bR "target" rfl),(G.bR "goal" rfl),rfl,W7 p _ _ 0 [] hp (q p hp)⟩
 | night x y f l=>exact λp hp=>⟨p,.night x y f l,rfl,⟨_,_,_,_,rfl⟩,pX,rfl,W7 p _ _ 0 [] hp (q p hp)⟩
 | busy x y=>exact λp hp=>⟨p,_,_,_,_,rfl,rfl,rfl,pX,(G.bS "form" rfl),(G.bS "target" rfl),(G.bS "goal" rfl),rfl,W7 p _ _ 0 [] hp (q p hp)⟩
 | silent x y n=>exact λp hp=>⟨p,.silent x y n,rfl,⟨_,_,_,rfl⟩,pX,rfl,W7 p _ _ 0 [] hp (q p hp)⟩
 | wait x=>exact λp hp=>⟨p,.wait x,rfl,⟨_,rfl⟩,pX,rfl,W7 p _ _ 0 [] hp (q p hp)⟩
 | breaks x=>exact λp hp=>⟨p,.breaks x,rfl,⟨_,rfl⟩,pX,rfl,W7 p _ _ 0 [] hp (q p hp)⟩
def Pp:Fq P w K mg base 1 a.m (IY a):=by
 refine fq G.m.toDG EG (λr u=>⟨_,(pE (pJ (pH v0))),?_⟩)
 rintro ds M Q ⟨p,v,rfl,hp,q⟩
 exact pD hp (i' rfl ⟨M,.refl,q⟩)
def PU:Fq P w K mg base 1 a.av Hj:=by
 refine fq G.av.toDG Fs (λr u=>⟨_,(pE (pJ (pS (qr pG)))),?_⟩)
 rintro ds M Q ⟨p,rfl,q⟩
 exact⟨pA rfl,M,.refl,q⟩
def Mz:Fq P w K mg base 1 a.aw Hj:=by
 refine fq G.aw.toDG Dl (λr u=>⟨_,(pE (pJ (pS (qr pG)))),?_⟩)
 rintro ds M Q ⟨p,rfl,q⟩
 exact⟨pA rfl,M,.refl,q⟩
def vQ:Fq P w K mg base 1 a.A QP:=by
 refine fq G.A.toDG Ae (λr u=>⟨_,(pE (pJ (pS (so pG (pH v0))))),?_⟩)
 rintro ds M Q ⟨p,C,fs,y,rfl,hp,e,q⟩
 exact pD hp (i' e ⟨pA rfl,M,.refl,q⟩)
def L8:Fq P w K mg base 1 a.ax QY:=by
 refine fq G.ax.toDG Dk (λr u=>⟨_,(pE (pJ (pS (so pG (pH v0))))),?_⟩)
 rintro ds M Q ⟨p,C,fs,y,rfl,hp,e,q⟩
 exact pD hp (i' e ⟨pA rfl,M,.refl,q⟩)
def Hm:Fq P w K mg base 1 a.ay MV:=by
 refine fq G.ay.toDG AK (λr u=>⟨_,(pE (pJ (pS (qr pG)))),?_⟩)
 rintro ds M Q ⟨p,rfl,q⟩
 exact⟨pA rfl,M,.refl,q⟩
def RB:∀C sp,MK a C sp->xM P w K mg base 1 "told" C (NQ K sp):=by
 rintro C sp ⟨⟨v,rfl⟩,rfl⟩
 have F:=Pp (P:=P) (w:=w) (base:=base) G;cases v with
 | bar _ _=>exact⟨G.t.toCls,_,_,_,G.cq,F,G.m.b⟩
 | shut _ _=>exact⟨G.u.toCls,_,_,_,G.cr,F,G.m.b⟩
 | always _ _=>exact⟨G.x.toCls,_,_,_,G.cs,F,G.m.b⟩
 | night _ _ _ _=>exact⟨G.o.toCls,_,_,_,G.ct,F,G.m.b⟩
 | busy _ _=>exact⟨G.y.toCls,_,_,_,G.cu,F,G.m.b⟩
 | silent _ _ _=>exact⟨G.v.toCls,_,_,_,G.cv,F,G.m.b⟩
 | wait _=>exact⟨G.w.toCls,_,_,_,G.cw,F,G.m.b⟩
 | breaks _=>exact⟨G.q.toCls,_,_,_,G.cx,F,G.m.b⟩
def Oh:∀C sp,Jd a C sp->xM P w K mg base 1 "wants" C (NQ K sp):=by
 rintro C sp (⟨rfl|rfl,rfl⟩|⟨rfl|rfl|rfl|rfl,rfl⟩|⟨rfl,rfl⟩|⟨rfl,rfl⟩)
 .exact⟨G.t.toCls,_,_,_,G.av.nF,PU G,G.av.b⟩
 .exact⟨G.u.toCls,_,_,_,G.aw.nF,Mz G,G.aw.b⟩
 .exact⟨G.x.toCls,_,_,_,G.cy,vQ G,G.A.b⟩
 .exact⟨G.o.toCls,_,_,_,G.cz,vQ G,G.A.b⟩
 .exact⟨G.y.toCls,_,_,_,G.cA,vQ G,G.A.b⟩
 .exact⟨G.v.toCls,_,_,_,G.cB,vQ G,G.A.b⟩
 .exact⟨G.w.toCls,_,_,_,G.ax.nF,L8 G,G.ax.b⟩
 .exact⟨G.q.toCls,_,_,_,G.ay.nF,Hm G,G.ay.b⟩
noncomputable def uo(x:Str):Bool:=decide ((1:Int)<=x.length)&&(decide ((x.length:Int)<=6)&&x.cps.toList.all λc=>C5 ⟨#[c]⟩ uy)
def Im:rC:=λds M Q=>∃x:Str,ds=[.str x]/\x.length<=1000/\Q (.bl (uo x)) M
def IL:rC:=λds M Q=>∃w,ds=[.bl true,w]/\Q .mW M
noncomputable def wF(ss:QQQ):Bool:=((sV ss).length:Int)==(ss.length:Int)
def SO(M:Mp)(x:D)(ss:QQQ):Prop:=x=.tup (ss.map D.str)\/∃a,x=.ref a/\pf M a=some (ss.map D.str)
def Ka:rC:=λds M Q=>AC λx ss=>ds=[x]/\SO M x ss/\ss.length<4000/\Q (.bl (wF ss)) M
def y8{α:Type}(f:α->Bool)(l:List α):(l.map f).all id=l.all f:=by rw[iV];rfl
def sI(x:Str)(ss:QQQ):inD (.str x) (ss.map D.str)=ss.any (·==x):=by unfold inD;rw[jV];rfl
theorem qA:∀ss:QQQ,(ss.map D.str).all uZ=true
 | []=>rfl
 | _::r=>by rw[dY,e9,qA r];rfl
noncomputable def sJ(cs ks:QQQ)(m:Int):Bool:=decide ((1:Int)<=cs.length)&&(decide ((cs.length:Int)<=m)&&(wF cs&&cs.all λc=>ks.any (·==c)))
def JM:rC:=λds M Q=>BU λcs ks k m=>ds=[.tup (cs.map D.str),.ref k,.int m]/\pf M k=some (ks.map D.str)/\cs.length<4000/\Q (.bl (sJ cs ks m)) M
def Ck:Fq P w K mg base 1 a.ac Im:=by
 refine fq G.ac.toDG Ig (λr u=>⟨_,(pE (pJ (tE (uz u pF (pY qH rfl G.g qG (qr v0)) (sO rfl G.cS)) (sU (pY (BK rfl) rfl G.aM Cf (qr (qK rfl (xt (ix:=[none]) (N':=["sign"])) (qI v0) (qJ 0) rN (qv u v0 (sO rfl G.cT))))))))),?_⟩)
 rintro ds M Q ⟨x,rfl,hl,q⟩
 have hz:=dN;refine⟨by omega,qM (λh1=>?_) (λh1=>?_)⟩
 .refine qM (λh2=>?_) (λh2=>?_)
  .refine qV (f:=λd=>match d with|.str z=>D.bl (C5 z uy)|_=>.mW) trivial _ [] _ ?_ (λd hd k hk=>?_) λp hp=>?_
   .rw[cX];have:x.cps.toList.length=x.length:=by simp[Str.length]
    simp only[dM];omega
   .obtain⟨c,_,rfl⟩:=dE.mp hd;exact hk
   .refine i' pK ?_;have e:([]++(x.cps.toList.map λc=>D.str ⟨#[c]⟩).map λd=>match d with|.str z=>D.bl (C5 z uy)|_=>.mW)=x.cps.toList.map λc=>D.bl (C5 ⟨#[c]⟩ uy):=by rw[d6,eA];rfl
    rw[e];refine i' (wI (λc=>C5 ⟨#[c]⟩ uy) x.cps.toList) ⟨M,.new hp,?_⟩;rw[y8];have:uo x=x.cps.toList.all λc=>C5 ⟨#[c]⟩ uy:=by unfold uo;rw[h1,h2];rfl
    rw[<-this];exact q
  .refine⟨M,.refl,?_⟩;have:uo x=false:=by
    unfold uo;have h2:decide ((x.length:Int)<=6)=false:=by simpa using h2
    rw[h2];simp
   rw[<-this];exact q
 .refine⟨M,.refl,?_⟩;have:uo x=false:=by
   unfold uo;have h1:decide ((1:Int)<=x.length)=false:=by simpa using h1
   rw[h1];rfl
  rw[<-this];exact q
def sT:Fq P w K mg base 1 a.n IL:=by
 refine fq G.n.toDG OP (λr u=>⟨_,(pE (pV (wU (uR v0))
 (pE Gw)
 pP)),?_⟩)
 rintro ds M Q ⟨x,rfl,q⟩
 exact⟨M,.refl,q⟩
def DH:Fq P w K mg base 1 a.ad Ka:=by
 refine fq G.ad.toDG Dq (λr u=>⟨_,(pE (pJ (qv u (JU rfl v0 rfl G.g rfl G.cI qG Ra) (pY qH rfl G.g qG (qr v0))))),?_⟩)
 rintro ds M Q ⟨x,ss,rfl,hx,hl,q⟩
 have key:((ss.map D.str).length:Int)=ss.length:=by rw[cX]
 rcases hx with rfl|⟨b,rfl,hb⟩
 .refine i' (L3.BN ss) ⟨hl,M,.refl,?_⟩;rw[key];exact q
 .refine i' hb (i' (L3.BN ss) ⟨hl,i' hb ⟨M,.refl,?_⟩⟩);rw[key];exact q
def Ab:Fq P w K mg base 2 a.N JM:=by
 refine fq G.N.toDG Fc (λr u=>⟨_,(pE (pJ (tE (uz u pF (pY qH rfl G.g qG (qr v0)) U2) (tE (pO (DH G) r G.ad (qr v0)) (sU (pY (BK rfl) rfl G.aM Cf (qr (qK rfl (xt (ix:=[none,some 1]) (N':=["name","known"])) (qI v0) (qJ 0) rN (qv u v0 U1))))))))),?_⟩)
 rintro ds M Q ⟨cs,ks,k,m,rfl,hk,hl,q⟩
 have hz:=dN;have key:((cs.map D.str).length:Int)=cs.length:=by rw[cX]
 have end_:∀b:Bool,sJ cs ks m=b->∃W8,qz W8 M/\Q (.bl b) W8:=λb e=>⟨M,.refl,e ▸ q⟩;refine qM (λh1=>?_) (λh1=>?_)
 .have h1:decide ((1:Int)<=cs.length)=true:=by rw[<-key];exact h1
  refine qM (λh2=>?_) (λh2=>?_)
  .have h2:decide ((cs.length:Int)<=m)=true:=by rw[<-key];exact h2
   refine⟨_,cs,rfl,.inl rfl,hl,qM (λh3=>?_) (λh3=>?_)⟩
   .refine qV (f:=λd=>match d with|.str z=>D.bl (ks.any (·==z))|_=>.mW) trivial _ [] _ ?_ (λd hd k0 hk0=>?_) λp hp=>?_
    .rw[cX];simp only[dM];omega
    .obtain⟨c,_,rfl⟩:=dE.mp hd;refine i' hk ⟨rfl,qA ks,?_⟩;show k0 (.bl (inD (.str c) (ks.map D.str))) M;rw[sI];exact hk0
    .refine i' pK ?_;have e:([]++(cs.map D.str).map λd=>match d with|.str z=>D.bl (ks.any (·==z))|_=>.mW)=cs.map λc=>D.bl (ks.any (·==c)):=by rw[d6,eA];rfl
     rw[e];refine i' (wI (λc=>ks.any (·==c)) cs) ⟨M,.new hp,?_⟩;rw[y8];have:sJ cs ks m=cs.all λc=>ks.any (·==c):=by unfold sJ;rw[h1,h2,h3];rfl
     rw[<-this];exact q
   .refine end_ _ ?_;unfold sJ;have h3:wF cs=false:=by simpa using h3
    rw[h3];simp
  .refine end_ _ ?_;unfold sJ;have h2:decide ((cs.length:Int)<=m)=false:=by
    rw[<-key]
    simpa using h2
   rw[h2];simp
 .refine end_ _ ?_;unfold sJ;have h1:decide ((1:Int)<=cs.length)=false:=by
   rw[<-key]
   simpa using h1
  rw[h1];rfl
abbrev uJ:=Str×Int×Int
abbrev uq:=Str×Str×QQQ
abbrev vo:=Bool×Wi
noncomputable def rf(p:uJ):D:=.tup [.str p.1,.int p.2.1,.int p.2.2]
noncomputable def rq(g:uq):D:=.tup [.str g.1,.str g.2.1,names g.2.2]
noncomputable def xj(w:vo):D:=.tup [.bl w.1,.tup w.2.told]
structure FS(p:uJ):Prop where
 len:p.1.length<=1000
 nm:uo p.1=true
 l1:1<=p.2.1
 l2:p.2.1<=3
 r1:0<=p.2.2
 r2:p.2.2<=9
structure FB(pn:QQQ)(g:uq):Prop where
 len:g.1.length<=1000
 nm:uo g.1=true
 man:g.2.1="all"\/g.2.1="turns"
 pA:g.2.2.length<4000
 mem:sJ g.2.2 pn 4=true
def xx(ss:QQQ)(x:Str):Prop:=ss.any (·==x)=true
def Co(pn nm:QQQ):Wi->Prop
 | .bar x ns=>xx pn x/\ns.length<4000/\sJ ns nm 6=true
 | .shut x ns=>xx nm x/\ns.length<4000/\sJ ns pn 6=true
 | .always x y=>xx nm x/\xx nm y/\x≠y
 | .night x y f l=>xx nm x/\xx nm y/\x≠y/\(0<=f/\f<=23)/\(0<=l/\l<=23)/\f≠l
 | .busy x y=>xx nm x/\xx nm y/\x≠y
 | .silent x y n=>xx nm x/\xx nm y/\x≠y/\1<=n/\n<=9
 | .wait x=>xx pn x
 | .breaks x=>xx pn x
inductive xW(pn nm:QQQ):Str->D->Prop
 | nz (x:Str) (h:xx pn x):xW pn nm "phone" (.str x)
 | name (x:Str) (h:xx nm x):xW pn nm "name" (.str x)
 | mT (cs:QQQ) (l:cs.length<4000) (h:sJ cs pn 6=true):xW pn nm "phones" (names cs)
 | names (cs:QQQ) (l:cs.length<4000) (h:sJ cs nm 6=true):xW pn nm "names" (names cs)
 | hour (i:Int) (h0:0<=i) (h1:i<=23):xW pn nm "hour" (.int i)
 | turns (i:Int) (h0:1<=i) (h1:i<=9):xW pn nm "turns" (.int i)
def Jp:rC:=λds M Q=>Kt λk d pl nl (pn nm:QQQ)=>ds=[.str k,d,.ref pl,.ref nl]/\pf M pl=some (pn.map D.str)/\pf M nl=some (nm.map D.str)/\xW pn nm k d/\Q (.bl true) M
def A6:rC:=λds M Q=>AC λr (ps:List uJ)=>ds=[.ref r]/\pf M r=some (ps.map rf)/\1<=ps.length/\ps.length<=8/\(∀p∈ps,FS p)/\Q .mW M
def AL:rC:=λds M Q=>BU λr (gs:List uq) pl (pn:QQQ)=>ds=[.ref r,.ref pl]/\pf M r=some (gs.map rq)/\pf M pl=some (pn.map D.str)/\gs.length<=3/\(∀g∈gs,FB pn g)/\Q .mW M
def De:rC:=λds M Q=>Ha λv pl nl (pn nm:QQQ)=>ds=[.tup (Wi.told v),.ref pl,.ref nl]/\pf M pl=some (pn.map D.str)/\pf M nl=some (nm.map D.str)/\Co pn nm v/\Q .mW M
def A0:rC:=λds M Q=>Kt λr (ws:List vo) pl nl (pn nm:QQQ)=>ds=[.ref r,.ref pl,.ref nl]/\pf M r=some (ws.map xj)/\pf M pl=some (pn.map D.str)/\pf M nl=some (nm.map D.str)/\ws.length<=16/\(∀w∈ws,Co pn nm w.2)/\Q .mW M
def WL{ss:QQQ}{x:Str}(h:xx ss x):inD (.str x) (ss.map D.str)=true:=by rw[sI];exact h
def Of:Fq P w K mg base 3 a.bg Jp:=by
 refine fq G.bg.toDG Dh (λr u=>⟨_,(pC (pV (pM u v0 pG)
 (pE (pJ (qv u U1 U2)))
 pP)
 (pC (pV (pM u v0 pG)
 (pE (pJ (qv u U1 U3)))
 pP)
 (pC (pV (pM u v0 pG)
 (pE (pJ (pO (Ab G) r G.N (rB U1 U2 (sO rfl G.b2)))))
 pP)
 (pC (pV (pM u v0 pG)
 (pE (pJ (pO (Ab G) r G.N (rB U1 U3 (sO rfl G.b2)))))
 pP)
 (pC (pV (pM u v0 pG)
 (pE (pJ (uz u pF U1 (sO rfl G.cU))))
 pP)
 (pE (pJ (uz u pF U1 (sO rfl G.cV))))))))),?_⟩)
 rintro ds M Q ⟨k,d,pl,nl,pn,nm,rfl,hp,hn,ok,q⟩
 cases ok with
 | nz x h=>refine i' hp ⟨rfl,qA pn,M,.refl,?_⟩;show Q (.bl (inD (.str x) (pn.map D.str))) M;rw[WL h];exact q
 | name x h=>refine i' hn ⟨rfl,qA nm,M,.refl,?_⟩;show Q (.bl (inD (.str x) (nm.map D.str))) M;rw[WL h];exact q
 | mT cs l h=>exact⟨cs,pn,pl,6,rfl,hp,l,M,.refl,by rw[h];exact q⟩
 | names cs l h=>exact⟨cs,nm,nl,6,rfl,hn,l,M,.refl,by rw[h];exact q⟩
 | hour i h0 h1=>refine Bd (c:=decide (0<=i)) (dZ h0) ⟨M,.refl,?_⟩;show Q (.bl (decide (i<=23))) M;rw[dZ h1];exact q
 | turns i h0 h1=>refine Bd (c:=decide (1<=i)) (dZ h0) ⟨M,.refl,?_⟩;show Q (.bl (decide (i<=9))) M;rw[dZ h1];exact q
def Ba:Fq P w K mg base 2 a.be A6:=by
 refine fq G.be.toDG ug (λr u=>⟨_,(pC (pU (pO (sT G) r G.n (so (uz u pF (pY qH rfl G.g qG (qr v0)) (sO rfl G.cL)) pG)))
 (pE (uN fm rfl (qI v0) (vi (n:=3) rfl (qF (rL 1 ug) (qF (rL 2 ug) (qF (rL 3 ug) ub))))
 (pC (pU (pO (sT G) r G.n (so (pO (Ck G) r G.ac (qr U1)) pG)))
 (pC (pU (pO (sT G) r G.n (so (uz u pF U2 (sO rfl G.cM)) pG)))
 (pE (pU (pO (sT G) r G.n (so (uz u pF U3 (sO rfl G.cN)) pG))))))))),?_⟩)
 rintro ds M Q ⟨r,ps,rfl,XO,h1,h8,mZ,q⟩
 have el:((ps.map rf).length:Int)=ps.length:=by rw[cX]
 refine i' XO (Bd (c:=decide ((1:Int)<=(ps.map rf).length)) (dZ (by omega)) ⟨_,by rw[dZ (show((ps.map rf).length:Int)<=8 by omega)],i' XO ?_⟩);refine Bl (λδ M'=>M=M'/\∃x y z,δ=[some (.ref r),x,y,z]) (λδ M' j=>by rw[<-j.1];exact XO) _ _ _ ⟨rfl,none,none,none,rfl⟩ ?_ ?_
 .rintro d hd δ M' ⟨rfl,x,y,z,rfl⟩ nx Xg
  obtain⟨p,hp,rfl⟩:=dE.mp hd;have o:=mZ p hp;refine⟨rfl,⟨p.1,rfl,o.len,_,by rw[o.nm],?_⟩⟩;refine Bd (c:=decide ((1:Int)<=p.2.1)) (dZ o.l1) ⟨_,by rw[dZ (show p.2.1<=3 from o.l2)],?_⟩;refine Bd (c:=decide ((0:Int)<=p.2.2)) (dZ o.r1) ⟨_,by rw[dZ (show p.2.2<=9 from o.r2)],?_⟩;exact Xg _ _ ⟨rfl,_,_,_,rfl⟩
 .rintro δ M' ⟨rfl,x,y,z,rfl⟩
  exact⟨M,.refl,q⟩
def AQ:Fq P w K mg base 3 a.bf AL:=by
 refine fq G.bf.toDG ui (λr u=>⟨_,(pC (pU (pO (sT G) r G.n (so (qv u (pY qH rfl G.g qG (qr v0)) (sO rfl G.cO)) pG)))
 (pE (uN fm rfl (qI v0) (vi (n:=3) rfl (qF (rL 2 ui) (qF (rL 3 ui) (qF (rL 4 ui) ub))))
 (pC (pU (pO (sT G) r G.n (so (pO (Ck G) r G.ac (qr U2)) pG)))
 (pC (pU (pO (sT G) r G.n (so (qv u U3 (sO rfl G.cP)) pG)))
 (pE (pU (pO (sT G) r G.n (so (pO (Ab G) r G.N (rB v4 U1 (sO rfl G.cQ))) pG))))))))),?_⟩)
 rintro ds M Q ⟨r,gs,pl,pn,rfl,XO,hp,h3,mZ,q⟩
 have el:((gs.map rq).length:Int)=gs.length:=by rw[cX]
 refine i' XO ⟨_,by rw[dZ (show((gs.map rq).length:Int)<=3 by omega)],i' XO ?_⟩;refine Bl (λδ M'=>M=M'/\∃x y z,δ=[some (.ref r),some (.ref pl),x,y,z]) (λδ M' j=>by rw[<-j.1];exact XO) _ _ _ ⟨rfl,none,none,none,rfl⟩ ?_ ?_
 .rintro d hd δ M' ⟨rfl,x,y,z,rfl⟩ nx Xg
  obtain⟨g,hg,rfl⟩:=dE.mp hd;have o:=mZ g hg;refine⟨rfl,⟨g.1,rfl,o.len,_,by rw[o.nm],?_⟩⟩;have hm:inD (.str g.2.1) [.str "all",.str "turns"]=true:=by rcases o.man with e|e<;>(rw[e];rfl)
  refine⟨rfl,rfl,.str "a group's manner is all or turns",eV (λb=>[D.bl b,D.str "a group's manner is all or turns"]) hm,?_⟩;refine⟨g.2.2,pn,pl,4,rfl,hp,o.pA,_,by rw[o.mem],?_⟩;exact Xg _ _ ⟨rfl,_,_,_,rfl⟩
 .rintro δ M' ⟨rfl,x,y,z,rfl⟩
  exact⟨M,.refl,q⟩
def Dy:Fq P w K mg base 4 a.bh De:=by
 refine fq G.bh.toDG tY (λr u=>⟨_,(pC (pU (pO (sT G) r G.n (so (LJ G.b1 rfl (pQ v0 pF)) pG)))
 (pC (pR 3 tY (JZ G.b1 rfl (pQ v0 pF)))
 (pC (pR 4 tY (rW v0 (sD pF) sS))
 (pC (pU (pO (sT G) r G.n (so (qv u (pY qH rfl G.g qG (qr v4)) (pY qH rfl G.g qG (qr U3))) pG)))
 (pC (uN fm rfl (Rq rfl G.cJ (so U3 v4)) (vi (n:=2) rfl (qF (rL 5 tY) (qF (rL 6 tY) ub)))
 (pE (pU (pO (sT G) r G.n (so (pO (Of G) r G.bg (qg v5 (rB v6 U1 U2))) pG)))))
 (pC (pV (pM u (rW U3 sS (sD pF)) (pS (so pG pG)))
 (pE (pU (pO (sT G) r G.n (so (qv u (pQ v4 pF) (pQ v4 pF)) pG))))
 pP)
 (pE (pV (pM u (rW U3 (sD pF) sS) (pS (so pG pG)))
 (pE (pU (pO (sT G) r G.n (so (qv u (pQ v4 pF) (pQ v4 pF)) pG))))
 pP)))))))),?_⟩)
 rintro ds M Q ⟨v,pl,nl,pn,nm,rfl,hp,hn,ok,q⟩
 have part:∀{k:Str} {d:D} {C:DK},xW pn nm k d->C (.bl true) M->Jp [.str k,d,.ref pl,.ref nl] M C:=λo c=>⟨_,_,pl,nl,pn,nm,rfl,hp,hn,o,c⟩;have need:∀{x:D} {C:DK},C .mW M->IL [.bl true,x] M C:=λc=>⟨_,rfl,c⟩;have ne:∀{x y:Str},x≠y->(!(x==y))=true:=λh=>by simpa using h
 have nei:∀{x y:Int},x≠y->(!(x==y))=true:=λh=>by simpa using h
 have W7:∃W8,qz W8 M/\Q .mW W8:=⟨M,.refl,q⟩;cases v with
 | bar x ns=>obtain⟨h1,h2,h3⟩:=ok;refine⟨_,rfl,_,rfl,?_⟩;refine⟨rfl,_,_,pl,nl,pn,nm,rfl,hp,hn,.nz x h1,_,rfl,trivial,⟨rfl,_,_,pl,nl,pn,nm,rfl,hp,hn,.names ns h2 h3,_,rfl,trivial,?_⟩⟩;exact⟨pA rfl,pA rfl,W7⟩
 | shut x ns=>obtain⟨h1,h2,h3⟩:=ok;refine⟨_,rfl,_,rfl,?_⟩;refine⟨rfl,_,_,pl,nl,pn,nm,rfl,hp,hn,.name x h1,_,rfl,trivial,⟨rfl,_,_,pl,nl,pn,nm,rfl,hp,hn,.mT ns h2 h3,_,rfl,trivial,?_⟩⟩;exact⟨pA rfl,pA rfl,W7⟩
 | always x y=>obtain⟨h1,h2,h3⟩:=ok;refine⟨_,rfl,_,rfl,?_⟩;refine⟨rfl,_,_,pl,nl,pn,nm,rfl,hp,hn,.name x h1,_,rfl,trivial,⟨rfl,_,_,pl,nl,pn,nm,rfl,hp,hn,.name y h2,_,rfl,trivial,?_⟩⟩;refine⟨pA rfl,⟨_,by rw[ne h3],?_⟩⟩;exact⟨pA rfl,W7⟩
 | night x y f l=>obtain⟨h1,h2,h3,h4,h5,h6⟩:=ok;refine⟨_,rfl,_,rfl,?_⟩;refine⟨rfl,_,_,pl,nl,pn,nm,rfl,hp,hn,.name x h1,_,rfl,trivial,⟨rfl,_,_,pl,nl,pn,nm,rfl,hp,hn,.name y h2,_,rfl,trivial,⟨rfl,_,_,pl,nl,pn,nm,rfl,hp,hn,.hour f h4.1 h4.2,_,rfl,trivial,⟨rfl,_,_,pl,nl,pn,nm,rfl,hp,hn,.hour l h5.1 h5.2,_,rfl,trivial,?_⟩⟩⟩⟩;refine⟨pA rfl,⟨_,by rw[ne h3],?_⟩⟩;refine⟨pA rfl,⟨_,by rw[nei h6],?_⟩⟩;exact W7
 | busy x y=>obtain⟨h1,h2,h3⟩:=ok;refine⟨_,rfl,_,rfl,?_⟩;refine⟨rfl,_,_,pl,nl,pn,nm,rfl,hp,hn,.name x h1,_,rfl,trivial,⟨rfl,_,_,pl,nl,pn,nm,rfl,hp,hn,.name y h2,_,rfl,trivial,?_⟩⟩;refine⟨pA rfl,⟨_,by rw[ne h3],?_⟩⟩;exact⟨pA rfl,W7⟩
 | silent x y n=>obtain⟨h1,h2,h3,h4,h5⟩:=ok;refine⟨_,rfl,_,rfl,?_⟩;refine⟨rfl,_,_,pl,nl,pn,nm,rfl,hp,hn,.name x h1,_,rfl,trivial,⟨rfl,_,_,pl,nl,pn,nm,rfl,hp,hn,.name y h2,_,rfl,trivial,⟨rfl,_,_,pl,nl,pn,nm,rfl,hp,hn,.turns n h4 h5,_,rfl,trivial,?_⟩⟩⟩;refine⟨pA rfl,⟨_,by rw[ne h3],?_⟩⟩;exact⟨pA rfl,W7⟩
 | wait x=>refine⟨_,rfl,_,rfl,?_⟩;refine⟨rfl,_,_,pl,nl,pn,nm,rfl,hp,hn,.nz x ok,_,rfl,trivial,?_⟩;exact⟨pA rfl,pA rfl,W7⟩
 | breaks x=>refine⟨_,rfl,_,rfl,?_⟩;refine⟨rfl,_,_,pl,nl,pn,nm,rfl,hp,hn,.nz x ok,_,rfl,trivial,?_⟩;exact⟨pA rfl,pA rfl,W7⟩
def AO:Fq P w K mg base 5 a.bi A0:=by
 refine fq G.bi.toDG uV (λr u=>⟨_,(pC (pU (pO (sT G) r G.n (so (qv u (pY qH rfl G.g qG (qr v0)) (sO rfl G.cR)) pG)))
 (pE (uN fm rfl (qI v0) (vi (n:=2) rfl (qF (rL 3 uV) (qF (rL 4 uV) ub)))
 (pE (pU (pO (Dy G) r G.bh (rB v4 U1 U2))))))),?_⟩)
 rintro ds M Q ⟨r,ws,pl,nl,pn,nm,rfl,XO,hp,hn,h16,mZ,q⟩
 have el:((ws.map xj).length:Int)=ws.length:=by rw[cX]
 refine i' XO ⟨_,by rw[dZ (show((ws.map xj).length:Int)<=16 by omega)],i' XO ?_⟩;refine Bl (λδ M'=>M=M'/\∃x y,δ=[some (.ref r),some (.ref pl),some (.ref nl),x,y]) (λδ M' j=>by rw[<-j.1];exact XO) _ _ _ ⟨rfl,none,none,rfl⟩ ?_ ?_
 .rintro d hd δ M' ⟨rfl,x,y,rfl⟩ nx Xg
  obtain⟨v,hv,rfl⟩:=dE.mp hd;exact⟨rfl,⟨v.2,pl,nl,pn,nm,rfl,hp,hn,mZ v hv,Xg _ _ ⟨rfl,_,_,rfl⟩⟩⟩
 .rintro δ M' ⟨rfl,x,y,rfl⟩
  exact⟨M,.refl,q⟩
structure pN where
 mT:List uJ
 groups:List uq
 mS:List vo
noncomputable def pN.pn(l:pN):QQQ:=l.mT.map (·.1)
noncomputable def pN.gn(l:pN):QQQ:=l.groups.map (·.1)
noncomputable def pN.nm(l:pN):QQQ:=l.pn++l.gn
structure r6(l:pN):Prop where
 p1:1<=l.mT.length
 p8:l.mT.length<=8
 po:∀p∈l.mT,FS p
 g3:l.groups.length<=3
 go:∀g∈l.groups,FB l.pn g
 nd:l.nm.Nodup
 w16:l.mS.length<=16
 wo:∀w∈l.mS,Co l.pn l.nm w.2
def DD{ss:QQQ}(h:ss.Nodup):wF ss=true:=by unfold wF;rw[Ij ss h];simp
def C7:rC:=λds M Q=>BU λr1 r2 r3 (l:pN)=>ds=[.ref r1,.ref r2,.ref r3]/\pf M r1=some (l.mT.map rf)/\pf M r2=some (l.groups.map rq)/\pf M r3=some (l.mS.map xj)/\r6 l/\Q .mW M
noncomputable def AS:D->D
 | .tup (x::_)=>x
 | _=>.mW
def wM(ps:List uJ):(ps.map rf).map AS=(ps.map (·.1)).map D.str:=by rw[eA,eA];rfl
def wR(ps:List uq):(ps.map rq).map AS=(ps.map (·.1)).map D.str:=by rw[eA,eA];rfl
def Dp:Fq P w K mg base 6 a.bj C7:=by
 refine fq G.bj.toDG vW (λr u=>⟨_,(pC (pU (pO (Ba G) r G.be (qr v0)))
 (pC (uM (i:=3) vW.nd rfl (Or.inl rfl) rfl (xt (ix:=[none]) (N':=["phone"])) (qI v0) (qJ 0) rN (pQ v0 pF))
 (pC (pU (pO (AQ G) r G.bf (so U1 U3)))
 (pC (pR 4 vW (qc U3 (qK rfl (xt (ix:=[none]) (N':=["group"])) (qI U1) (qJ 0) rN (pQ v0 pF))))
 (pC (pU (pO (sT G) r G.n (so (pO (DH G) r G.ad (qr v4)) pG)))
 (pE (pU (pO (AO G) r G.bi (rB U2 U3 v4))))))))),?_⟩)
 rintro ds M Q ⟨r1,r2,r3,l,rfl,h1,h2,h3,ok,q⟩
 have hz:=dN;have l1:=ok.p8;have l2:=ok.g3;refine⟨r1,l.mT,rfl,h1,ok.p1,ok.p8,ok.po,i' h1 ?_⟩;refine qV (f:=AS) h1 _ [] _ (by rw[cX];simp only[dM];omega) (λd hd k hk=>?_) λp hp=>?_
 .obtain⟨x,_,rfl⟩:=dE.mp hd;exact hk
 rw[d6,wM];have s1:=qz.new (c:=.lst ((l.mT.map (·.1)).map D.str)) hp;have lp:pf (pL M p (.lst ((l.mT.map (·.1)).map D.str))) p=some (l.pn.map D.str):=pK;generalize pL M p (.lst ((l.mT.map (·.1)).map D.str))=M1 at s1 lp ⊢;refine⟨r2,l.groups,p,l.pn,rfl,s1.lst h2,lp,ok.g3,ok.go,?_⟩;refine i' (s1.lst h2) (qV (f:=AS) (s1.lst h2) _ [] _ (by rw[cX];simp only[dM];omega) (λd hd k hk=>?_) λp2 Xd=>?_)
 .obtain⟨x,_,rfl⟩:=dE.mp hd;exact hk
 rw[d6,wR];have s2:=qz.new (c:=.lst ((l.groups.map (·.1)).map D.str)) Xd;refine i' (s2.lst lp) (i' pK ⟨?_,λp3 hp3=>?_⟩)
 .rw[cX,cX,cX];show(l.mT.map (·.1)).length+_<=_;rw[cX];omega
 have en:l.pn.map D.str++(l.groups.map (·.1)).map D.str=l.nm.map D.str:=by unfold pN.nm;rw[dQ];rfl
 rw[en];have s3:=s2.trans (qz.new (c:=.lst (l.nm.map D.str)) hp3);have l3:=@pK (pL M1 p2 (.lst ((l.groups.map (·.1)).map D.str))) p3 (l.nm.map D.str);generalize pL (pL M1 p2 (.lst ((l.groups.map (·.1)).map D.str))) p3 (.lst (l.nm.map D.str))=M3 at s3 l3 ⊢;have ln:l.nm.length<4000:=by unfold pN.nm pN.pn pN.gn;rw[de,cX,cX];omega
 refine⟨_,l.nm,rfl,.inr ⟨p3,rfl,l3⟩,ln,_,by rw[DD ok.nd],?_⟩;exact⟨r3,l.mS,p,p3,l.pn,l.nm,rfl,s3.lst (s1.lst h3),s3.lst lp,l3,ok.w16,ok.wo,M,s1.trans s3,q⟩
noncomputable def QW(ph gr ws on pr gd:Addr):List (Str×D):=[("phones",.ref ph),("groups",.ref gr),("wishes",.ref ws),("on",.ref on),("phone_rows",.ref pr),("group_rows",.ref gd)]
noncomputable def R9(l:pN):List (rc×D):=l.mT.map λp=>(Sum.inr p.1,rf p)
noncomputable def Hv(l:pN):List (rc×D):=l.groups.map λg=>(Sum.inr g.1,rq g)
def sQ(a:Ad)(M:Mp)(rs:QXQ)(ws:List vo):Prop:=rs.length=ws.length/\∀(i:Nat) (r:Addr) (v:vo),rs[i]?=some r->ws[i]?=some v->M r=some (.ins (v.2.cls a) v.2.nR)
def tz(a:Ad)(M:Mp)(p:Addr)(l:pN):Prop:=Th λph gr ws on pr gd (rs:QXQ)=>M p=some (.ins a.h (QW ph gr ws on pr gd))/\pf M ph=some (l.mT.map rf)/\pf M gr=some (l.groups.map rq)/\
 pf M ws=some (rs.map D.ref)/\pf M on=some (l.mS.map λw=>D.bl w.1)/\zi M pr=some (R9 l)/\zi M gd=some (Hv l)/\sQ a M rs l.mS
def sQ.keep{a:Ad}{M M':Mp}{p:Addr}{rs:QXQ}{ws:List vo}(h:sQ a M rs ws)(k:sf p M M')(n:∀r∈rs,r≠p):sQ a M' rs ws:=⟨h.1,λi r v e1 e2=>k r _ (n r (fA e1)) (h.2 i r v e1 e2)⟩
def sQ.sub{a:Ad}{M M':Mp}{rs:QXQ}{ws:List vo}(h:sQ a M rs ws)(k:qz M M'):sQ a M' rs ws:=⟨h.1,λi r v e1 e2=>k r _ (h.2 i r v e1 e2)⟩
def tz.sub{a:Ad}{M M':Mp}{p:Addr}{l:pN}(h:tz a M p l)(s:qz M M'):tz a M' p l:=by obtain⟨ph,gr,ws,on,pr,gd,rs,h1,h2,h3,h4,h5,h6,h7,h8⟩:=h;exact⟨ph,gr,ws,on,pr,gd,rs,s _ _ h1,s.lst h2,s.lst h3,s.lst h4,s.lst h5,s.dk h6,s.dk h7,h8.sub s⟩
def Qn(a:Ad):rC:=λds M Q=>Ha λp r1 r2 r3 (l:pN)=>ds=[.ref p,.ref r1,.ref r2,.ref r3]/\M p=some (.ins a.h [])/\pf M r1=some (l.mT.map rf)/\pf M r2=some (l.groups.map rq)/\pf M r3=some (l.mS.map xj)/\r6 l/\
 ∀M',sf p M M'->tz a M' p l->(∀W8,(∀b c,(b=p\/M b=none)->M' b=some c->W8 b=some c)->tz a W8 p l)->Q .mW M'
def rO{M N:Mp}{p x:Addr}{c:uT}(k:sf p M N)(hp:N p=some c)(h:N x=none):M x=none:=by
 cases e:M x with
 | none=>rfl
 | some d=>
  have n:x≠p:=λz=>by rw[z,hp]at h;cases h
  rw[k x d n e]at h;cases h
def zL{M:Mp}{a:Addr}{es:List (rc×D)}(h:zi M a=some es):M a=some (.dk es):=by
 unfold zi at h;split at h
 .rename_i e;rw[e];cases h;rfl
 .cases h
theorem wZ{α:Type}(f:α->Str)(g:α->D):∀l:List α,wY (l.map λx=>D.tup [.str (f x),g x])=some (l.map λx=>(Sum.inr (f x),g x))
 | []=>rfl
 | x::r=>by show(wY (r.map λx=>D.tup [.str (f x),g x])).map ((Sum.inr (f x),g x)::·)=_;rw[wZ f g r];rfl
def Kg{ss:QQQ}(h:ss.Nodup):(ss.map λx=>(Sum.inr x:rc)).Nodup:=by
 induction ss with
 | nil=>exact eM
 | cons x r ih=>obtain⟨h1,h2⟩:=dW.mp h;rw[dY];refine dW.mpr ⟨λz=>h1 ?_,ih h2⟩;obtain⟨y,hy,e⟩:=dE.mp z;cases e;exact hy
def yI{α:Type}{f:α->Str}{g:α->D}{l:List α}(h:(l.map f).Nodup):((l.map λx=>((Sum.inr (f x):rc),g x)).map (·.1)).Nodup:=by rw[eA];have:=Kg h;rw[eA]at this;exact this
noncomputable def Bo(d:D):D:=.tup [AS d,d]
noncomputable def WJ:D->D
 | .tup (x::_)=>x
 | _=>.mW
def R4(ws:List vo):(ws.map xj).map WJ=ws.map λw=>D.bl w.1:=by rw[eA];rfl
def Gb(ps:List uJ):(ps.map rf).map Bo=ps.map λp=>D.tup [.str p.1,rf p]:=by rw[eA];rfl
def FY(ps:List uq):(ps.map rq).map Bo=ps.map λp=>D.tup [.str p.1,rq p]:=by rw[eA];rfl
def sQ.snoc{a:Ad}{M:Mp}{rs:QXQ}{ws:List vo}{r:Addr}{v:vo}(h:sQ a M rs ws)(n:M r=none):sQ a (pL M r (.ins (v.2.cls a) v.2.nR)) (rs++[r]) (ws++[v]):=by
 refine⟨by rw[de,de,h.1];rfl,λi r' v' e1 e2=>?_⟩;by_cases hi:i<rs.length
 .rw[fi hi]at e1;rw[fi (by rw[<-h.1];exact hi)]at e2;have:=h.2 i r' v' e1 e2;rw[uh (Qi this n)];exact this
 .have YF:i=rs.length:=by have:=(c9.mp e1).1;rw[de,dS]at this;omega
  subst YF;rw[eZ (dz _)]at e1;rw[h.1,eZ (dz _)]at e2;simp only[ia,iG,jB]at e1 e2;subst e1 e2;exact pX
def O7:Fq P w K mg base 7 a.ah (Qn a):=by
 refine fq G.ah.toDG Fj (λr u=>⟨_,(pC (pU (pO (Dp G) r G.bj (rB U1 U2 U3)))
 (pC (qk v0 (qa ue rfl G.z tO (qr U1)))
 (pC (qk v0 (qa ue rfl G.z tO (qr U2)))
 (pC (qk v0 (qK rfl (xt (ix:=[none,none]) (N':=["on","wish"])) (qI U3) (vi (n:=2) rfl (qF (qJ 0) (qF (qJ 1) ub))) rN (pO (HY G) r G.bd (qr U1))))
 (pC (qk v0 (qK rfl (xt (ix:=[none,none]) (N':=["on","wish"])) (qI U3) (vi (n:=2) rfl (qF (qJ 0) (qF (qJ 1) ub))) rN v0))
 (pC (qk v0 (qa (ET rfl) rfl G.bU FT (qr (qK rfl (xt (ix:=[none]) (N':=["phone"])) (qI U1) (qJ 0) rN (pS (so (pQ v0 pF) v0))))))
 (pE (qk v0 (qa (ET rfl) rfl G.bU FT (qr (qK rfl (xt (ix:=[none]) (N':=["group"])) (qI U2) (qJ 0) rN (pS (so (pQ v0 pF) v0))))))))))))),?_⟩)
 rintro ds M Q ⟨p,r1,r2,r3,l,rfl,hp,h1,h2,h3,ok,q⟩
 have hz:=dN;have l1:=ok.p8;have l2:=ok.g3;have l3:=ok.w16;refine⟨r1,r2,r3,l,rfl,h1,h2,h3,ok,?_⟩;refine i' h1 λph hph=>?_;obtain⟨n1,e1,k1,c1,p1⟩:=sY (fs':=[("phones",.ref ph)]) (c:=.lst (l.mT.map rf)) hp hph;refine pD e1 ⟨(G.Y "phones" rfl),by show 0<1000;decide,?_⟩;show uF _ _ _ _ (pL (pL M ph (.lst (l.mT.map rf))) p (.ins a.h [("phones",.ref ph)]));generalize pL (pL M ph (.lst (l.mT.map rf))) p (.ins a.h [("phones",.ref ph)])=N1 at k1 c1 p1 ⊢;have XN:=k1.lst (pZ h1 hp) h1;have h2':=k1.lst (pZ h2 hp) h2;have ZH:=k1.lst (pZ h3 hp) h3;have f1:pf N1 ph=some (l.mT.map rf):=sF c1;refine i' h2' λgr hgr=>?_;obtain⟨n2,e2,k2,c2,p2⟩:=sY (fs':=[("phones",.ref ph),("groups",.ref gr)]) (c:=.lst (l.groups.map rq)) p1 hgr;refine pD e2 ⟨(G.Y "groups" rfl),by show 1<1000;decide,?_⟩;show uF _ _ _ _ (pL (pL N1 gr (.lst (l.groups.map rq))) p (.ins a.h [("phones",.ref ph),("groups",.ref gr)]));generalize pL (pL N1 gr (.lst (l.groups.map rq))) p (.ins a.h [("phones",.ref ph),("groups",.ref gr)])=N2 at k2 c2 p2 ⊢;have g1:=k2.lst (pZ XN p1) XN;have g2:=k2.lst (pZ h2' p1) h2';have g3:=k2.lst (pZ ZH p1) ZH;have f2:=k2.lst (pZ f1 p1) f1;have f3:pf N2 gr=some (l.groups.map rq):=sF c2;have kk2:=k1.trans k2;have m2:M gr=none:=rO k1 p1 hgr;clear XN h2' ZH f1 c1 c2 k1 k2 e1 e2;refine i' g3 ?_;refine zA (l.mS.map xj) (λpre acc δ Mx=>(∃x y,δ=[x,y])/\qz N2 Mx/\∃rs:QXQ,acc=rs.map D.ref/\(∀r∈rs,N2 r=none)/\sQ a Mx rs (l.mS.take pre.length)) (λpre acc δ Mx j=>j.2.1.lst g3) _ [] [] _ _ rfl (by rw[cX];simp only[dM];omega) ⟨⟨none,none,rfl⟩,.refl,[],rfl,λr hr=>absurd hr (dJ),rfl,λi r v e=>by simp at e⟩ ?_ ?_
 .rintro pre d post e acc δ Mx ⟨⟨x,y,rfl⟩,sx,rs,rfl,fr,wa⟩ k hk
  obtain⟨v,hv,rfl⟩:∃v,l.mS[pre.length]?=some v/\d=xj v:=by
   have:(l.mS.map xj)[pre.length]?=some d:=by rw[<-e];simp
   rw[dF]at this;cases z:l.mS[pre.length]? with
   | none=>rw[z]at this;cases this
   | some v=>rw[z]at this;exact⟨v,rfl,(dw this).symm⟩
  refine⟨rfl,⟨v.2,rfl,λr hr=>hk _ _ _ ⟨⟨_,_,rfl⟩,sx.trans (.new hr),rs++[r],?_,λr' hr'=>?_,?_⟩⟩⟩
  .rw[dQ];rfl
  .rcases eh.mp hr' with z|z
   .exact fr r' z
   .rw[dD.mp z];exact sx.none hr
  .rw[de,dS,gK,hv];exact wa.snoc hr
 rintro acc δ Mx ⟨⟨x,y,rfl⟩,sx,rs,rfl,fr,wa⟩ ws hws
 have wa:sQ a Mx rs l.mS:=by rw[cX,fu]at wa;exact wa
 obtain⟨n3,e3,k3,c3,p3⟩:=sY (fs':=[("phones",.ref ph),("groups",.ref gr),("wishes",.ref ws)]) (c:=.lst (rs.map D.ref)) (sx _ _ p2) hws;refine pD e3 ⟨(G.Y "wishes" rfl),by show 2<1000;decide,?_⟩;show uF _ _ _ _ (pL (pL Mx ws (.lst (rs.map D.ref))) p (.ins a.h [("phones",.ref ph),("groups",.ref gr),("wishes",.ref ws)]));generalize pL (pL Mx ws (.lst (rs.map D.ref))) p (.ins a.h [("phones",.ref ph),("groups",.ref gr),("wishes",.ref ws)])=N3 at k3 c3 p3 ⊢;have px:=sx _ _ p2;have i1:=k3.lst (pZ (sx.lst g1) px) (sx.lst g1);have i2:=k3.lst (pZ (sx.lst g2) px) (sx.lst g2);have i3:=k3.lst (pZ (sx.lst g3) px) (sx.lst g3);have f4:=k3.lst (pZ (sx.lst f2) px) (sx.lst f2);have f5:=k3.lst (pZ (sx.lst f3) px) (sx.lst f3);have f6:pf N3 ws=some (rs.map D.ref):=sF c3;have rp:∀r∈rs,r≠p:=λr hr z=>by have:=fr r hr;rw[z,p2]at this;cases this
 have w3:=wa.keep k3 rp;have kk3:=(kk2.trans sx.keep).trans k3;have m3:M ws=none:=rO (kk2.trans sx.keep) px hws;have mr:∀r∈rs,M r=none:=λr hr=>rO kk2 p2 (fr r hr);clear g1 g2 g3 f2 f3 c3 k3 e3 wa px kk2;refine i' i3 (BG (f:=WJ) (λδ=>∃x y,δ=[x,y]) i3 _ [] _ ⟨none,none,rfl⟩ (by rw[cX];simp only[dM];omega) (λd hd δ hj k hk=>?_) λon hon=>?_)
 .obtain⟨x,y,rfl⟩:=hj;obtain⟨v,_,rfl⟩:=dE.mp hd;exact⟨rfl,hk _ ⟨_,_,rfl⟩⟩
 rw[d6,R4];obtain⟨n4,e4,k4,c4,p4⟩:=sY (fs':=[("phones",.ref ph),("groups",.ref gr),("wishes",.ref ws),("on",.ref on)]) (c:=.lst (l.mS.map λw=>D.bl w.1)) p3 hon;refine pD e4 ⟨(G.Y "on" rfl),by show 3<1000;decide,?_⟩;show uF _ _ _ _ (pL (pL N3 on (.lst (l.mS.map λw=>D.bl w.1))) p (.ins a.h [("phones",.ref ph),("groups",.ref gr),("wishes",.ref ws),("on",.ref on)]));generalize pL (pL N3 on (.lst (l.mS.map λw=>D.bl w.1))) p (.ins a.h [("phones",.ref ph),("groups",.ref gr),("wishes",.ref ws),("on",.ref on)])=N4 at k4 c4 p4 ⊢;have j1:=k4.lst (pZ i1 p3) i1;have j2:=k4.lst (pZ i2 p3) i2;have f7:=k4.lst (pZ f4 p3) f4;have f8:=k4.lst (pZ f5 p3) f5;have f9:=k4.lst (pZ f6 p3) f6;have fa:pf N4 on=some (l.mS.map λw=>D.bl w.1):=sF c4;have w4:=w3.keep k4 rp;have Y7:=kk3.trans k4;have m4:M on=none:=rO kk3 p3 hon;clear i1 i2 i3 f4 f5 f6 c4 k4 e4 w3 kk3;refine i' j1 (qV (f:=Bo) j1 _ [] _ (by rw[cX];simp only[dM];omega) (λd hd k hk=>?_) λq1 X8=>?_)
 .obtain⟨v,_,rfl⟩:=dE.mp hd;exact⟨pA rfl,hk⟩
 rw[d6,Gb];have ZI:=qz.new (c:=.lst (l.mT.map λp=>D.tup [.str p.1,rf p])) X8;refine i' pK (i' (wZ (λp:uJ=>p.1) rf l.mT) ⟨yI (iC (List.sublist_append_left _ _) ok.nd),λpr hpr=>?_⟩);obtain⟨n5,e5,k5,c5,p5⟩:=sY (fs':=[("phones",.ref ph),("groups",.ref gr),("wishes",.ref ws),("on",.ref on),("phone_rows",.ref pr)]) (c:=.dk (l.mT.map λx=>(Sum.inr x.1,rf x))) (ZI _ _ p4) hpr;refine pD e5 ⟨(G.Y "phone_rows" rfl),by show 4<1000;decide,?_⟩;have k5:=ZI.keep.trans k5;have YW:vZ "phone_rows" (.ref pr) [("phones",.ref ph),("groups",.ref gr),("wishes",.ref ws),("on",.ref on)]=([("phones",.ref ph),("groups",.ref gr),("wishes",.ref ws),("on",.ref on),("phone_rows",.ref pr)]:List (Str×D)):=rfl;rw[YW];generalize pL (pL (pL N4 q1 (.lst (l.mT.map λp=>D.tup [.str p.1,rf p]))) pr (.dk (l.mT.map λx=>(Sum.inr x.1,rf x)))) p (.ins a.h [("phones",.ref ph),("groups",.ref gr),("wishes",.ref ws),("on",.ref on),("phone_rows",.ref pr)])=N5 at k5 c5 p5 ⊢;have mm:=k5.lst (pZ j2 p4) j2;have fb:=k5.lst (pZ f7 p4) f7;have fc:=k5.lst (pZ f8 p4) f8;have fd:=k5.lst (pZ f9 p4) f9;have fe:=k5.lst (pZ fa p4) fa;have ff:zi N5 pr=some (R9 l):=D3 c5;have w5:=w4.keep k5 rp;have Y8:=Y7.trans k5;have m5:M pr=none:=rO (Y7.trans ZI.keep) (ZI _ _ p4) hpr;clear j1 j2 f7 f8 f9 fa c5 k5 e5 w4 Y7;refine i' mm (qV (f:=Bo) mm _ [] _ (by rw[cX];simp only[dM];omega) (λd hd k hk=>?_) λq2 Zo=>?_)
 .obtain⟨v,_,rfl⟩:=dE.mp hd;exact⟨pA rfl,hk⟩
 rw[d6,FY];have sq2:=qz.new (c:=.lst (l.groups.map λg=>D.tup [.str g.1,rq g])) Zo;refine i' pK (i' (wZ (λp:uq=>p.1) rq l.groups) ⟨yI (iC (jG _ _) ok.nd),λgd hgd=>?_⟩);obtain⟨n6,e6,k6,c6,p6⟩:=sY (fs':=QW ph gr ws on pr gd) (c:=.dk (Hv l)) (sq2 _ _ p5) hgd;have k6:=sq2.keep.trans k6;refine pD e6 ⟨(G.Y "group_rows" rfl),by show 5<1000;decide,_,.refl,?_⟩;have m6:M gd=none:=rO (Y8.trans sq2.keep) (sq2 _ _ p5) hgd;have w6:=w5.keep k6 rp;have y1:=k6.lst (pZ fb p5) fb;have y2:=k6.lst (pZ fc p5) fc;have y3:=k6.lst (pZ fd p5) fd;have y4:=k6.lst (pZ fe p5) fe;have y5:=k6.dk (Cj ff p5) ff;refine q _ (Y8.trans k6) ⟨ph,gr,ws,on,pr,gd,rs,p6,y1,y2,y3,y4,y5,D3 c6,w6⟩ λW8 hs=>?_;exact⟨ph,gr,ws,on,pr,gd,rs,hs _ _ (.inl rfl) p6,sF (hs _ _ (.inr hph) (qm y1)),sF (hs _ _ (.inr m2) (qm y2)),sF (hs _ _ (.inr m3) (qm y3)),sF (hs _ _ (.inr m4) (qm y4)),D3 (hs _ _ (.inr m5) (zL y5)),D3 (hs _ _ (.inr m6) c6),w6.1,λi r v e1 e2=>hs _ _ (.inr (mr r (fA e1))) (w6.2 i r v e1 e2)⟩
theorem yf{α:Type}(f:α->Str)(g:α->D)(k:Str):∀l:List α,vD (l.map λx=>((Sum.inr (f x):rc),g x)) (Sum.inr k)=(l.find? λx=>decide (f x=k)).map g
 | []=>rfl
 | x::r=>by
  have ih:=yf f g k r;unfold vD at ih ⊢;rw[dY,fM,fM];by_cases h:f x=k
  .have h':decide ((Sum.inr (f x):rc)=Sum.inr k)=true:=dZ (by rw[h]);simp[h]
  .have h':¬(Sum.inr (f x):rc)=Sum.inr k:=λz=>h (j8 z);simp only[h,h',decide_false];exact ih
noncomputable def pN.nz(l:pN)(x:Str):Option uJ:=l.mT.find? λp=>decide (p.1=x)
noncomputable def pN.group(l:pN)(x:Str):Option uq:=l.groups.find? λg=>decide (g.1=x)
noncomputable def pN.mQ(l:pN)(x:Str):QQQ:=(l.group x).elim [x] λg=>g.2.2
noncomputable def pN.m7(l:pN)(x:Str):Str:=(l.group x).elim "one" λg=>g.2.1
def G'(l:pN)(x:Str):vD (R9 l) (Sum.inr x)=(l.nz x).map rf:=yf (λp:uJ=>p.1) rf x l.mT
def wn(l:pN)(x:Str):vD (Hv l) (Sum.inr x)=(l.group x).map rq:=yf (λp:uq=>p.1) rq x l.groups
def yB(a:Ad):rC:=λds M Q=>AC λp (l:pN)=>ds=[.ref p]/\tz a M p l/\l.mT.length<=100/\∀q,M q=none->Q (.ref q) (pL M q (.lst (l.pn.map D.str)))
def Eh(a:Ad):rC:=λds M Q=>AC λp (l:pN)=>ds=[.ref p]/\tz a M p l/\l.mT.length<=100/\l.groups.length<=100/\∀q,M q=none->Q (.ref q) (pL M q (.lst (l.nm.map D.str)))
def Eo(a:Ad):rC:=λds M Q=>BU λp x v (l:pN)=>ds=[.ref p,.str x]/\tz a M p l/\l.nz x=some v/\Q (.int v.2.1) M
def G8(a:Ad):rC:=λds M Q=>BU λp x v (l:pN)=>ds=[.ref p,.str x]/\tz a M p l/\l.nz x=some v/\Q (.int v.2.2) M
def Am(a:Ad):rC:=λds M Q=>CT λp x (l:pN)=>ds=[.ref p,.str x]/\tz a M p l/\∀q,M q=none->Q (.ref q) (pL M q (.lst ((l.mQ x).map D.str)))
def Dz(a:Ad):rC:=λds M Q=>CT λp x (l:pN)=>ds=[.ref p,.str x]/\tz a M p l/\Q (.str (l.m7 x)) M
def tT:Fq P w K mg base 1 a.R (yB a):=by
 refine fq G.R.toDG yq (λr u=>⟨_,(pE (pJ (qK rfl (xt (ix:=[none]) (N':=["phone"])) (qI (pH v0)) (qJ 0) rN (pQ v0 pF)))),?_⟩)
 rintro ds M Q ⟨p,l,rfl,hp,hl,q⟩
 have hz:=dN;obtain⟨ph,gr,ws,on,pr,gd,rs,h1,h2,h3,h4,h5,h6,h7,h8⟩:=hp;refine pD h1 (i' rfl (i' h2 ?_));refine qV (f:=AS) h2 _ [] _ (by rw[cX];simp only[dM];omega) (λd hd k hk=>?_) λq1 X8=>?_
 .obtain⟨x,_,rfl⟩:=dE.mp hd;exact hk
 rw[d6,wM];exact⟨_,.refl,q q1 X8⟩
def Df:Fq P w K mg base 2 a.bz (Eh a):=by
 refine fq G.bz.toDG C9 (λr u=>⟨_,(pE (pJ (qc (yh v0 G.h.toCls G.R (tT G) r) (qK rfl (xt (ix:=[none]) (N':=["group"])) (qI (pH v0)) (qJ 0) rN (pQ v0 pF))))),?_⟩)
 rintro ds M Q ⟨p,l,rfl,hp,hl,ZC,q⟩
 have hz:=dN;have Xj:=hp;obtain⟨ph,gr,ws,on,pr,gd,rs,h1,h2,h3,h4,h5,h6,h7,h8⟩:=hp;refine pD h1 ⟨rfl,_,⟨rfl,rfl⟩,p,l,rfl,Xj,hl,λq1 X8=>?_⟩;have s1:=qz.new (c:=.lst (l.pn.map D.str)) X8;have e1:=@pK M q1 (l.pn.map D.str);generalize pL M q1 (.lst (l.pn.map D.str))=M1 at s1 e1 ⊢;have ZH:=s1.lst h3;refine pD (s1 _ _ h1) (i' rfl (i' ZH ?_));refine qV (f:=AS) ZH _ [] _ (by rw[cX];simp only[dM];omega) (λd hd k hk=>?_) λq2 Zo=>?_
 .obtain⟨x,_,rfl⟩:=dE.mp hd;exact hk
 rw[d6,wR];have s2:=qz.new (c:=.lst ((l.groups.map (·.1)).map D.str)) Zo;refine i' (s2.lst e1) (i' pK ⟨?_,λq3 hq3=>?_⟩)
 .rw[cX,cX,cX];show(l.mT.map (·.1)).length+_<=_;rw[cX];omega
 have en:l.pn.map D.str++(l.groups.map (·.1)).map D.str=l.nm.map D.str:=by unfold pN.nm;rw[dQ];rfl
 rw[en];exact⟨_,(s1.trans s2).upd,q q3 ((s1.trans s2).none hq3)⟩
def Du:Fq P w K mg base 1 a.bG (Eo a):=by
 refine fq G.bG.toDG Dg (λr u=>⟨_,(pE (pJ (pQ (zF u (pH v0) U1) pF))),?_⟩)
 rintro ds M Q ⟨p,x,v,l,rfl,hp,hv,q⟩
 obtain⟨ph,gr,ws,on,pr,gd,rs,h1,h2,h3,h4,h5,h6,h7,h8⟩:=hp;exact pD h1 (i' rfl (i' rfl (i' h6 (i' (x:=rf v) (by rw[G',hv];rfl) ⟨M,.refl,q⟩))))
def zm:Fq P w K mg base 1 a.aJ (G8 a):=by
 refine fq G.aJ.toDG EB (λr u=>⟨_,(pE (pJ (pQ (zF u (pH v0) U1) pF))),?_⟩)
 rintro ds M Q ⟨p,x,v,l,rfl,hp,hv,q⟩
 obtain⟨ph,gr,ws,on,pr,gd,rs,h1,h2,h3,h4,h5,h6,h7,h8⟩:=hp;exact pD h1 (i' rfl (i' rfl (i' h6 (i' (x:=rf v) (by rw[G',hv];rfl) ⟨M,.refl,q⟩))))
def uD:Fq P w K mg base 1 a.V (Am a):=by
 refine fq G.V.toDG zg (λr u=>⟨_,(pC (pV (Mm u U1 (pH v0))
 (pE (pJ (qa ue rfl G.z tO (qr (pQ (zF u (pH v0) U1) pF)))))
 pP)
 (pE (pJ (qP (qr U1))))),?_⟩)
 rintro ds M Q ⟨p,x,l,rfl,hp,q⟩
 obtain⟨ph,gr,ws,on,pr,gd,rs,h1,h2,h3,h4,h5,h6,h7,h8⟩:=hp;refine pD h1 (i' rfl (i' h7 ?_));cases e:l.group x with
 | none=>refine Ls (c:=(vD (Hv l) (Sum.inr x)).isSome) (by rw[wn,e];rfl) ⟨pA rfl,λq1 X8=>⟨_,.refl,?_⟩⟩;have:=q q1 X8;unfold pN.mQ at this;rw[e]at this;exact this
 | some g=>refine Bd (c:=(vD (Hv l) (Sum.inr x)).isSome) (by rw[wn,e];rfl) (pD h1 (i' rfl (i' rfl (i' h7 (i' (x:=rq g) (by rw[wn,e];rfl) λq1 X8=>⟨_,.refl,?_⟩)))));have:=q q1 X8;unfold pN.mQ at this;rw[e]at this;exact this
def xV:Fq P w K mg base 1 a.aH (Dz a):=by
 refine fq G.aH.toDG B6 (λr u=>⟨_,(pC (pV (Mm u U1 (pH v0))
 (pE (pJ (pQ (zF u (pH v0) U1) pF)))
 pP)
 (pE (pJ pG))),?_⟩)
 rintro ds M Q ⟨p,x,l,rfl,hp,q⟩
 obtain⟨ph,gr,ws,on,pr,gd,rs,h1,h2,h3,h4,h5,h6,h7,h8⟩:=hp;refine pD h1 (i' rfl (i' h7 ?_));cases e:l.group x with
 | none=>refine Ls (c:=(vD (Hv l) (Sum.inr x)).isSome) (by rw[wn,e];rfl) ⟨M,.refl,?_⟩;unfold pN.m7 at q;rw[e]at q;exact q
 | some g=>refine Bd (c:=(vD (Hv l) (Sum.inr x)).isSome) (by rw[wn,e];rfl) (pD h1 (i' rfl (i' rfl (i' h7 (i' (x:=rq g) (by rw[wn,e];rfl) ⟨M,.refl,?_⟩)))));unfold pN.m7 at q;rw[e]at q;exact q
noncomputable def Pn:List Int:=[1,1,2,2,3]
noncomputable def Oi:List Int:=[0,1,1,2,5,9]
noncomputable def Pf:QQQ:=["all","turns"]
noncomputable def F7(t:List Int)(i:Int):Int:=t.getD i.toNat 0
noncomputable def we(s:Int)(i:Nat):uJ:=(xO s (0+(i:Nat)),F7 Pn (draw (s+17*(0+(i:Nat))*(0+(i:Nat))) 16807 5),F7 Oi (draw (s+17*(0+(i:Nat))*(0+(i:Nat))) 39373 6))
noncomputable def rQ(s m:Int):Nat:=(2+draw s 48271 (m - 1)).toNat
noncomputable def qB(s m:Int):List uJ:=(List.range (rQ s m)).map (we s)
noncomputable def Al(s:Int)(own:QQQ)(i:Nat):uq:=(xO s (8+(0+(i:Nat))),BJ Pf (draw (s+5*(0+(i:Nat))) 742938285 2),vP own (s+11*(0+(i:Nat))) 4)
noncomputable def vK(s:Int):Nat:=(draw s 69621 3).toNat
noncomputable def qZ(s:Int)(own:QQQ):List uq:=(List.range (vK s)).map (Al s own)
def Gg{ts:List Int}{i:Int}(h0:0<=i)(h1:i<ts.length):wC (ts.map D.int) i=some (D.int (F7 ts i)):=by
 obtain⟨n,rfl⟩:=eF h0;have YC:n<ts.length:=by omega
 refine vf ?_;rw[dF,cZ YC];simp[F7,YC]
def BY{n:Nat}{pre post:List D}{d:D}(e:pre++d::post=(List.range n).map λi=>D.int (0+(i:Nat))):d=.int (0+(pre.length:Nat))/\pre.length<n:=by
 have h:((List.range n).map λi=>D.int (0+(i:Nat)))[pre.length]?=some d:=by rw[<-e];simp
 have hl:pre.length<n:=by
  have:=(c9.mp h).1
  simpa using this
 rw[dF,kO hl]at h;exact⟨(dw h).symm,hl⟩
def Ce{α β:Type}(f:Nat->α)(g:α->β)(n:Nat):((List.range n).map f).map g++[g (f n)]=((List.range (n+1)).map f).map g:=by rw[iZ,dQ,dQ];rfl
def HC:rC:=λds M Q=>AC λs m=>ds=[.int s,.int m]/\2<=m/\m<=100/\∀q,M q=none->Q (.ref q) (pL M q (.lst ((qB s m).map rf)))
def H9:rC:=λds M Q=>CT λs o own=>ds=[.int s,.ref o]/\pf M o=some (own.map D.str)/\own≠[]/\own.length<=64/\∀q,M q=none->Q (.ref q) (pL M q (.lst ((qZ s own).map rq)))
def wV{s m:Int}(h2:2<=m)(h:m<=100):rQ s m<=100/\2<=rQ s m:=by have d0:=rb (c:=s) (f:=48271) (m:=m - 1) (by omega);have d1:=qQ (c:=s) (f:=48271) (m:=m - 1) (by omega);unfold rQ;omega
def wW{s:Int}:vK s<=3:=by have d0:=rb (c:=s) (f:=69621) (m:=3) (by decide);have d1:=qQ (c:=s) (f:=69621) (m:=3) (by decide);unfold vK;omega
def HE:Fq P w K mg base 2 a.bk HC:=by
 refine fq G.bk.toDG uP (λr u=>⟨_,(pC (pR 2 uP (qP sG))
 (pC (uN fm rfl (wu rfl G.aN (qr (qc pF (pO (qO G) r G.i (rB v0 pF (qc U1 pF)))))) (rL 3 uP)
 (pC (pR 4 uP (pQ (pS (qg pF (qg pF (rB pF pF pF)))) (pO (qO G) r G.i (rB (qc v0 (qc (qc pF U3) U3)) pF pF))))
 (pE (pU (ra U2 (qr (pS (rB (pO (IW G) r G.ae (so v0 U3)) v4 (pQ (pS (qg pF (qg pF (qg pF (rB pF pF pF))))) (pO (qO G) r G.i (rB (qc v0 (qc (qc pF U3) U3)) pF pF)))))))))))
 (pE (pJ U2)))),?_⟩)
 rintro ds M Q ⟨s,m,rfl,h2,h100,q⟩
 have hz:=dN;have d0:=rb (c:=s) (f:=48271) (m:=m - 1) (by omega);have d1:=qQ (c:=s) (f:=48271) (m:=m - 1) (by omega);have nl:=(wV (s:=s) h2 h100).1;refine⟨pA rfl,λr hr=>⟨s,_,_,rfl,by show 0<m - 1;omega,rfl,⟨?_,?_⟩,?_⟩⟩
 .show -(2 ^ 62)<=2+draw s 48271 (m - 1);omega
 .show 2+draw s 48271 (m - 1)<2 ^ 62;omega
 refine vT ((List.range (rQ s m)).map λi=>D.int (0+(i:Nat))) (λpre δ M'=>M'=pL M r (.lst (((List.range pre.length).map (we s)).map rf))/\∃x y,δ=[some (.int s),some (.int m),some (.ref r),x,y]) (λ_ _ _ _=>trivial) _ [] _ _ rfl ⟨rfl,none,none,rfl⟩ ?_ ?_
 .rintro pre d post e δ M' ⟨rfl,x,y,rfl⟩ nx Xg
  obtain⟨rfl,Xe⟩:=BY e;generalize hi:pre.length=i at Xe Xg ⊢;have cm:Dv (17*(0+(i:Int))) (0+(i:Int)):=.inr ⟨by omega,by omega⟩;have c17:Dv 17 (0+(i:Int)):=.inl ⟨by decide,by decide⟩;have t5:wC [D.int 1,.int 1,.int 2,.int 2,.int 3] (draw (s+17*(0+(i:Int))*(0+(i:Int))) 16807 5)=some (.int (we s i).2.1):=Gg (ts:=Pn) (rb (by decide)) (qQ (by decide));have t6:wC [D.int 0,.int 1,.int 1,.int 2,.int 5,.int 9] (draw (s+17*(0+(i:Int))*(0+(i:Int))) 39373 6)=some (.int (we s i).2.2):=Gg (ts:=Oi) (rb (by decide)) (qQ (by decide));refine⟨pA rfl,c17,cm,_,_,_,rfl,by decide,i' t5 ?_⟩;refine⟨by show(pf _ r).isSome=true;rw[pK];rfl,s,_,rfl,pA rfl,c17,cm,_,_,_,rfl,by decide,i' t6 ⟨pA rfl,i' pK ⟨?_,?_⟩⟩⟩
  .rw[cX,cX,eI];omega
  .refine Xg _ _ ⟨?_,_,_,rfl⟩;rw[rT,de,hi];show pL M r (.lst (_++[rf (we s i)]))=_;rw[Ce];rfl
 .rintro δ M' ⟨rfl,x,y,rfl⟩
  refine⟨_,.refl,?_⟩;rw[cX,eI];exact q r hr
def HN:Fq P w K mg base 3 a.bl H9:=by
 refine fq G.bl.toDG uO (λr u=>⟨_,(pC (pR 2 uO (qP sG))
 (pC (uN fm rfl (wu rfl G.aN (qr (pO (qO G) r G.i (rB v0 pF pF)))) (rL 3 uO)
 (pC (pR 4 uO (pQ (pS (so pG pG)) (pO (qO G) r G.i (rB (qc v0 (qc pF U3)) pF pF))))
 (pE (pU (ra U2 (qr (pS (rB (pO (IW G) r G.ae (so v0 (qc pF U3))) v4 (pO (yl G) r G.P (rB U1 (qc v0 (qc pF U3)) pF))))))))))
 (pE (pJ U2)))),?_⟩)
 rintro ds M Q ⟨s,o,own,rfl,ho,Xm,h64,q⟩
 have hz:=dN;have d0:=rb (c:=s) (f:=69621) (m:=3) (by decide);have d1:=qQ (c:=s) (f:=69621) (m:=3) (by decide);have nl:=wW (s:=s);refine⟨pA rfl,λr hr=>⟨s,_,_,rfl,by decide,rfl,⟨?_,?_⟩,?_⟩⟩
 .show -(2 ^ 62)<=draw s 69621 3;omega
 .show draw s 69621 3<2 ^ 62;omega
 have nor:o≠r:=λz=>by rw[z]at ho;unfold pf at ho;rw[hr]at ho;cases ho
 refine vT ((List.range (vK s)).map λi=>D.int (0+(i:Nat))) (λpre δ M'=>M'=pL M r (.lst (((List.range pre.length).map (Al s own)).map rq))/\∃x y,δ=[some (.int s),some (.ref o),some (.ref r),x,y]) (λ_ _ _ _=>trivial) _ [] _ _ rfl ⟨rfl,none,none,rfl⟩ ?_ ?_
 .rintro pre d post e δ M' ⟨rfl,x,y,rfl⟩ nx Xg
  obtain⟨rfl,Xe⟩:=BY e;generalize hi:pre.length=i at Xe Xg ⊢;have c5:Dv 5 (0+(i:Int)):=.inl ⟨by decide,by decide⟩;have c11:Dv 11 (0+(i:Int)):=.inl ⟨by decide,by decide⟩;have tm:wC [D.str "all",.str "turns"] (draw (s+5*(0+(i:Int))) 742938285 2)=some (.str (Al s own i).2.1):=Ir (row:=Pf) (rb (by decide)) (qQ (by decide));have XI:pf (pL M r (.lst (((List.range i).map (Al s own)).map rq))) o=some (own.map D.str):=by unfold pf;rw[uh nor];exact ho
  refine⟨pA rfl,c5,_,_,_,rfl,by decide,i' tm ?_⟩;refine⟨by show(pf _ r).isSome=true;rw[pK];rfl,s,_,rfl,c11,o,_,_,own,rfl,XI,Xm,by decide,h64,pA rfl,i' pK ⟨?_,?_⟩⟩
  .rw[cX,cX,eI];omega
  .refine Xg _ _ ⟨?_,_,_,rfl⟩;rw[rT,de,hi];show pL M r (.lst (_++[rq (Al s own i)]))=_;rw[Ce];rfl
 .rintro δ M' ⟨rfl,x,y,rfl⟩
  refine⟨_,.refl,?_⟩;rw[cX,eI];exact q r hr
noncomputable def ID(ns:List Int)(own nm:QQQ)(i:Nat):vo:=(decide (0<draw (cell ns (1+(0+(i:Nat)))+31*(0+(i:Nat))*(0+(i:Nat))) 22695477 6),wk (cell ns (1+(0+(i:Nat)))+31*(0+(i:Nat))*(0+(i:Nat))) own nm)
noncomputable def xc(s:Int):Nat:=(draw s 950706376 11).toNat
noncomputable def vp(ns:List Int)(m:Int):pN:=
 let s:=cell ns 0;let own:=(qB s m).map (·.1);let gs:=qZ s own
 ⟨qB s m,gs,(List.range (xc s)).map (ID ns own (own++gs.map (·.1)))⟩
def Ni:rC:=λds M Q=>AC λns m=>ds=[.rl (ns.map D.int),.int m]/\2<=m/\m<=8/\∀r1 r2 r3 M',qz M M'->pf M' r1=some ((vp ns m).mT.map rf)->pf M' r2=some ((vp ns m).groups.map rq)->pf M' r3=some ((vp ns m).mS.map xj)->Q (.tup [.ref r1,.ref r2,.ref r3]) M'
def NC:Fq P w K mg base 4 a.bn Ni:=by
 refine fq G.bn.toDG sC (λr u=>⟨_,(pC (pR 2 sC (pO (Lb G) r G.O (so v0 pF)))
 (pC (pR 3 sC (pO (HE G) r G.bk (so U2 U1)))
 (pC (uM (i:=4) sC.nd rfl (Or.inl rfl) rfl (xt (ix:=[none]) (N':=["_law_phone"])) (qI U3) (qJ 0) rN (pQ v0 pF))
 (pC (pR 5 sC (pO (HN G) r G.bl (so U2 v4)))
 (pC (pR 6 sC (qc v4 (qK rfl (xt (ix:=[none]) (N':=["_law_group"])) (qI v5) (qJ 0) rN (pQ v0 pF))))
 (pC (pR 7 sC (qP sG))
 (pC (uN fm rfl (wu rfl G.aN (qr (pO (qO G) r G.i (rB U2 pF pF)))) (rL 8 sC)
 (pC (pR 9 sC (qc (pO (Lb G) r G.O (so v0 (qc pF v8))) (qc (qc pF v8) v8)))
 (pE (pU (ra v7 (qr (pS (so (qv u (pO (qO G) r G.i (rB v9 pF pF)) pF) (pO (Qw G) r G.bm (rB v9 v4 v6))))))))))
 (pE (pJ (pS (rB U3 v5 v7))))))))))),?_⟩)
 rintro ds M Q ⟨ns,m,rfl,h2,h8,q⟩
 have hz:=dN;have pl:=wV (s:=cell ns 0) h2 (by omega);have p8:rQ (cell ns 0) m<=8:=by have d1:=qQ (c:=cell ns 0) (f:=48271) (m:=m - 1) (by omega);unfold rQ;omega
 have gl:=wW (s:=cell ns 0);have lp:(qB (cell ns 0) m).length=rQ (cell ns 0) m:=by unfold qB;rw[cX,eI]
 refine⟨ns,0,rfl,cell ns 0,m,rfl,h2,by omega,λr1 XO=>?_⟩;have s1:=qz.new (c:=.lst ((qB (cell ns 0) m).map rf)) XO;have a1:=@pK M r1 ((qB (cell ns 0) m).map rf);generalize pL M r1 (.lst ((qB (cell ns 0) m).map rf))=M1 at s1 a1 ⊢;refine i' a1 (qV (f:=AS) a1 _ [] _ (by rw[cX];simp only[dM];omega) (λd hd k hk=>?_) λo ho=>?_)
 .obtain⟨x,_,rfl⟩:=dE.mp hd;exact hk
 rw[d6,wM];have s2:=s1.trans (qz.new (c:=.lst (((qB (cell ns 0) m).map (·.1)).map D.str)) ho);have b1:=(qz.new (c:=.lst (((qB (cell ns 0) m).map (·.1)).map D.str)) ho).lst a1;have bo:=@pK M1 o (((qB (cell ns 0) m).map (·.1)).map D.str);generalize pL M1 o (.lst (((qB (cell ns 0) m).map (·.1)).map D.str))=M2 at s2 b1 bo ⊢;have ol:((qB (cell ns 0) m).map (·.1)).length=rQ (cell ns 0) m:=by rw[cX,lp]
 have one:(qB (cell ns 0) m).map (·.1)≠[]:=λz=>by rw[z]at ol;have:0=rQ (cell ns 0) m:=ol;omega
 have Xj:vp ns m=⟨qB (cell ns 0) m,qZ (cell ns 0) ((qB (cell ns 0) m).map (·.1)),(List.range (xc (cell ns 0))).map (ID ns ((qB (cell ns 0) m).map (·.1)) ((qB (cell ns 0) m).map (·.1)++(qZ (cell ns 0) ((qB (cell ns 0) m).map (·.1))).map (·.1)))⟩:=rfl;rw[Xj]at q;generalize (qB (cell ns 0) m).map (·.1)=own at bo ol one q ⊢;refine⟨cell ns 0,o,own,rfl,bo,one,by omega,λr2 Zp=>?_⟩;have t3:=qz.new (c:=.lst ((qZ (cell ns 0) own).map rq)) Zp;have c2:=@pK M2 r2 ((qZ (cell ns 0) own).map rq);have c1:=t3.lst b1;have co:=t3.lst bo;have s3:=s2.trans t3;generalize pL M2 r2 (.lst ((qZ (cell ns 0) own).map rq))=M3 at s3 c1 c2 co ⊢;have gll:(qZ (cell ns 0) own).length=vK (cell ns 0):=by unfold qZ;rw[cX,eI]
 refine i' c2 (qV (f:=AS) c2 _ [] _ (by rw[cX];simp only[dM];omega) (λd hd k hk=>?_) λx4 hx4=>?_)
 .obtain⟨x,_,rfl⟩:=dE.mp hd;exact hk
 rw[d6,wR];have t4:=qz.new (c:=.lst (((qZ (cell ns 0) own).map (·.1)).map D.str)) hx4;refine i' (t4.lst co) (i' pK ⟨?_,λn hn=>?_⟩)
 .rw[cX,cX,cX];omega
 have en:own.map D.str++((qZ (cell ns 0) own).map (·.1)).map D.str=(own++(qZ (cell ns 0) own).map (·.1)).map D.str:=by rw[dQ]
 rw[en];have nl:(own++(qZ (cell ns 0) own).map (·.1)).length=rQ (cell ns 0) m+vK (cell ns 0):=by rw[de,cX,ol,gll]
 have t5:=t4.trans (qz.new (c:=.lst ((own++(qZ (cell ns 0) own).map (·.1)).map D.str)) hn);have en5:=@pK (pL M3 x4 (.lst (((qZ (cell ns 0) own).map (·.1)).map D.str))) n ((own++(qZ (cell ns 0) own).map (·.1)).map D.str);have e1:=t5.lst c1;have e2:=t5.lst c2;have eo:=t5.lst co;have s5:=s3.trans t5;generalize pL (pL M3 x4 (.lst (((qZ (cell ns 0) own).map (·.1)).map D.str))) n (.lst ((own++(qZ (cell ns 0) own).map (·.1)).map D.str))=M5 at s5 e1 e2 eo en5 ⊢;generalize own++(qZ (cell ns 0) own).map (·.1)=nm at en5 nl q ⊢;have d0:=rb (c:=cell ns 0) (f:=950706376) (m:=11) (by decide);have d1:=qQ (c:=cell ns 0) (f:=950706376) (m:=11) (by decide);refine⟨pA rfl,λr3 YX=>⟨_,_,_,rfl,by decide,rfl,⟨?_,?_⟩,?_⟩⟩
 .show -(2 ^ 62)<=draw (cell ns 0) 950706376 11;omega
 .show draw (cell ns 0) 950706376 11<2 ^ 62;omega
 have t6:=qz.new (c:=.lst []) YX;have g3:=@pK M5 r3 [];have no:o≠r3:=λz=>by have:=qm eo;rw[z,YX]at this;cases this
 have nn:n≠r3:=λz=>by have:=qm en5;rw[z,YX]at this;cases this
 have n1:r1≠r3:=λz=>by have:=qm e1;rw[z,YX]at this;cases this
 have n2:r2≠r3:=λz=>by have:=qm e2;rw[z,YX]at this;cases this
 have f1:=t6.lst e1;have f2:=t6.lst e2;have fo:=t6.lst eo;have fn:=t6.lst en5;have k6:qz M (pL M5 r3 (.lst [])):=s5.trans t6;have nr:M r3=none:=s5.none YX;generalize pL M5 r3 (.lst [])=M6 at f1 f2 fo fn k6 g3 ⊢;have wl:xc (cell ns 0)<=10:=by unfold xc;omega
 refine vT ((List.range (xc (cell ns 0))).map λi=>D.int (0+(i:Nat))) (λpre δ M'=>sf r3 M6 M'/\pf M' r3=some (((List.range pre.length).map (ID ns own nm)).map xj)/\∃x y,δ=[some (.rl (ns.map D.int)),some (.int m),some (.int (cell ns 0)),some (.ref r1),some (.ref o),some (.ref r2),some (.ref n),some (.ref r3),x,y]) (λp δ M' j=>trivial) _ [] _ _ rfl ⟨λ_ _ _ h=>h,g3,none,none,rfl⟩ ?_ ?_
 .rintro pre d post e δ M' ⟨kp,lr,x,y,rfl⟩ nx Xg
  obtain⟨rfl,Xe⟩:=BY e;generalize hi:pre.length=i at Xe Xg lr ⊢;have c31:Dv 31 (0+(i:Int)):=.inl ⟨by decide,by decide⟩;have cm:Dv (31*(0+(i:Int))) (0+(i:Int)):=.inr ⟨by omega,by omega⟩;refine⟨ns,_,rfl,c31,cm,?_⟩;refine⟨by show(pf M' r3).isSome=true;rw[lr];rfl,_,_,_,rfl,by decide,_,o,n,own,nm,rfl,kp.lst no fo,kp.lst nn fn,one,by omega,by omega,by omega,pA rfl,i' lr ⟨?_,?_⟩⟩
  .rw[cX,cX,eI];omega
  .refine Xg _ _ ⟨kp.trans .put,?_,_,_,rfl⟩;rw[pK,de,hi];show some (_++[xj (ID ns own nm i)])=_;rw[Ce];rfl
 .rintro δ M' ⟨kp,lr,x,y,rfl⟩
  rw[cX,eI]at lr;exact⟨pA rfl,M',.refl,q r1 r2 r3 M' (λb c h=>kp b c (λz=>by rw[z,nr]at h;cases h) (k6 b c h)) (kp.lst n1 f1) (kp.lst n2 f2) lr⟩
theorem BI(x:Array Nat):∀(n:Nat) (acc:Array Nat),((List.replicate n x).foldl (·++·) acc).toList=acc.toList++(List.replicate n x.toList).flatten
 | 0,acc=>by simp
 | n+1,acc=>by rw[eL,fX,BI x n (acc++x),eL,fQ,ji,fz]
theorem G5(c:Nat):∀n:Nat,(List.replicate n [c]).flatten=List.replicate n c
 | 0=>rfl
 | n+1=>by rw[eL,fQ,G5 c n,eL];rfl
def D6(i n:Int):(yK (uk i) n).cps.toList=List.replicate n.toNat (97+i.toNat):=by show((List.replicate n.toNat (uk i).cps).foldl (·++·) #[]:Array Nat).toList=_;rw[BI];show[]++(List.replicate n.toNat [97+i.toNat]).flatten=_;rw[d6,G5]
def yb(s v:Int):(xO s v).cps.toList=List.replicate (uu s).toNat (97+(s / 36 % 26).toNat)++(97+((s / 936+v) % 26).toNat)::List.replicate (size s - 1 - uu s).toNat (97+(s / 36 % 26).toNat):=by show((yK (uk (s / 36 % 26)) (uu s)).cps++(uk ((s / 936+v) % 26)).cps++(yK (uk (s / 36 % 26)) (size s - 1 - uu s)).cps).toList=_;rw[ji,ji,D6,D6];show _++[97+((s / 936+v) % 26).toNat]++_=_;rw[fz];rfl
def BX(s v:Int):1<=(xO s v).length/\(xO s v).length<=6:=by
 have e:(xO s v).length=(xO s v).cps.toList.length:=by simp[Str.length]
 rw[e,yb,de,eD,iP,iP];have h1:=Gp s;have h2:=IJ s;have h3:0<=uu s:=eW _ (by omega);have h4:uu s<size s:=eQ _ h1;omega
def LZ{i:Int}(h0:0<=i)(h1:i<26):C5 ⟨#[97+i.toNat]⟩ uy=true:=by
 obtain⟨n,rfl⟩:=eF h0;have hn:n<26:=by omega
 have key:∀n:_root_.Fin 26,C5 ⟨#[97+n.val]⟩ uy=true:=by decide+kernel
 exact key ⟨n,hn⟩
def DM(s v:Int):uo (xO s v)=true:=by
 obtain⟨h1,h2⟩:=BX s v;unfold uo;rw[dZ (show(1:Int)<=(xO s v).length by omega),dZ (show((xO s v).length:Int)<=6 by omega),eN,eN,eG];intro c hc;rw[yb]at hc;have k1:=LZ (eW (s / 36) (show(26:Int)≠0 by decide)) (eQ (s / 36) (by decide));have k2:=LZ (eW (s / 936+v) (show(26:Int)≠0 by decide)) (eQ (s / 936+v) (by decide));rcases eh.mp hc with z|z
 .rw[jW z];exact k1
 .rcases dv.mp z with z|z
  .rw[z];exact k2
  .rw[jW z];exact k1
def CD{s u v:Int}(hu:0<=u)(hu':u<26)(hv:0<=v)(hv':v<26)(e:xO s u=xO s v):u=v:=by
 have e':(xO s u).cps.toList=(xO s v).cps.toList:=by rw[e]
 rw[yb,yb]at e';have:=(List.append_cancel_left e');have:=(gv this).1;have a1:=eW (s / 936+u) (show(26:Int)≠0 by decide);have a2:=eW (s / 936+v) (show(26:Int)≠0 by decide);have h:(s / 936+u) % 26=(s / 936+v) % 26:=by omega
 omega
def Ft{ss:QQQ}{x:Str}(h:x∈ss):xx ss x:=gA.mpr ⟨x,h,by simp⟩
def Bi{row:QQQ}{i:Int}(h0:0<=i)(h1:i<row.length):BJ row i∈row:=by
 obtain⟨n,rfl⟩:=eF h0;have hn:n<row.length:=by omega
 have:BJ row (n:Int)=row[n]:=by simp[BJ,hn]
 rw[this];exact ig hn
def IS{row:QQQ}{i j:Int}(nd:row.Nodup)(h0:0<=i)(h1:i<row.length)(g0:0<=j)(g1:j<row.length)(e:BJ row i=BJ row j):i=j:=by
 obtain⟨n,rfl⟩:=eF h0;obtain⟨k,rfl⟩:=eF g0;have hn:n<row.length:=by omega
 have hk:k<row.length:=by omega
 have e1:BJ row (n:Int)=row[n]:=by simp[BJ,hn]
 have e2:BJ row (k:Int)=row[k]:=by simp[BJ,hk]
 rw[e1,e2]at e;have pw:=jI.mp nd;rcases Nat.lt_trichotomy n k with z|z|z
 .exact absurd e (pw n k hn hk z)
 .rw[z]
 .exact absurd e.symm (pw k n hk hn z)
def zV{α:Type}(f:Nat->α)(n:Nat)(h:∀i j,i<n->j<n->f i=f j->i=j):((List.range n).map f).Nodup:=by refine jI.mpr λi j hi hj Xe e=>?_;rw[cX,eI]at hi hj;rw[mh,mh,ly,ly]at e;have:=h i j hi hj e;omega
def Ci{row:QQQ}{c m:Int}(hr:row≠[])(hm:0<m):1<=xl row c m/\(xl row c m:Int)<=m/\xl row c m<=row.length:=by
 have hl:0<row.length:=fF.mpr hr;have d0:=rb (c:=c) (f:=40692) (m:=if (row.length:Int)<m then(row.length:Int)else m) (by split<;>omega);have d1:=qQ (c:=c) (f:=40692) (m:=if (row.length:Int)<m then(row.length:Int)else m) (by split<;>omega);unfold xl;by_cases h:(row.length:Int)<m
 .rw[dh h]at d0 d1 ⊢;omega
 .rw[df h]at d0 d1 ⊢;omega
def BW{row:QQQ}{c:Int}(hr:row≠[])(j:Nat):0<=(draw c 69621 row.length+(0+(j:Nat))) % (row.length:Int)/\(draw c 69621 row.length+(0+(j:Nat))) % (row.length:Int)<row.length:=by have hl:0<row.length:=fF.mpr hr;exact⟨eW _ (by omega),eQ _ (by omega)⟩
def Jh{d n i j:Int}(hn:0<n)(hi:0<=i)(YF:i<n)(hj:0<=j)(hj':j<n)(e:(d+i) % n=(d+j) % n):i=j:=by
 have h1:=kx (d+i) n;have h2:=kx (d+j) n;generalize (d+i) / n=a at h1;generalize (d+j) / n=b at h2;have h3:i - j=n*(a - b):=by rw[Int.mul_sub];omega
 rcases Int.lt_trichotomy (a - b) 0 with z|z|z
 .have:n*(a - b)<=n*(-1):=jg (by omega) (by omega);omega
 .rw[z]at h3;omega
 .have:n*1<=n*(a - b):=jg (by omega) (by omega);omega
def Hg{row:QQQ}{c m:Int}(nd:row.Nodup)(hr:row≠[])(hm:0<m):(vP row c m).Nodup:=by have hl:0<row.length:=fF.mpr hr;obtain⟨_,_,l3⟩:=Ci (c:=c) hr hm;refine zV _ _ λi j hi hj e=>?_;obtain⟨a0,a1⟩:=BW (c:=c) hr i;obtain⟨b0,b1⟩:=BW (c:=c) hr j;have e':=IS nd a0 a1 b0 b1 e;have:=Jh (d:=draw c 69621 row.length) (n:=row.length) (i:=0+(i:Nat)) (j:=0+(j:Nat)) (by omega) (by omega) (by omega) (by omega) (by omega) e';omega
def xE{row:QQQ}{c m k:Int}(nd:row.Nodup)(hr:row≠[])(hm:0<m)(hk:m<=k):sJ (vP row c m) row k=true:=by
 obtain⟨l1,l2,l3⟩:=Ci (c:=c) hr hm;have el:(vP row c m).length=xl row c m:=by unfold vP;rw[cX,eI]
 unfold sJ;rw[el,dZ (show(1:Int)<=xl row c m by omega),dZ (show(xl row c m:Int)<=k by omega),DD (Hg nd hr hm),eN,eN,eN,eG];intro x hx;unfold vP at hx;obtain⟨j,_,rfl⟩:=dE.mp hx;obtain⟨a0,a1⟩:=BW (c:=c) hr j;exact Ft (Bi a0 a1)
def B5{row:QQQ}{c m:Int}(hr:row≠[])(hm:0<m)(h:m<=100):(vP row c m).length<4000:=by
 obtain⟨l1,l2,l3⟩:=Ci (c:=c) hr hm;have el:(vP row c m).length=xl row c m:=by unfold vP;rw[cX,eI]
 omega
def Pc{c:Int}{own all:QQQ}(no:own.Nodup)(na:all.Nodup)(ho:own≠[])(ha:2<=all.length):Co own all (wk c own all):=by
 have hl:(0:Int)<own.length:=by have:=fF.mpr ho;omega
 have ha0:all≠[]:=λz=>by rw[z]at ha;simp at ha
 have hx:=Ft (Bi (rb (c:=c) (f:=16807) hl) (qQ (c:=c) (f:=16807) hl));have p0:=rb (c:=c) (f:=39373) (m:=all.length) (by omega);have p1:=qQ (c:=c) (f:=39373) (m:=all.length) (by omega);have e0:=rb (c:=c) (f:=742938285) (m:=(all.length:Int) - 1) (by omega);have e1:=qQ (c:=c) (f:=742938285) (m:=(all.length:Int) - 1) (by omega);have z0:=eW (draw c 39373 all.length+1+draw c 742938285 ((all.length:Int) - 1)) (show(all.length:Int)≠0 by omega);have z1:=eQ (draw c 39373 all.length+1+draw c 742938285 ((all.length:Int) - 1)) (show(0:Int)<all.length by omega);have hy:=Ft (Bi p0 p1);have hzz:=Ft (Bi z0 z1);have ne:BJ all (draw c 39373 all.length)≠BJ all ((draw c 39373 all.length+1+draw c 742938285 ((all.length:Int) - 1)) % all.length):=λz=>by
  have q:=IS na p0 p1 z0 z1 z;have q2:(draw c 39373 all.length+0) % (all.length:Int)=(draw c 39373 all.length+(1+draw c 742938285 ((all.length:Int) - 1))) % (all.length:Int):=by rw[Int.add_zero,Int.emod_eq_of_lt p0 p1,<-Int.add_assoc];exact q
  have:=Jh (by omega) (by omega) (by omega) (by omega) (by omega) q2;omega
 have f0:=rb (c:=c) (f:=22695477) (m:=24) (by decide);have f1:=qQ (c:=c) (f:=22695477) (m:=24) (by decide);have g0:=rb (c:=c) (f:=48271) (m:=23) (by decide);have g1:=qQ (c:=c) (f:=48271) (m:=23) (by decide);have t0:=rb (c:=c) (f:=950706376) (m:=5) (by decide);have t1:=qQ (c:=c) (f:=950706376) (m:=5) (by decide);unfold wk;simp only;split
 .exact⟨hx,B5 ha0 (by decide) (by decide),xE na ha0 (by decide) (by decide)⟩
 .split
  .exact⟨hy,B5 ho (by decide) (by decide),xE no ho (by decide) (by decide)⟩
  .split
   .exact⟨hy,hzz,ne⟩
   .split
    .refine⟨hy,hzz,ne,⟨f0,by omega⟩,⟨eW _ (by decide),?_⟩,?_⟩
     .have:=eQ (draw c 22695477 24+1+draw c 48271 23) (show(0:Int)<24 by decide);omega
     .omega
    .split
     .exact⟨hy,hzz,ne⟩
     .split
      .refine⟨hy,hzz,ne,?_⟩;generalize draw c 950706376 5=d at t0 t1;have:d=0\/d=1\/d=2\/d=3\/d=4:=by omega
       rcases this with z|z|z|z|z<;>(subst z;decide)
      .split
       .exact hx
       .exact hx
def L5(s:Int)(i:Nat):FS (we s i):=by
 have t0:=rb (c:=s+17*(0+(i:Nat))*(0+(i:Nat))) (f:=16807) (m:=5) (by decide);have t1:=qQ (c:=s+17*(0+(i:Nat))*(0+(i:Nat))) (f:=16807) (m:=5) (by decide);have u0:=rb (c:=s+17*(0+(i:Nat))*(0+(i:Nat))) (f:=39373) (m:=6) (by decide);have u1:=qQ (c:=s+17*(0+(i:Nat))*(0+(i:Nat))) (f:=39373) (m:=6) (by decide);have a:1<=(we s i).2.1/\(we s i).2.1<=3:=by
  show 1<=F7 Pn (draw (s+17*(0+(i:Nat))*(0+(i:Nat))) 16807 5)/\F7 Pn (draw (s+17*(0+(i:Nat))*(0+(i:Nat))) 16807 5)<=3;generalize draw (s+17*(0+(i:Nat))*(0+(i:Nat))) 16807 5=d at t0 t1;have:d=0\/d=1\/d=2\/d=3\/d=4:=by omega
  rcases this with z|z|z|z|z<;>(subst z;decide)
 have b:0<=(we s i).2.2/\(we s i).2.2<=9:=by
  show 0<=F7 Oi (draw (s+17*(0+(i:Nat))*(0+(i:Nat))) 39373 6)/\F7 Oi (draw (s+17*(0+(i:Nat))*(0+(i:Nat))) 39373 6)<=9;generalize draw (s+17*(0+(i:Nat))*(0+(i:Nat))) 39373 6=d at u0 u1;have:d=0\/d=1\/d=2\/d=3\/d=4\/d=5:=by omega
  rcases this with z|z|z|z|z|z<;>(subst z;decide)
 exact⟨d9 (BX s (0+(i:Nat))).2 (by decide),DM _ _,a.1,a.2,b.1,b.2⟩
def Lx{s:Int}{own:QQQ}(nd:own.Nodup)(hr:own≠[])(i:Nat):FB own (Al s own i):=by
 have t0:=rb (c:=s+5*(0+(i:Nat))) (f:=742938285) (m:=2) (by decide);have t1:=qQ (c:=s+5*(0+(i:Nat))) (f:=742938285) (m:=2) (by decide);refine⟨d9 (BX s (8+(0+(i:Nat)))).2 (by decide),DM _ _,?_,B5 hr (by decide) (by decide),xE nd hr (by decide) (by decide)⟩;show BJ Pf (draw (s+5*(0+(i:Nat))) 742938285 2)="all"\/BJ Pf (draw (s+5*(0+(i:Nat))) 742938285 2)="turns";generalize draw (s+5*(0+(i:Nat))) 742938285 2=d at t0 t1;have:d=0\/d=1:=by omega
 rcases this with z|z
 .subst z;exact .inl rfl
 .subst z;exact .inr rfl
def MO(s m:Int):(qB s m).map (·.1)=(List.range (rQ s m)).map λi=>xO s (0+(i:Nat)):=by unfold qB;rw[eA];rfl
def GG{s m:Int}(h2:2<=m)(h8:m<=8):((qB s m).map (·.1)).Nodup/\∀own,((qB s m).map (·.1)++(qZ s own).map (·.1)).Nodup:=by
 have d1:=qQ (c:=s) (f:=48271) (m:=m - 1) (by omega);have d0:=rb (c:=s) (f:=48271) (m:=m - 1) (by omega);have p8:rQ s m<=8:=by unfold rQ;omega
 have g3:=wW (s:=s);have a:((qB s m).map (·.1)).Nodup:=by rw[MO];refine zV _ _ λi j hi hj e=>?_;have:=CD (by omega) (by omega) (by omega) (by omega) e;omega
 refine⟨a,λown=>?_⟩;have ge:(qZ s own).map (·.1)=(List.range (vK s)).map λi=>xO s (8+(0+(i:Nat))):=by unfold qZ;rw[eA];rfl
 rw[gq];refine⟨a,?_,λx hx y hy e=>?_⟩
 .rw[ge];refine zV _ _ λi j hi hj e=>?_;have:=CD (by omega) (by omega) (by omega) (by omega) e;omega
 .rw[MO]at hx;rw[ge]at hy;obtain⟨i,hi,rfl⟩:=dE.mp hx;obtain⟨j,hj,rfl⟩:=dE.mp hy;have hi:=gi.mp hi;have hj:=gi.mp hj;have:=CD (by omega) (by omega) (by omega) (by omega) e;omega
def Oa{ns:List Int}{m:Int}(h2:2<=m)(h8:m<=8):r6 (vp ns m):=by
 obtain⟨n1,n2⟩:=GG (s:=cell ns 0) h2 h8;have pl:=wV (s:=cell ns 0) h2 (by omega);have p8:rQ (cell ns 0) m<=8:=by have d1:=qQ (c:=cell ns 0) (f:=48271) (m:=m - 1) (by omega);unfold rQ;omega
 have lp:(qB (cell ns 0) m).length=rQ (cell ns 0) m:=by unfold qB;rw[cX,eI]
 have ol:((qB (cell ns 0) m).map (·.1)).length=rQ (cell ns 0) m:=by rw[cX,lp]
 have one:(qB (cell ns 0) m).map (·.1)≠[]:=λz=>by rw[z]at ol;have:0=rQ (cell ns 0) m:=ol;omega
 have gl:(qZ (cell ns 0) ((qB (cell ns 0) m).map (·.1))).length=vK (cell ns 0):=by unfold qZ;rw[cX,eI]
 refine⟨?_,?_,λp hp=>?_,?_,λg hg=>?_,n2 _,?_,λv hv=>?_⟩
 .show 1<=(qB (cell ns 0) m).length;omega
 .show(qB (cell ns 0) m).length<=8;omega
 .obtain⟨i,_,rfl⟩:=dE.mp hp;exact L5 _ i
 .show(qZ (cell ns 0) ((qB (cell ns 0) m).map (·.1))).length<=3;rw[gl];exact wW
 .obtain⟨i,_,rfl⟩:=dE.mp hg;exact Lx n1 one i
 .show((List.range (xc (cell ns 0))).map _).length<=16;rw[cX,eI];have d1:=qQ (c:=cell ns 0) (f:=950706376) (m:=11) (by decide);unfold xc;omega
 .obtain⟨i,hi,rfl⟩:=dE.mp hv;refine Pc n1 (n2 _) one ?_;show 2<=((qB (cell ns 0) m).map (·.1)++_).length;rw[de,ol];omega
structure pI where
 st:Str
 cr:Str
 way:QQQ
 at_:QQQ
 ms:QQQ
 hd:Option Str
 si:Int
 wd:Option Str
structure rA where
 i:Nat
 f:Str
 g:Str
 y:Str
inductive Ev
 | new (n:Nat) (x:Str)
 | leg (v:rA)
 | asks (i:Nat) (z:Str) (ns:List Nat)
 | next (z:Str) (n:Int)
 | merge (i j:Nat) (ms:QQQ)
 | turn
 | sw (b:Bool) (i:Nat)
 | rings (i:Nat) (ps:QQQ)
 | quiet (i:Nat)
 | waits (i:Nat) (x:Str)
 | talks (i:Nat) (ms:QQQ)
 | held (i:Nat) (x:Str)
 | leaves (i:Nat) (x:Str)
 | over (i:Nat) (w:Str)
structure qC where
 p:Addr
 h:Int
 t:Int
 calls:List pI
 m8:List rA
 ps:List (Str×Int)
 on:List Bool
 log:List Ev
 fo:QXQ
noncomputable def wm(ns:List Nat):D:=.tup (ns.map λn=>D.int (n:Nat))
noncomputable def rA.d(v:rA):D:=.tup [.int (v.i:Nat),.str v.f,.str v.g,.str v.y]
noncomputable def TM(b:Bool):Str:=if b=true then "on" else "off"
noncomputable def Ev.d:Ev->D
 | .new n x=>.tup [.str "new",.int (n:Nat),.str x]
 | .leg v=>.tup [.str "leg",.int (v.i:Nat),.str v.f,.str v.g,.str v.y]
 | .asks i z ns=>.tup [.str "asks",.int (i:Nat),.str z,wm ns]
 | .next z n=>.tup [.str "next",.str z,.int n]
 | .merge i j ms=>.tup [.str "merge",.int (i:Nat),.int (j:Nat),names ms]
 | .turn=>.tup [.str "turn"]
 | .sw b i=>.tup [.str (TM b),.int (i:Nat)]
 | .rings i ps=>.tup [.str "rings",.int (i:Nat),names ps]
 | .quiet i=>.tup [.str "quiet",.int (i:Nat)]
 | .waits i x=>.tup [.str "waits",.int (i:Nat),.str x]
 | .talks i ms=>.tup [.str "talks",.int (i:Nat),names ms]
 | .held i x=>.tup [.str "held",.int (i:Nat),.str x]
 | .leaves i x=>.tup [.str "leaves",.int (i:Nat),.str x]
 | .over i w=>.tup [.str "over",.int (i:Nat),.str w]
noncomputable def hasS(ss:QQQ)(x:Str):Bool:=ss.any (·==x)
noncomputable def rR(ss:QQQ)(x:Str):QQQ:=ss.filter λy=>!(y==x)
noncomputable def zc(x:Str):pI:=⟨"rings",x,[],[],[],none,0,none⟩
noncomputable def pI.over(c:pI)(w:Str):pI:={c with st:="over",wd:=some w,at_:=[],ms:=[],hd:=none}
noncomputable def pI.drop(c:pI)(x:Str):pI:={c with at_:=rR c.at_ x,ms:=rR c.ms x}
noncomputable def pI.ring(c:pI)(ps:QQQ):pI:={c with st:="rings",at_:=ps,si:=0}
noncomputable def pI.nP(c:pI)(ms:QQQ):pI:={c with st:="talks",ms:=ms,at_:=[],hd:=none}
noncomputable def pI.wait(c:pI)(x:Str):pI:={c with st:="waits",at_:=[x]}
noncomputable def pI.hold(c:pI)(x:Str):pI:={c with st:="held",hd:=some x}
noncomputable def pI.nS(c:pI):pI:={c with at_:=[]}
noncomputable def pI.mem(c:pI)(ms:QQQ):pI:={c with ms:=ms}
noncomputable def pI.go(c:pI)(g:Str):pI:={c with way:=c.way++[g]}
noncomputable def pI.tick(c:pI):pI:=if (c.st=="rings")=true then{c with si:=c.si+1}else c
noncomputable def rA.to(m k:Nat)(v:rA):rA:=if v.i=m then{v with i:=k}else v
noncomputable def Cp(ps:List (Str×Int))(z:Str)(n:Int):List (Str×Int):=if ps.any (λp=>decide (p.1=z))=true then ps.map (λp=>if p.1=z then(p.1,n)else p)else ps++[(z,n)]
noncomputable def xD(V:qC)(i:Nat)(f:pI->pI):qC:={V with calls:=V.calls.modify i f}
noncomputable def qR(V:qC)(e:Ev):qC:={V with log:=V.log++[e]}
noncomputable def Ug(V:qC):Ev->qC
 | .new _ x=>{V with calls:=V.calls++[zc x]}
 | .leg v=>{V with m8:=V.m8++[v],calls:=V.calls.modify v.i (·.go v.g)}
 | .asks _ _ _=>V
 | .next z n=>{V with ps:=Cp V.ps z n}
 | .merge i j ms=>{V with calls:=(V.calls.modify i (·.over "merged")).modify j (·.mem ms),m8:=V.m8.map (rA.to i j)}
 | .turn=>{V with t:=V.t+1,calls:=V.calls.map pI.tick}
 | .sw b i=>{V with on:=V.on.set i b}
 | .rings i ps=>xD V i (·.ring ps)
 | .quiet i=>xD V i pI.nS
 | .waits i x=>xD V i (·.wait x)
 | .talks i ms=>xD V i (·.nP ms)
 | .held i x=>xD V i (·.hold x)
 | .leaves i x=>xD V i (·.drop x)
 | .over i w=>xD V i (·.over w)
noncomputable def qo(V:qC)(e:Ev):qC:=Ug (qR V e) e
noncomputable def qL(V:qC)(es:List Ev):qC:=es.foldl qo V
def Ev.ok(V:qC):Ev->Prop
 | .new _ _=>True
 | .leg v=>v.i<V.calls.length
 | .asks _ _ _=>True
 | .next _ _=>True
 | .merge i j ms=>i<V.calls.length/\j<V.calls.length/\i≠j/\ms.length<=100
 | .turn=>True
 | .sw _ i=>i<V.on.length
 | .rings i ps=>i<V.calls.length/\ps.length<=100
 | .quiet i=>i<V.calls.length
 | .waits i _=>i<V.calls.length
 | .talks i ms=>i<V.calls.length/\ms.length<=100
 | .held i _=>i<V.calls.length
 | .leaves i _=>i<V.calls.length
 | .over i _=>i<V.calls.length
def rP(V:qC)(es fs:List Ev):qL V (es++fs)=qL (qL V es) fs:=iI ..
theorem Bg:∀(es:List Ev) (V:qC),(qL V es).log=V.log++es
 | [],V=>(fh _).symm
 | e::r,V=>by
  show(qL (qo V e) r).log=_;rw[Bg r];have:(qo V e).log=V.log++[e]:=by cases e<;>rfl
  rw[this,fz];rfl
noncomputable def pI.m9(c:pI)(x:Str):Bool:=(c.st=="talks")&&hasS c.ms x
noncomputable def pI.hasB(c:pI)(x:Str):Bool:=if (c.st=="rings")=true then(x==c.cr)||hasS c.at_ x else if (c.st=="waits")=true then x==c.cr else(c.st=="talks"||c.st=="held")&&hasS c.ms x
noncomputable def pI.nA(c:pI)(x:Str):Bool:=if (c.st=="held")=true then hasS c.ms x&&!((c.hd==some x))else c.m9 x
noncomputable def pI.ng(c:pI)(x:Str):Bool:=(c.st=="rings"||c.st=="waits")&&(x==c.cr)
noncomputable def pI.mX(c:pI)(x:Str):Bool:=(c.st=="waits")&&hasS c.at_ x
noncomputable def pI.nJ(c:pI)(x:Str):Bool:=c.ng x||(hasS c.at_ x||hasS c.ms x)
noncomputable def pI.ni(c:pI)(x:Str):Bool:=c.m9 x&&(c.ms.length==2)
noncomputable def vc(V:qC)(x:Str):Nat:=(V.calls.filter (·.hasB x)).length
noncomputable def xf(l:pN)(x:Str):Int:=(l.nz x).elim 0 λv=>v.2.1
noncomputable def vN(l:pN)(x:Str):Int:=(l.nz x).elim 0 λv=>v.2.2
noncomputable def tV(l:pN)(V:qC)(x:Str):Bool:=decide ((vc V x:Int)<xf l x)
noncomputable def uB(l:pN)(V:qC)(c z:Str):QQQ:=(l.mQ z).filter λx=>!(x==c)&&tV l V x
noncomputable def xB(l:pN)(V:qC)(c z:Str):Bool:=(uB l V c z).isEmpty
noncomputable def vF(V:qC)(x:Str):Option Nat:=V.calls.findIdx? (·.m9 x)
noncomputable def FK(V:qC)(x:Str):Option Nat:=V.calls.findIdx? (·.nA x)
noncomputable def JL(V:qC)(x:Str):Option Nat:=V.calls.findIdx? (·.ng x)
noncomputable def Ax(V:qC)(x:Str):Bool:=V.calls.any (·.mX x)
noncomputable def Pb:Option Nat->D
 | none=>.mW
 | some j=>.int (j:Nat)
noncomputable def FM(f l h:Int):Bool:=if f<l then decide (f<=h)&&decide (h<l)else decide (h>=f)||decide (h<l)
noncomputable def HS(l:pN)(x:Str)(ms:QQQ):Bool:=ms.all λm=>decide (vN l m<vN l x)
noncomputable def HK(l:pN)(V:qC)(x c z:Str):Bool:=if (!(c==x)||(z==x))=true then false else if (!(hasS l.pn z)||!(xB l V c z))=true then false else((vF V z).bind (V.calls[·]?)).elim false λk=>(k.ms.length==2)&&HS l x k.ms
noncomputable def AV(l:pN)(V:qC)(c z:Str):Wi->Bool
 | .bar x ns=>(c==x)&&hasS ns z
 | .shut x ns=>(z==x)&&hasS ns c
 | .always x _=>z==x
 | .night x _ f m=>(z==x)&&FM f m ((V.h+V.t) % 24)
 | .busy x _=>(z==x)&&xB l V c z
 | .silent _ _ _=>false
 | .wait x=>if (!(z==x)||(c==x))=true then false else xB l V c z&&!(Ax V z)
 | .breaks x=>HK l V x c z
noncomputable def Gd(c:pI):Wi->Bool
 | .silent x _ n=>(c.way.getLast?==some x)&&decide (n<=c.si)
 | _=>false
noncomputable def Ik(l:pN)(V:qC)(f:Wi->Bool):List Nat:=(List.range V.on.length).filter λi=>V.on.getD i false&&(l.mS[i]?).elim false λw=>f w.2
noncomputable def DO(l:pN)(V:qC)(c z:Str):List Nat:=Ik l V (AV l V c z)
noncomputable def uW(ms:QQQ)(n:Nat):QQQ:=ms.drop n++ms.take n
noncomputable def zE(V:qC)(z:Str):Nat:=((V.ps.find? λp=>decide (p.1=z)).elim 0 λp=>p.2).toNat
noncomputable def xK(l:pN)(V:qC)(c z:Str):QQQ:=if (l.m7 z=="turns")=true then((uW (l.mQ z) (zE V z)).filter λx=>hasS (uB l V c z) x).take 1 else uB l V c z
inductive vR
 | engaged (z:Str)
 | rings (z:Str) (ps:QQQ)
 | waits (z:Str)
 | breaks (z:Str)
 | barred
 | ring (ns:QQQ)
noncomputable def vR.d:vR->D
 | .engaged z=>.tup [.str "engaged",.str z]
 | .rings z ps=>.tup [.str "rings",.str z,names ps]
 | .waits z=>.tup [.str "waits",.str z]
 | .breaks z=>.tup [.str "breaks",.str z]
 | .barred=>.tup [.str "barred"]
 | .ring ns=>.tup [.str "ring",names ns]
noncomputable def HU(l:pN)(V:qC)(c z:Str):vR:=match xK l V c z with
 | []=>.engaged z
 | x::r=>.rings z (x::r)
noncomputable def JH(z:Str):Wi->Sum vR Str
 | .bar _ _=>.inl .barred
 | .shut _ _=>.inl .barred
 | .always _ y=>.inr y
 | .night _ y _ _=>.inr y
 | .busy _ y=>.inr y
 | .silent _ y _=>.inr y
 | .wait _=>.inl (.waits z)
 | .breaks _=>.inl (.breaks z)
abbrev tJ:=List (Str×List Nat)
noncomputable def wN(l:pN)(V:qC)(c:Str):Nat->Str->QQQ->tJ->vR×tJ
 | 0,_,_,st=>(.barred,st)
 | n+1,z,way,st=>if hasS way z=true then(.ring (way.drop (way.findIdx (·==z))),st)else
  match DO l V c z with
  | []=>(HU l V c z,st++[(z,[])])
  | i::r=>(l.mS[i]?).elim (.barred,st) λw=>match JH z w.2 with
   | .inl e=>(e,st++[(z,i::r)])
   | .inr y=>wN l V c n y (way++[z]) (st++[(z,i::r)])
noncomputable def vb(l:pN)(V:qC)(c z:Str)(way:QQQ):vR×tJ:=wN l V c (l.nm.length+1) z way []
noncomputable def rS(i:Nat):Option Str->tJ->List Ev
 | _,[]=>[]
 | none,(z,fs)::r=>.asks i z fs::rS i (some z) r
 | some y,(z,fs)::r=>.leg ⟨i,y,z,y⟩::.asks i z fs::rS i (some z) r
noncomputable def QQ(ms:QQQ)(x:Str):Int:=((ms.findIdx (·==x):Nat)+1) % (ms.length:Int)
noncomputable def tH(l:pN)(V:qC)(i:Nat):vR->List Ev
 | .rings z ps=>(if (l.m7 z=="turns")=true then[.next z (QQ (l.mQ z) (ps.headD Str.empty))]else[])++[.rings i ps]
 | .waits z=>[.waits i z]
 | .breaks z=>match vF V z,V.calls[i]? with
  | some j,some c=>[.merge i j ((V.calls[j]?).elim [] (·.ms)++[c.cr])]
  | _,_=>[]
 | .engaged _=>[.over i "engaged"]
 | .barred=>[.over i "barred"]
 | .ring _=>[.over i "ring"]
noncomputable def ud(i:Nat)(st:tJ):vR->List Ev
 | .ring ns=>(st.getLast?).elim [] λs=>[.leg ⟨i,s.1,ns.headD Str.empty,s.1⟩]
 | _=>[]
noncomputable def xn(l:pN)(V:qC)(i:Nat):List Ev:=(V.calls[i]?).elim [] λc=>
 let r:=vb l V c.cr (c.way.getLastD Str.empty) c.way.dropLast
 rS i none r.2++(ud i r.2 r.1++tH l V i r.1)
noncomputable def FN(l:pN)(V:qC)(y z:Str):List Ev:=
 let es:=[Ev.new V.calls.length y,.leg ⟨V.calls.length,y,z,y⟩]
 es++xn l (qL V es) V.calls.length
noncomputable def wG(V:qC)(x:Str)(i:Nat):List Ev:=(V.calls[i]?).elim [] λc=>if c.ng x=true then[.over i "left"]else if hasS c.at_ x=true then .leaves i x::(if rR c.at_ x=[]then[.over i "refused"]else[])else if 2<c.ms.length then[.leaves i x]else[.over i "done"]
noncomputable def uc(l:pN)(V:qC)(i:Nat)(fs:List Nat):List Ev:=match fs.head?.bind (l.mS[·]?)with
 | some (_,.silent x y _)=>
  let es:=[Ev.asks i x fs,.quiet i,.leg ⟨i,x,y,x⟩]
  es++xn l (qL V es) i
 | _=>[]
noncomputable def zb(l:pN)(V:qC)(i:Nat):List Nat:=(V.calls[i]?).elim [] λc=>if (c.st=="rings")=true then Ik l V (Gd c)else[]
noncomputable def rZ(l:pN):List Nat->qC->List Ev
 | [],_=>[]
 | i::r,V=>uc l V i (zb l V i)++rZ l r (qL V (uc l V i (zb l V i)))
noncomputable def Fh(l:pN)(V:qC):List Ev:=.turn::rZ l (List.range V.calls.length) (qo V .turn)
inductive um
 | call (y z:Str)
 | num (w x:Str) (ns:List Int)
 | turn
 | sw (b:Bool) (i:Int)
noncomputable def um.d:um->D
 | .call y z=>.tup [.str "call",.str y,.str z]
 | .num w x ns=>.tup (.str w::.str x::ns.map D.int)
 | .turn=>.tup [.str "turn"]
 | .sw b i=>.tup [.str (TM b),.int i]
def um.nK:um->Prop
 | .num w _ ns=>((w="answer"\/w="hang"\/w="hold"\/w="back")/\ns.length=1)\/((w="hand"\/w="join")/\ns.length=2)
 | _=>True
noncomputable def uH(V:qC)(x:Str):Option Str:=if (FK V x).isSome=true then some "bound" else if (JL V x).isSome=true then some "calls" else none
noncomputable def zr(n:Nat)(i:Int):Bool:=decide (0<=i)&&decide (i<(n:Int))
noncomputable def IU(w x:Str):List pI->Bool
 | []=>false
 | c::r=>if (w=="answer")=true then hasS c.at_ x else if (w=="hang")=true then c.nJ x else if (w=="hold")=true then c.ni x else if (w=="back")=true then c.hd==some x else(c.hd==some x)&&(r.head?.elim false λd=>d.ni x)
noncomputable def tM(V:qC)(ns:List Int):List pI:=ns.filterMap λi=>V.calls[i.toNat]?
noncomputable def GT(l:pN)(V:qC)(y z:Str):Option Str:=if hasS l.nm z=false then some "name" else if ((uH V y).isNone&&!(tV l V y))=true then some "full" else uH V y
noncomputable def MI(l:pN)(V:qC)(w x:Str)(ns:List Int):Option Str:=if ns.all (zr V.calls.length)=false then some "call" else if IU w x (tM V ns)=false then some "call" else if (w=="answer"||w=="back")=false then none else
 if ((uH V x).isNone&&((tM V ns).head?.elim false (λc=>c.mX x)&&!(tV l V x)))=true then some "full" else uH V x
noncomputable def Py(V:qC)(b:Bool)(i:Int):Option Str:=if zr V.on.length i=false then some "wish" else if (V.on.getD i.toNat false==b)=true then some "wish" else none
noncomputable def xu(l:pN)(V:qC):um->Option Str
 | .turn=>none
 | .sw b i=>Py V b i
 | .call y z=>if hasS l.pn y=false then some "name" else GT l V y z
 | .num w x ns=>if hasS l.pn x=false then some "name" else MI l V w x ns
noncomputable def qD(c:pI)(x:Str):Str:=(rR c.ms x).headD Str.empty
noncomputable def EL(V:qC)(w x:Str)(i:Nat):Ev:=(V.calls[i]?).elim .turn λc=>if (w=="answer")=true then .talks i [c.cr,x]else if (w=="hold")=true then .held i x else .talks i c.ms
noncomputable def F8(V:qC)(w x:Str)(i j:Nat):Ev:=(V.calls[i]?).elim .turn λc=>(V.calls[j]?).elim .turn λd=>.merge i j (if (w=="hand")=true then[qD c x,qD d x]else[x,qD c x,qD d x])
noncomputable def va(l:pN)(V:qC):um->List Ev
 | .call y z=>FN l V y z
 | .num w x [i]=>if (w=="hang")=true then wG V x i.toNat else[EL V w x i.toNat]
 | .num w x [i,j]=>[F8 V w x i.toNat j.toNat]
 | .num _ _ _=>[]
 | .turn=>Fh l V
 | .sw b i=>[.sw b i.toNat]
structure rJ where
 p:Addr
 wy:Addr
structure tX where
 b:Addr
 ca:Addr
 le:Addr
 nx:Addr
 on:Addr
 lo:Addr
 cs:List rJ
noncomputable def CU:Option Str->D
 | none=>.mW
 | some x=>.str x
noncomputable def rD(c:pI)(wy ad md:Addr):List (Str×D):=[("state",.str c.st),("caller",.str c.cr),("way",.ref wy),("at",.ref ad),("members",.ref md),("holder",CU c.hd),("since",.int c.si),("word",CU c.wd)]
noncomputable def tS(p:D)(h t:Int)(ca le nx on lo:Addr):List (Str×D):=[("plan",p),("hour",.int h),("turn",.int t),("calls",.ref ca),("legs",.ref le),("nexts",.ref nx),("on",.ref on),("log",.ref lo)]
noncomputable def tF(ps:List (Str×Int)):List (rc×D):=ps.map λp=>((Sum.inr p.1:rc),D.int p.2)
noncomputable def tX.lists(A:tX):QXQ:=A.ca::A.le::A.on::A.lo::A.cs.map (·.wy)
noncomputable def tX.foot(A:tX):QXQ:=A.b::A.nx::(A.lists++A.cs.map (·.p))
def rX(a:Ad)(M:Mp)(L:QXQ)(k:rJ)(c:pI):Prop:=AC λad md=>M k.p=some (.ins a.e (rD c k.wy ad md))/\pf M k.wy=some (c.way.map D.str)/\pf M ad=some (c.at_.map D.str)/\pf M md=some (c.ms.map D.str)/\ad∉L/\md∉L
structure pT(a:Ad)(M:Mp)(A:tX)(V:qC):Prop where
 at_:M A.b=some (.ins a.c (tS (.ref V.p) V.h V.t A.ca A.le A.nx A.on A.lo))
 ca:pf M A.ca=some (A.cs.map λk=>D.ref k.p)
 le:pf M A.le=some (V.m8.map rA.d)
 nx:zi M A.nx=some (tF V.ps)
 on:pf M A.on=some (V.on.map D.bl)
 lo:pf M A.lo=some (V.log.map Ev.d)
 len:A.cs.length=V.calls.length
 cs:∀(i:Nat) k c,A.cs[i]?=some k->V.calls[i]?=some c->rX a M (A.lists++V.fo) k c
 nl:A.lists.Nodup
 np:(A.b::A.cs.map (·.p)).Nodup
 fo:∀x∈V.fo,∃c,M x=some c
def wX{F:QXQ}{M:Mp}{p:Addr}{c:uT}(h:∀x∈F,∃c,M x=some c):∀x∈F,∃d,pL M p c x=some d:=λx hx=>by
 by_cases z:x=p
 .exact⟨c,by rw[z];exact pX⟩
 .obtain⟨d,e⟩:=h x hx;exact⟨d,sf.put x d z e⟩
def rX.sub{a:Ad}{M M':Mp}{L:QXQ}{k:rJ}{c:pI}(h:rX a M L k c)(s:qz M M'):rX a M' L k c:=by obtain⟨ad,md,h1,h2,h3,h4,h5⟩:=h;exact⟨ad,md,s _ _ h1,s.lst h2,s.lst h3,s.lst h4,h5⟩
def pT.sub{a:Ad}{M M':Mp}{A:tX}{V:qC}(h:pT a M A V)(s:qz M M'):pT a M' A V:=⟨s _ _ h.at_,s.lst h.ca,s.lst h.le,s.dk h.nx,s.lst h.on,s.lst h.lo,h.len,λi k c e1 e2=>(h.cs i k c e1 e2).sub s,h.nl,h.np,λx hx=>(h.fo x hx).imp λc e=>s x c e⟩
def rX.oh{a:Ad}{M M':Mp}{L:QXQ}{k:rJ}{c:pI}{x:Addr}{ds:List D}(h:rX a M L k c)(kp:sf x M M')(hl:pf M x=some ds)(hx:x∈L)(hn:k.wy≠x):rX a M' L k c:=by obtain⟨ad,md,h1,h2,h3,h4,h5,h6⟩:=h;exact⟨ad,md,kp _ _ (λz=>by rw[z,qm hl]at h1;cases h1) h1,kp.lst hn h2,kp.lst (λz=>h5 (z ▸ hx)) h3,kp.lst (λz=>h6 (z ▸ hx)) h4,h5,h6⟩
def rX.oo{a:Ad}{M M':Mp}{L:QXQ}{k:rJ}{c:pI}{x C:Addr}{fs:List (Str×D)}(h:rX a M L k c)(kp:sf x M M')(hi:M x=some (.ins C fs))(hn:k.p≠x):rX a M' L k c:=by obtain⟨ad,md,h1,h2,h3,h4,h5⟩:=h;exact⟨ad,md,kp _ _ hn h1,kp.lst (pZ h2 hi) h2,kp.lst (pZ h3 hi) h3,kp.lst (pZ h4 hi) h4,h5⟩
def uU{M:Mp}{a p:Addr}{ds:List (rc×D)}{es:List D}(h:zi M a=some ds)(hp:pf M p=some es):a≠p:=λz=>by subst z;unfold zi at h;rw[qm hp]at h;cases h
def rX.oS{a:Ad}{M M':Mp}{L:QXQ}{k:rJ}{c:pI}{x:Addr}{ds:List (rc×D)}(h:rX a M L k c)(kp:sf x M M')(hd:zi M x=some ds):rX a M' L k c:=by obtain⟨ad,md,h1,h2,h3,h4,h5⟩:=h;exact⟨ad,md,kp _ _ (λz=>by rw[z,zL hd]at h1;cases h1) h1,kp.lst (dR (uU hd h2)) h2,kp.lst (dR (uU hd h3)) h3,kp.lst (dR (uU hd h4)) h4,h5⟩
def rm{α:Type}{l:List α}{i:Nat}{x:α}(h:l[i]?=some x):x∈l:=fA h
def pT.ne{a:Ad}{M:Mp}{A:tX}{V:qC}(h:pT a M A V):A.ca≠A.le/\A.ca≠A.on/\A.ca≠A.lo/\A.le≠A.on/\A.le≠A.lo/\A.on≠A.lo/\∀k∈A.cs,k.wy≠A.ca/\k.wy≠A.le/\k.wy≠A.on/\k.wy≠A.lo:=by
 have n:=h.nl;unfold tX.lists at n;obtain⟨n1,n⟩:=dW.mp n;obtain⟨n2,n⟩:=dW.mp n;obtain⟨n3,n⟩:=dW.mp n;obtain⟨n4,n⟩:=dW.mp n;have w:∀k∈A.cs,k.wy∈A.cs.map (·.wy):=λk hk=>dE.mpr ⟨k,hk,rfl⟩;refine⟨λz=>n1 (z ▸ by simp),λz=>n1 (z ▸ by simp),λz=>n1 (z ▸ by simp),λz=>n2 (z ▸ by simp),λz=>n2 (z ▸ by simp),λz=>n3 (z ▸ by simp),λk hk=>⟨λz=>n1 ?_,λz=>n2 ?_,λz=>n3 ?_,λz=>n4 ?_⟩⟩
 .rw[<-z];exact dH _ (dH _ (dH _ (w k hk)))
 .rw[<-z];exact dH _ (dH _ (w k hk))
 .rw[<-z];exact dH _ (w k hk)
 .rw[<-z];exact w k hk
def pT.oP{a:Ad}{M:Mp}{A:tX}{V:qC}(_:pT a M A V):A.ca∈A.lists/\A.le∈A.lists/\A.lo∈A.lists/\(∀k∈A.cs,k.wy∈A.lists)/\A.on∈A.lists:=by unfold tX.lists;refine⟨by simp,by simp,by simp,?_,by simp⟩;exact λk hk=>by simp;exact .inr (.inr (.inr (.inr ⟨k,hk,rfl⟩)))
def pT.pj{a:Ad}{M:Mp}{A:tX}{V:qC}(h:pT a M A V):A.ca∈A.lists++V.fo/\A.le∈A.lists++V.fo/\A.lo∈A.lists++V.fo/\(∀k∈A.cs,k.wy∈A.lists++V.fo)/\A.on∈A.lists++V.fo:=by obtain⟨h1,h2,h3,h4,h5⟩:=h.oP;exact⟨fH _ h1,fH _ h2,fH _ h3,λk hk=>fH _ (h4 k hk),fH _ h5⟩
def qW(A:tX)(M:Mp)(A':tX)(M':Mp):Prop:=(∀x c,x∉A.foot->M x=some c->M' x=some c)/\(∀x∈A'.foot,x∈A.foot\/M x=none)/\(∀(i:Nat) k,A.cs[i]?=some k->A'.cs[i]?=some k)/\∀x c,M x=some c->∃d,M' x=some d
def EV{M:Mp}{p y:Addr}{c d:uT}(h:M y=some d):∃e,pL M p c y=some e:=by
 by_cases z:y=p
 .exact⟨c,by rw[z];exact pX⟩
 .exact⟨d,sf.put y d z h⟩
def qW.refl{A:tX}{M:Mp}:qW A M A M:=⟨λ_ _ _ h=>h,λ_ h=>.inl h,λ_ _ h=>h,λ_ c h=>⟨c,h⟩⟩
def qW.trans{A A1 A2:tX}{M M1 M2:Mp}(s:qW A M A1 M1)(u:qW A1 M1 A2 M2):qW A M A2 M2:=by
 refine⟨λx c n h=>u.1 x c (λz=>?_) (s.1 x c n h),λx hx=>?_,λi k h=>u.2.2.1 i k (s.2.2.1 i k h),λx c h=>(s.2.2.2 x c h).elim λd e=>u.2.2.2 x d e⟩
 .rcases s.2.1 x z with y|y
  .exact n y
  .rw[y]at h;cases h
 .rcases u.2.1 x hx with z|z
  .exact s.2.1 x z
  .by_cases y:x∈A.foot
   .exact .inl y
   .refine .inr ?_;cases e:M x with
    | none=>rfl
    | some c=>rw[s.1 x c y e]at z;cases z
def qW.keep{A:tX}{M:Mp}{x:Addr}{c:uT}(h:x∈A.foot)(k:sf x M (pL M x c)):qW A M A (pL M x c):=⟨λy c n e=>k y c (λz=>n (z ▸ h)) e,λ_ h=>.inl h,λ_ _ h=>h,λ_ _ h=>EV h⟩
def qW.sub{A:tX}{M M':Mp}(s:qz M M'):qW A M A M':=⟨λy c _ e=>s y c e,λ_ h=>.inl h,λ_ _ h=>h,λx c h=>⟨c,s x c h⟩⟩
def tX.nj(A:tX):A.b∈A.foot/\A.nx∈A.foot/\A.ca∈A.foot/\A.le∈A.foot/\A.lo∈A.foot/\(∀k∈A.cs,k.p∈A.foot)/\∀k∈A.cs,k.wy∈A.foot:=by unfold tX.foot tX.lists;exact⟨by simp,by simp,by simp,by simp,by simp,λk hk=>by simp;exact .inr (.inr (.inr (.inr (.inr (.inr (.inr ⟨k,hk,rfl⟩)))))),λk hk=>by simp;exact .inr (.inr (.inr (.inr (.inr (.inr (.inl ⟨k,hk,rfl⟩))))))⟩
def tX.og(A:tX){x:Addr}(h:x∈A.lists):x∈A.foot:=by unfold tX.foot;exact dH _ (dH _ (eh.mpr (.inl h)))
variable {M M1:Mp}{A:tX}{V:qC}
def Ep{α:Type}{l:List α}{i j:Nat}{x y:α}(h:(l.set i x)[j]?=some y):(j=i/\y=x/\i<l.length)\/(j≠i/\l[j]?=some y):=by
 by_cases z:j=i
 .subst z;by_cases hl:j<l.length
  .rw[eO hl]at h;exact .inl ⟨rfl,(dw h).symm,hl⟩
  .rw[gG (by rw[il];omega)]at h;cases h
 .rw[eU (dR z)]at h;exact .inr ⟨z,h⟩
def Nz{α β:Type}{f:α->β}{l:List α}{i j:Nat}{x y:α}(nd:(l.map f).Nodup)(h1:l[i]?=some x)(h2:l[j]?=some y)(e:f x=f y):i=j:=by
 have e1:(l.map f)[i]?=some (f x):=by rw[dF,h1];rfl
 have e2:(l.map f)[j]?=some (f y):=by rw[dF,h2];rfl
 obtain⟨l1,q1⟩:=c9.mp e1;obtain⟨l2,q2⟩:=c9.mp e2;exact(lR nd).mp (q1.trans (e.trans q2.symm))
def pT.nw(h:pT a M A V):(A.cs.map (·.wy)).Nodup:=(dW.mp (dW.mp (dW.mp (dW.mp h.nl).2).2).2).2
def pT.oY(h:pT a M A V):(A.cs.map (·.p)).Nodup/\∀k∈A.cs,k.p≠A.b:=⟨(dW.mp h.np).2,λk hk z=>(dW.mp h.np).1 (z ▸ dE.mpr ⟨k,hk,rfl⟩)⟩
def pT.oG(h:pT a M A V){es:List Ev}:pT a (pL M A.lo (.lst (es.map Ev.d))) A {V with log:=es}/\qW A M A (pL M A.lo (.lst (es.map Ev.d))):=by have kp:sf A.lo M (pL M A.lo (.lst (es.map Ev.d))):=.put;obtain⟨n1,n2,n3,n4,n5,n6,nw⟩:=h.ne;exact⟨⟨kp _ _ (dR (pZ h.lo h.at_)) h.at_,kp.lst n3 h.ca,kp.lst n5 h.le,kp.dk (uU h.nx h.lo) h.nx,kp.lst n6 h.on,pK,h.len,λi k c e1 e2=>(h.cs i k c e1 e2).oh kp h.lo h.pj.2.2.1 (nw k (rm e1)).2.2.2,h.nl,h.np,wX h.fo⟩,.keep A.nj.2.2.2.2.1 kp⟩
def pT.oC(h:pT a M A V){es:List rA}:pT a (pL M A.le (.lst (es.map rA.d))) A {V with m8:=es}/\qW A M A (pL M A.le (.lst (es.map rA.d))):=by have kp:sf A.le M (pL M A.le (.lst (es.map rA.d))):=.put;obtain⟨n1,n2,n3,n4,n5,n6,nw⟩:=h.ne;exact⟨⟨kp _ _ (dR (pZ h.le h.at_)) h.at_,kp.lst n1 h.ca,pK,kp.dk (uU h.nx h.le) h.nx,kp.lst (dR n4) h.on,kp.lst (dR n5) h.lo,h.len,λi k c e1 e2=>(h.cs i k c e1 e2).oh kp h.le h.pj.2.1 (nw k (rm e1)).2.1,h.nl,h.np,wX h.fo⟩,.keep A.nj.2.2.2.1 kp⟩
def pT.oV(h:pT a M A V){bs:List Bool}:pT a (pL M A.on (.lst (bs.map D.bl))) A {V with on:=bs}/\qW A M A (pL M A.on (.lst (bs.map D.bl))):=by have kp:sf A.on M (pL M A.on (.lst (bs.map D.bl))):=.put;obtain⟨n1,n2,n3,n4,n5,n6,nw⟩:=h.ne;exact⟨⟨kp _ _ (dR (pZ h.on h.at_)) h.at_,kp.lst n2 h.ca,kp.lst n4 h.le,kp.dk (uU h.nx h.on) h.nx,pK,kp.lst (dR n6) h.lo,h.len,λi k c e1 e2=>(h.cs i k c e1 e2).oh kp h.on h.pj.2.2.2.2 (nw k (rm e1)).2.2.1,h.nl,h.np,wX h.fo⟩,.keep (A.og h.oP.2.2.2.2) kp⟩
def pT.oW(h:pT a M A V){ps:List (Str×Int)}:pT a (pL M A.nx (.dk (tF ps))) A {V with ps:=ps}/\qW A M A (pL M A.nx (.dk (tF ps))):=by have kp:sf A.nx M (pL M A.nx (.dk (tF ps))):=.put;exact⟨⟨kp _ _ (dR (Cj h.nx h.at_)) h.at_,kp.lst (dR (uU h.nx h.ca)) h.ca,kp.lst (dR (uU h.nx h.le)) h.le,D3 pX,kp.lst (dR (uU h.nx h.on)) h.on,kp.lst (dR (uU h.nx h.lo)) h.lo,h.len,λi k c e1 e2=>(h.cs i k c e1 e2).oS kp h.nx,h.nl,h.np,wX h.fo⟩,.keep A.nj.2.1 kp⟩
def pT.putT(h:pT a M A V){t:Int}:pT a (pL M A.b (.ins a.c (tS (.ref V.p) V.h t A.ca A.le A.nx A.on A.lo))) A {V with t:=t}/\qW A M A (pL M A.b (.ins a.c (tS (.ref V.p) V.h t A.ca A.le A.nx A.on A.lo))):=by have kp:sf A.b M (pL M A.b (.ins a.c (tS (.ref V.p) V.h t A.ca A.le A.nx A.on A.lo))):=.put;exact⟨⟨pX,kp.lst (pZ h.ca h.at_) h.ca,kp.lst (pZ h.le h.at_) h.le,kp.dk (Cj h.nx h.at_) h.nx,kp.lst (pZ h.on h.at_) h.on,kp.lst (pZ h.lo h.at_) h.lo,h.len,λi k c e1 e2=>(h.cs i k c e1 e2).oo kp h.at_ (h.oY.2 k (rm e1)),h.nl,h.np,wX h.fo⟩,.keep A.nj.1 kp⟩
def pT.ow(h:pT a M A V){i:Nat}{k:rJ}{c c':pI}{ad md:Addr}(e1:A.cs[i]?=some k)(e2:V.calls[i]?=some c)(ew:c'.way=c.way)(la:pf M ad=some (c'.at_.map D.str))(lm:pf M md=some (c'.ms.map D.str))(na:ad∉A.lists++V.fo)(nm:md∉A.lists++V.fo):
  pT a (pL M k.p (.ins a.e (rD c' k.wy ad md))) A {V with calls:=V.calls.set i c'}/\qW A M A (pL M k.p (.ins a.e (rD c' k.wy ad md))):=by
 have kp:sf k.p M (pL M k.p (.ins a.e (rD c' k.wy ad md))):=.put;obtain⟨_,_,h1,h2,_⟩:=h.cs i k c e1 e2;refine⟨⟨kp _ _ (dR (h.oY.2 k (rm e1))) h.at_,kp.lst (pZ h.ca h1) h.ca,kp.lst (pZ h.le h1) h.le,kp.dk (Cj h.nx h1) h.nx,kp.lst (pZ h.on h1) h.on,kp.lst (pZ h.lo h1) h.lo,by rw[h.len,il],λj k' d f1 f2=>?_,h.nl,h.np,wX h.fo⟩,.keep (A.nj.2.2.2.2.2.1 k (rm e1)) kp⟩;rcases Ep f2 with⟨rfl,rfl,_⟩|⟨hj,f2⟩
 .rw[e1]at f1;cases f1;exact⟨ad,md,pX,by rw[ew];exact kp.lst (pZ h2 h1) h2,kp.lst (pZ la h1) la,kp.lst (pZ lm h1) lm,na,nm⟩
 .exact(h.cs j k' d f1 f2).oo kp h1 λz=>hj (Nz h.oY.1 f1 e1 z)
def pT.oH(h:pT a M A V){i:Nat}{k:rJ}{c:pI}{ws:QQQ}(e1:A.cs[i]?=some k)(e2:V.calls[i]?=some c):
  pT a (pL M k.wy (.lst (ws.map D.str))) A {V with calls:=V.calls.set i {c with way:=ws}}/\qW A M A (pL M k.wy (.lst (ws.map D.str))):=by
 have kp:sf k.wy M (pL M k.wy (.lst (ws.map D.str))):=.put;obtain⟨ad,md,h1,h2,h3,h4,h5,h6⟩:=h.cs i k c e1 e2;obtain⟨n1,n2,n3,n4,n5,n6,nw⟩:=h.ne;obtain⟨w1,w2,w3,w4⟩:=nw k (rm e1);have kL:=h.pj.2.2.2.1 k (rm e1);refine⟨⟨kp _ _ (dR (pZ h2 h.at_)) h.at_,kp.lst (dR w1) h.ca,kp.lst (dR w2) h.le,kp.dk (uU h.nx h2) h.nx,kp.lst (dR w3) h.on,kp.lst (dR w4) h.lo,by rw[h.len,il],λj k' d f1 f2=>?_,h.nl,h.np,wX h.fo⟩,.keep (A.nj.2.2.2.2.2.2 k (rm e1)) kp⟩;rcases Ep f2 with⟨rfl,rfl,_⟩|⟨hj,f2⟩
 .rw[e1]at f1;cases f1;exact⟨ad,md,kp _ _ (dR (pZ h2 h1)) h1,pK,kp.lst (λz=>h5 (z ▸ kL)) h3,kp.lst (λz=>h6 (z ▸ kL)) h4,h5,h6⟩
 .exact(h.cs j k' d f1 f2).oh kp h2 kL λz=>hj (Nz h.nw f1 e1 z)
noncomputable def tX.add(A:tX)(k:rJ):tX:={A with cs:=A.cs++[k]}
def Aa(A:tX)(k:rJ):(A.add k).lists=A.lists++[k.wy]:=by unfold tX.add tX.lists;rw[dQ];rfl
def pT.dom(h:pT a M A V):(∀x∈A.lists,∃ds,pf M x=some ds)/\∀x∈A.foot,∃c,M x=some c:=by
 have hc:∀k∈A.cs,(∃ds,pf M k.wy=some ds)/\∃c,M k.p=some c:=λk hk=>by
  obtain⟨i,hi,e⟩:=gS hk;have e1:A.cs[i]?=some k:=by rw[cZ hi,e]
  have XZ:i<V.calls.length:=by rw[<-h.len];exact hi
  have e2:V.calls[i]?=some V.calls[i]:=cZ XZ;obtain⟨ad,md,h1,h2,_⟩:=h.cs i k _ e1 e2;exact⟨⟨_,h2⟩,_,h1⟩
 have hl:∀x∈A.lists,∃ds,pf M x=some ds:=λx hx=>by
  unfold tX.lists at hx;simp only[dv,dE]at hx;rcases hx with rfl|rfl|rfl|rfl|⟨k,hk,rfl⟩
  .exact⟨_,h.ca⟩
  .exact⟨_,h.le⟩
  .exact⟨_,h.on⟩
  .exact⟨_,h.lo⟩
  .exact(hc k hk).1
 refine⟨hl,λx hx=>?_⟩;unfold tX.foot at hx;simp only[dv,eh,dE]at hx;rcases hx with rfl|rfl|hx|⟨k,hk,rfl⟩
 .exact⟨_,h.at_⟩
 .exact⟨_,zL h.nx⟩
 .obtain⟨ds,e⟩:=hl x hx;exact⟨_,qm e⟩
 .exact(hc k hk).2
def pT.ou(h:pT a M A V){x:Addr}(hx:M x=none):x∉A.lists:=λz=>by obtain⟨ds,e⟩:=h.dom.1 x z;have:=qm e;rw[hx]at this;cases this
def pT.nG(h:pT a M A V){x:Addr}(hx:M x=none):x∉A.lists++V.fo:=λz=>by
 rcases eh.mp z with z|z
 .exact h.ou hx z
 .obtain⟨c,e⟩:=h.fo x z;rw[hx]at e;cases e
def pT.nU(h:pT a M A V){x:Addr}(hx:M x=none):x∉A.foot:=λz=>by obtain⟨ds,e⟩:=h.dom.2 x z;rw[hx]at e;cases e
def pT.oA(h:pT a M A V)(s:qz M M1){p wy ad md:Addr}{c:pI}(hp:M p=none)(hw:M wy=none)(ha:M ad=none)(hm:M md=none)(h1:M1 p=some (.ins a.e (rD c wy ad md)))(h2:pf M1 wy=some (c.way.map D.str))(h3:pf M1 ad=some (c.at_.map D.str))(h4:pf M1 md=some (c.ms.map D.str))(n1:ad≠wy)(n2:md≠wy):
  pT a (pL M1 A.ca (.lst ((A.cs.map λk=>D.ref k.p)++[.ref p]))) (A.add ⟨p,wy⟩) {V with calls:=V.calls++[c]}/\qW A M (A.add ⟨p,wy⟩) (pL M1 A.ca (.lst ((A.cs.map λk=>D.ref k.p)++[.ref p]))):=by
 have h':=h.sub s;have kp:sf A.ca M1 (pL M1 A.ca (.lst ((A.cs.map λk=>D.ref k.p)++[.ref p]))):=.put;obtain⟨m1,m2,m3,m4,m5,m6,nw⟩:=h.ne;have wL:wy∉A.lists:=h.ou hw;have cL:=h.pj.1;have nl':∀x,x∉A.lists++V.fo->x≠wy->x∉(A.add ⟨p,wy⟩).lists++V.fo:=λx h1 h2=>by
  rw[Aa,eh,eh,dD]
  rintro ((z|z)|z)
  .exact h1 (fH _ z)
  .exact h2 z
  .exact h1 (eJ _ z)
 have XA:∀x c,M x=some c->x≠wy:=λx c e z=>by rw[z,hw]at e;cases e
 refine⟨⟨kp _ _ (dR (pZ h'.ca h'.at_)) h'.at_,?_,kp.lst (dR m1) h'.le,kp.dk (uU h'.nx h'.ca) h'.nx,kp.lst (dR m2) h'.on,kp.lst (dR m3) h'.lo,?_,λi k d e1 e2=>?_,?_,?_,wX h'.fo⟩,λx d n e=>kp x d (λz=>n (z ▸ A.nj.2.2.1)) (s x d e),λx hx=>?_,λi k e=>by show(A.cs++[(⟨p,wy⟩:rJ)])[i]?=some k;rw[fi (c9.mp e).1];exact e,λx d e=>EV (s x d e)⟩
 .show pf _ A.ca=some ((A.cs++[(⟨p,wy⟩:rJ)]).map λk=>D.ref k.p);rw[dQ];exact pK
 .show(A.cs++[(⟨p,wy⟩:rJ)]).length=(V.calls++[c]).length;rw[de,de,h.len];rfl
 .have e1:(A.cs++[(⟨p,wy⟩:rJ)])[i]?=some k:=e1;have e2:(V.calls++[c])[i]?=some d:=e2;by_cases hi:i<A.cs.length
  .rw[fi hi]at e1;rw[fi (by rw[<-h.len];exact hi)]at e2;obtain⟨ad',md',g1,g2,g3,g4,g5,g6⟩:=(h.cs i k d e1 e2);refine⟨ad',md',kp _ _ (λz=>by have:=s _ _ g1;rw[z,qm h'.ca]at this;cases this) (s _ _ g1),kp.lst (nw k (rm e1)).1 (s.lst g2),kp.lst (λz=>g5 (z ▸ cL)) (s.lst g3),kp.lst (λz=>g6 (z ▸ cL)) (s.lst g4),nl' _ g5 (XA _ _ (qm g3)),nl' _ g6 (XA _ _ (qm g4))⟩
  .have YF:i=A.cs.length:=by have:=(c9.mp e1).1;rw[de,dS]at this;omega
   subst YF;rw[eZ (dz _)]at e1;rw[h.len,eZ (dz _)]at e2;simp only[ia,iG,jB]at e1 e2;subst e1 e2;have q1:p≠A.ca:=λz=>by rw[z,qm h'.ca]at h1;cases h1
   have q2:wy≠A.ca:=λz=>wL (z ▸ h.oP.1);exact⟨ad,md,kp p _ q1 h1,kp.lst (a:=wy) q2 h2,kp.lst (λz=>h.nG ha (z ▸ cL)) h3,kp.lst (λz=>h.nG hm (z ▸ cL)) h4,nl' _ (h.nG ha) n1,nl' _ (h.nG hm) n2⟩
 .rw[Aa];refine gq.mpr ⟨h.nl,dW.mpr ⟨dJ,eM⟩,λx hx y hy=>?_⟩;rw[dD]at hy;subst hy;exact λz=>wL (z ▸ hx)
 .show(A.b::(A.cs++[(⟨p,wy⟩:rJ)]).map (·.p)).Nodup;rw[dQ,<-List.cons_append];refine gq.mpr ⟨h.np,dW.mpr ⟨dJ,eM⟩,λx hx y hy=>?_⟩;rw[dY,iT,dD]at hy;subst hy;refine λz=>h.nU hp (z ▸ ?_);rcases dv.mp hx with y|y
  .rw[y];exact A.nj.1
  .obtain⟨k,hk,rfl⟩:=dE.mp y;exact A.nj.2.2.2.2.2.1 k hk
 .unfold tX.foot at hx;rw[Aa]at hx;have hx:x∈A.b::A.nx::(A.lists++[wy]++(A.cs++[(⟨p,wy⟩:rJ)]).map (·.p)):=hx;simp only[dv,eh,dQ,dY,iT,dJ,fg]at hx;unfold tX.foot;simp only[dv,eh];rcases hx with z|z|(z|z)|(z|z)
  .exact .inl (.inl z)
  .exact .inl (.inr (.inl z))
  .exact .inl (.inr (.inr (.inl z)))
  .exact .inr (by rw[z];exact hw)
  .exact .inl (.inr (.inr (.inr z)))
  .exact .inr (by rw[z];exact hp)
def pT.oM{a:Ad}{M:Mp}{A:tX}{V:qC}{p:Addr}{es:List rA}(h:pT a M A V)(hp:M p=none):
  pT a (pL (pL M p (.lst (es.map rA.d))) A.b (.ins a.c (tS (.ref V.p) V.h V.t A.ca p A.nx A.on A.lo))) {A with le:=p} {V with m8:=es}/\qW A M {A with le:=p} (pL (pL M p (.lst (es.map rA.d))) A.b (.ins a.c (tS (.ref V.p) V.h V.t A.ca p A.nx A.on A.lo))):=by
 have t:=qz.new (c:=.lst (es.map rA.d)) hp;have lp:=@pK M p (es.map rA.d);have h1:=h.sub t;have np:p∉A.lists:=h.ou hp;have nf:p∉A.foot:=h.nU hp;have XA:∀x c,M x=some c->x≠p:=λx c e z=>by rw[z,hp]at e;cases e
 generalize pL M p (.lst (es.map rA.d))=M1 at t lp h1 ⊢;have kp:sf A.b M1 (pL M1 A.b (.ins a.c (tS (.ref V.p) V.h V.t A.ca p A.nx A.on A.lo))):=.put;have sub:∀x,x∉A.lists++V.fo->x≠p->x∉({A with le:=p}:tX).lists++V.fo:=λx h1 h2 z=>by
  rcases eh.mp z with z|z
  rotate_left
  .exact h1 (eJ _ z)
  have h1:x∉A.lists:=λy=>h1 (fH _ y);unfold tX.lists at h1 z;simp only[dv,fN]at h1 z;rcases z with z|z|z|z|z
  .exact h1.1 z
  .exact h2 z
  .exact h1.2.2.1 z
  .exact h1.2.2.2.1 z
  .exact h1.2.2.2.2 z
 refine⟨⟨pX,kp.lst (pZ h1.ca h1.at_) h1.ca,kp.lst (pZ lp h1.at_) lp,kp.dk (Cj h1.nx h1.at_) h1.nx,kp.lst (pZ h1.on h1.at_) h1.on,kp.lst (pZ h1.lo h1.at_) h1.lo,h.len,λi k c e1 e2=>?_,?_,h.np,wX h1.fo⟩,λx c n e=>kp x c (λz=>n (z ▸ A.nj.1)) (t x c e),λx hx=>?_,λi k e=>e,λx d e=>EV (t x d e)⟩
 .obtain⟨ad,md,g1,g2,g3,g4,g5,g6⟩:=(h.cs i k c e1 e2);obtain⟨ad',md',f1,f2,f3,f4,f5⟩:=((h.cs i k c e1 e2).sub t).oo kp h1.at_ (h.oY.2 k (rm e1));have q1:=kp _ _ (λz=>h.oY.2 k (rm e1) z) (t _ _ g1);exact⟨ad,md,q1,f2,kp.lst (pZ (t.lst g3) h1.at_) (t.lst g3),kp.lst (pZ (t.lst g4) h1.at_) (t.lst g4),sub _ g5 (XA _ _ (qm g3)),sub _ g6 (XA _ _ (qm g4))⟩
 .have n:=h.nl;unfold tX.lists at n np ⊢;simp only[dv,fN]at np;simp only[dW,dv,fN]at n ⊢;exact⟨⟨λz=>np.1 z.symm,n.1.2⟩,⟨np.2.2.1,np.2.2.2.1,np.2.2.2.2⟩,n.2.2⟩
 .by_cases z:x=p
  .exact .inr (z ▸ hp)
  .refine .inl ?_;unfold tX.foot tX.lists at hx ⊢;simp only[dv,eh]at hx ⊢;rcases hx with y|y|(y|y|y|y|y)|y
   .exact .inl y
   .exact .inr (.inl y)
   .exact .inr (.inr (.inl (.inl y)))
   .exact absurd y z
   .exact .inr (.inr (.inl (.inr (.inr (.inl y)))))
   .exact .inr (.inr (.inl (.inr (.inr (.inr (.inl y))))))
   .exact .inr (.inr (.inl (.inr (.inr (.inr (.inr y))))))
   .exact .inr (.inr (.inr y))
def zv(x:D)(l:List D):wC (x::l) 0=some x:=by
 unfold wC;have:GP (x::l).length 0=some 0:=by unfold GP;rw[eD];simp
 rw[this];rfl
def xZ(f:pI->Str->Bool)(a:Ad):rC:=λds M Q=>BU λL k c x=>ds=[.ref k.p,.str x]/\rX a M L k c/\Q (.bl (f c x)) M
abbrev Hl:=xZ pI.hasB
abbrev zH:=xZ pI.m9
abbrev FD:=xZ pI.nA
abbrev yA:=xZ pI.ng
abbrev vO:=xZ pI.mX
abbrev E1:=xZ pI.ni
abbrev xp:=xZ pI.nJ
noncomputable def OR(x:Str):D->Bool
 | .str y=>!(y==x)
 | _=>false
def zq(a:Ad):rC:=λds M Q=>Kt λL k c x y r=>ds=[.ref k.p,.str x]/\rX a M L k c/\c.ms.length<=100/\rR c.ms x=y::r/\Q (.str y) M
def CM(ss:QQQ)(x:Str):[]++(List.filter (OR x) (ss.map D.str)).map id=(rR ss x).map D.str:=by rw[d6,jq,gZ];rfl
def DE{M:Mp}{k:Addr}{ks:QQQ}{c:Str}{K:DK}(hk:pf M k=some (ks.map D.str))(h:K (.bl (hasS ks c)) M):Se false (.str c) (.ref k) M K:=by refine i' hk ⟨rfl,qA ks,?_⟩;show K (.bl (inD (.str c) (ks.map D.str))) M;rw[sI];exact h
def WD(w x y:Str):inD (.str w) [.str x,.str y]=(w==x||w==y):=by rw[show[D.str x,D.str y]=[x,y].map D.str from rfl,sI,gp];simp only[gc,List.any_nil,kG,gY,fk];exact⟨λh=>h.imp mz mz,λh=>h.imp mz mz⟩
def Sn:Fq P w K mg base 1 a.bJ (Hl a):=by
 refine fq G.bJ.toDG F5 (λr u=>⟨_,(pC (pV (pM u (pH v0) pG)
 (pE (pJ (Jq (qv u U1 (pH v0)) (sU (qv u U1 (pH v0))))))
 pP)
 (pC (pV (pM u (pH v0) pG)
 (pE (pJ (qv u U1 (pH v0))))
 pP)
 (pE (pJ (tE (qv u (pH v0) (pS (so pG pG))) (sU (qv u U1 (pH v0)))))))),?_⟩)
 rintro ds M Q ⟨L,k,c,x,rfl,⟨ad,md,h1,h2,h3,h4,_⟩,q⟩
 unfold pI.hasB at q;refine pD h1 (i' rfl ?_);refine qM (c:=c.st=="rings") (λg=>?_) (λg=>?_)
 .rw[dh g]at q;refine pD h1 (i' rfl (qM (c:=x==c.cr) (λg2=>?_) (λg2=>?_)))
  .rw[g2]at q;exact⟨M,.refl,q⟩
  .rw[show(x==c.cr)=false from dO.mpr g2,fP]at q;exact pD h1 (i' rfl (DE h3 ⟨M,.refl,q⟩))
 .rw[df g]at q;refine pD h1 (i' rfl ?_);refine qM (c:=c.st=="waits") (λg2=>?_) (λg2=>?_)
  .rw[dh g2]at q;exact pD h1 (i' rfl ⟨M,.refl,q⟩)
  .rw[df g2]at q;refine pD h1 (i' rfl ⟨pA rfl,rfl,rfl,?_⟩);show if inD (.str c.st) [.str "talks",.str "held"]=true then _ else _
   rw[WD];refine qM (λg3=>?_) (λg3=>?_)
   .rw[g3,eN]at q;exact pD h1 (i' rfl (DE h4 ⟨M,.refl,q⟩))
   .rw[show(c.st=="talks"||c.st=="held")=false from dO.mpr g3,eY]at q;exact⟨M,.refl,q⟩
def wc:Fq P w K mg base 1 a.T (zH a):=by
 refine fq G.T.toDG yO (λr u=>⟨_,(pE (pJ (tE (qv u (pH v0) pG) (sU (qv u U1 (pH v0)))))),?_⟩)
 rintro ds M Q ⟨L,k,c,x,rfl,⟨ad,md,h1,h2,h3,h4,_⟩,q⟩
 unfold pI.m9 at q;refine pD h1 (i' rfl (qM (c:=c.st=="talks") (λg=>?_) (λg=>?_)))
 .rw[g,eN]at q;exact pD h1 (i' rfl (DE h4 ⟨M,.refl,q⟩))
 .rw[show(c.st=="talks")=false from dO.mpr g,eY]at q;exact⟨M,.refl,q⟩
def K6:Fq P w K mg base 2 a.bI (FD a):=by
 refine fq G.bI.toDG Di (λr u=>⟨_,(pC (pV (pM u (pH v0) pG)
 (pE (pJ (tE (qv u U1 (pH v0)) (sU (qv u U1 (pH v0))))))
 pP)
 (pE (pJ (qe v0 G.e.toCls G.T (wc G) r (qr U1))))),?_⟩)
 rintro ds M Q ⟨L,k,c,x,rfl,hc,q⟩
 obtain⟨ad,md,h1,h2,h3,h4,_⟩:=id hc;unfold pI.nA at q;refine pD h1 (i' rfl ?_);refine qM (c:=c.st=="held") (λg=>?_) (λg=>?_)
 .rw[dh g]at q;refine pD h1 (i' rfl (i' h4 ⟨rfl,qA c.ms,?_⟩));show if inD (.str x) (c.ms.map D.str)=true then _ else _
  rw[sI];refine qM (c:=hasS c.ms x) (λg2=>?_) (λg2=>?_)
  .rw[g2,eN]at q;refine pD h1 (i' rfl ?_);cases e:c.hd with
   | none=>rw[e]at q;exact⟨M,.refl,q⟩
   | some y=>
    rw[e]at q;refine⟨M,.refl,?_⟩;rw[show(!(some y==some x))=!(x==y)from by
     show(!(y==x))=_;rw[mB]]at q
    exact q
  .rw[show hasS c.ms x=false from dO.mpr g2,eY]at q;exact⟨M,.refl,q⟩
 .rw[df g]at q;exact pD h1 ⟨rfl,_,⟨rfl,rfl⟩,L,k,c,x,rfl,hc,M,.refl,q⟩
def BR:Fq P w K mg base 1 a.U (yA a):=by
 refine fq G.U.toDG ym (λr u=>⟨_,(pE (pJ (tE (qv u (pH v0) (pS (so pG pG))) (sU (qv u U1 (pH v0)))))),?_⟩)
 rintro ds M Q ⟨L,k,c,x,rfl,⟨ad,md,h1,h2,h3,h4,_⟩,q⟩
 unfold pI.ng at q;refine pD h1 (i' rfl ⟨pA rfl,rfl,rfl,?_⟩);show if inD (.str c.st) [.str "rings",.str "waits"]=true then _ else _
 rw[WD];refine qM (λg3=>?_) (λg3=>?_)
 .rw[g3,eN]at q;exact pD h1 (i' rfl ⟨M,.refl,q⟩)
 .rw[show(c.st=="rings"||c.st=="waits")=false from dO.mpr g3,eY]at q;exact⟨M,.refl,q⟩
def GI:Fq P w K mg base 1 a.ap (vO a):=by
 refine fq G.ap.toDG yN (λr u=>⟨_,(pE (pJ (tE (qv u (pH v0) pG) (sU (qv u U1 (pH v0)))))),?_⟩)
 rintro ds M Q ⟨L,k,c,x,rfl,⟨ad,md,h1,h2,h3,h4,_⟩,q⟩
 unfold pI.mX at q;refine pD h1 (i' rfl (qM (c:=c.st=="waits") (λg=>?_) (λg=>?_)))
 .rw[g,eN]at q;exact pD h1 (i' rfl (DE h3 ⟨M,.refl,q⟩))
 .rw[show(c.st=="waits")=false from dO.mpr g,eY]at q;exact⟨M,.refl,q⟩
def LU:Fq P w K mg base 2 a.bH (xp a):=by
 refine fq G.bH.toDG xh (λr u=>⟨_,(pE (pJ (Jq (qe v0 G.e.toCls G.U (BR G) r (qr U1)) (Jq (qv u U1 (pH v0)) (sU (qv u U1 (pH v0))))))),?_⟩)
 rintro ds M Q ⟨L,k,c,x,rfl,hc,q⟩
 obtain⟨ad,md,h1,h2,h3,h4,_⟩:=id hc;unfold pI.nJ at q;refine pD h1 ⟨rfl,_,⟨rfl,rfl⟩,L,k,c,x,rfl,hc,qM (c:=c.ng x) (λg=>?_) (λg=>?_)⟩
 .rw[g]at q;exact⟨M,.refl,q⟩
 .rw[show c.ng x=false from dO.mpr g,fP]at q;refine pD h1 (i' rfl (i' h3 ⟨rfl,qA c.at_,?_⟩));show if inD (.str x) (c.at_.map D.str)=true then _ else _
  rw[sI];refine qM (c:=hasS c.at_ x) (λg2=>?_) (λg2=>?_)
  .rw[g2]at q;exact⟨M,.refl,q⟩
  .rw[show hasS c.at_ x=false from dO.mpr g2,fP]at q;exact pD h1 (i' rfl (DE h4 ⟨M,.refl,q⟩))
def Ge:Fq P w K mg base 2 a.ar (E1 a):=by
 refine fq G.ar.toDG Dt (λr u=>⟨_,(pE (pJ (tE (qe v0 G.e.toCls G.T (wc G) r (qr U1)) (sU (qv u (pY qH rfl G.g qG (qr (pH v0))) pF))))),?_⟩)
 rintro ds M Q ⟨L,k,c,x,rfl,hc,q⟩
 obtain⟨ad,md,h1,h2,h3,h4,_⟩:=id hc;unfold pI.ni at q;refine pD h1 ⟨rfl,_,⟨rfl,rfl⟩,L,k,c,x,rfl,hc,qM (c:=c.m9 x) (λg=>?_) (λg=>?_)⟩
 .rw[g,eN]at q;refine pD h1 (i' rfl (i' h4 ⟨M,.refl,?_⟩));rw[cX];have:(((c.ms.length:Nat):Int)==2)=(c.ms.length==2):=by rw[gp,fk,fk];omega
  show Q (.bl (((c.ms.length:Nat):Int)==2)) M;rw[this];exact q
 .rw[show c.m9 x=false from dO.mpr g,eY]at q;exact⟨M,.refl,q⟩
def Gs:Fq P w K mg base 1 a.aq (zq a):=by
 refine fq G.aq.toDG yS (λr u=>⟨_,(pE (pJ (pQ (qK rfl (xt (ix:=[none,some 1]) (N':=["member","phone"])) (qI (pH v0)) (qJ 0) (vV (pM u v0 U1)) v0) pF))),?_⟩)
 rintro ds M Q ⟨L,k,c,x,y,r,rfl,hc,hl,e,q⟩
 have hz:=dN;obtain⟨ad,md,h1,h2,h3,h4,_⟩:=id hc;refine pD h1 (i' rfl (i' h4 (tK (f:=id) (t:=OR x) h4 _ [] _ (by rw[cX];simp only[dM];omega) (λd hd k0 hk=>?_) (λd hd _ k0 hk=>?_) λp hp=>?_)))
 .obtain⟨y,hy,rfl⟩:=dE.mp hd;exact hk
 .obtain⟨y,hy,rfl⟩:=dE.mp hd;exact hk
 rw[CM,e];exact i' pK (i' (zv _ _) ⟨M,.new hp,q⟩)
theorem B2:∀bs:List Bool,AU (.bl true) (bs.map D.bl)=bs.findIdx? id
 | []=>rfl
 | b::r=>by rw[dY,List.findIdx?_cons];unfold AU;rw[B2 r];cases b<;>rfl
theorem Lc(x:D):∀ds:List D,(AU x ds).isSome=ds.any λd=>Oy d x
 | []=>rfl
 | d::r=>by
  unfold AU;rw[gc];by_cases h:Oy d x=true
  .rw[dh h,h];rfl
  .rw[df h,jA,Lc x r,show Oy d x=false from dO.mpr h,fP]
theorem CL:∀bs:List Bool,(bs.map D.bl).all uZ=true
 | []=>rfl
 | _::r=>by rw[dY,e9,CL r];rfl
structure Rd(a:Ad)(M:Mp)(A:tX)(V:qC)(l:pN):Prop where
 bd:pT a M A V
 k:V.calls.length<=1000000
 pl:tz a M V.p l
 ok:r6 l
 on:V.on.length=l.mS.length
 ms:∀c∈V.calls,(∀x∈c.ms,x∈l.pn)/\c.ms.length<=100
def Rd.sub{a:Ad}{M M':Mp}{A:tX}{V:qC}{l:pN}(h:Rd a M A V l)(s:qz M M'):Rd a M' A V l:=⟨h.bd.sub s,h.k,h.pl.sub s,h.ok,h.on,h.ms⟩
def MB:rC:=λds M Q=>AC λr bs=>ds=[.ref r]/\pf M r=some (List.map D.bl bs)/\Q (Pb (bs.findIdx? id)) M
def Kw(f:qC->Str->D)(a:Ad):rC:=λds M Q=>CT λA V x=>ds=[.ref A.b,.str x]/\pT a M A V/\V.calls.length<=1000000/\Q (f V x) M
noncomputable def UU(V:qC)(x:Str):D:=.int (vc V x:Nat)
noncomputable def L7(V:qC)(x:Str):D:=Pb (FK V x)
noncomputable def AE(V:qC)(x:Str):D:=Pb (vF V x)
noncomputable def To(V:qC)(x:Str):D:=Pb (JL V x)
noncomputable def TQ(V:qC)(x:Str):D:=.bl (Ax V x)
abbrev EF:=Kw UU
abbrev C1:=Kw L7
abbrev AY:=Kw AE
abbrev A5:=Kw To
abbrev Ah:=Kw TQ
def xk(a:Ad):rC:=λds M Q=>BU λA V l x=>ds=[.ref A.b,.str x]/\Rd a M A V l/\x∈l.pn/\Q (.bl (tV l V x)) M
def zT(a:Ad):rC:=λds M Q=>Ha λA V l c z=>ds=[.ref A.b,.str c,.str z]/\Rd a M A V l/\z∈l.nm/\∀q M',qz M M'->M q=none->pf M' q=some ((uB l V c z).map D.str)->Q (.ref q) M'
def Au(a:Ad):rC:=λds M Q=>AC λA V=>ds=[.ref A.b]/\pT a M A V/\Q (.int ((V.h+V.t) % 24)) M
def Qp(a:Ad):rC:=λds M Q=>Ha λA V l c z=>ds=[.ref A.b,.str c,.str z]/\Rd a M A V l/\z∈l.nm/\Q (.bl (xB l V c z)) M
def Bq{a:Ad}{M:Mp}{A:tX}{V:qC}(h:pT a M A V){pre post:List D}{d:D}(e:pre++d::post=A.cs.map λk=>D.ref k.p):∃k c,A.cs[pre.length]?=some k/\V.calls[pre.length]?=some c/\d=.ref k.p/\rX a M (A.lists++V.fo) k c/\V.calls.take (pre.length+1)=V.calls.take pre.length++[c]:=by
 have h1:(A.cs.map λk=>D.ref k.p)[pre.length]?=some d:=by rw[<-e];simp
 rw[dF]at h1;cases z:A.cs[pre.length]? with
 | none=>rw[z]at h1;cases h1
 | some k=>
  rw[z]at h1;have hi:pre.length<V.calls.length:=by rw[<-h.len];exact(c9.mp z).1
  have e2:V.calls[pre.length]?=some V.calls[pre.length]:=cZ hi;refine⟨k,_,rfl,e2,(dw h1).symm,h.cs _ _ _ z e2,?_⟩;rw[gK,e2];rfl
def yW{l:pN}{x:Str}(h:x∈l.pn):∃v,l.nz x=some v:=by
 obtain⟨p,hp,rfl⟩:=dE.mp h;unfold pN.nz;cases e:l.mT.find? λq=>decide (q.1=p.1)with
 | some v=>exact⟨v,rfl⟩
 | none=>exact absurd (g9.mp e p hp) (by simp)
def qU{ss:QQQ}{x:Str}:hasS ss x=true↔x∈ss:=by unfold hasS;rw[gA];exact⟨λ⟨y,hy,e⟩=>eq_of_beq e ▸ hy,λh=>⟨x,h,fE _⟩⟩
def KB{ss:QQQ}(h:wF ss=true):ss.Nodup:=by
 have h:(sV ss).length=ss.length:=by unfold wF at h;have:=fk.mp h;omega
 suffices key:∀r:QQQ,(sV r.reverse).length=r.reverse.length->r.reverse.Nodup by have:=key ss.reverse;rw[List.reverse_reverse]at this;exact this h
 intro r;induction r with
 | nil=>intro _;exact eM
 | cons k r ih=>
  intro h;rw[List.reverse_cons]at h ⊢;generalize r.reverse=l at ih h ⊢;rw[yc]at h;split at h
  .have:=JK l;rw[de,dS]at h;omega
  .rename_i hk;rw[de,de,dS]at h;have h1:=ih (by omega);rw[MF]at hk;refine gq.mpr ⟨h1,by simp,λx hx y hy=>?_⟩;rw[dD.mp hy];exact λz=>hk (z ▸ hx)
def Iq{cs ks:QQQ}{m:Int}(h:sJ cs ks m=true):cs≠[]/\(cs.length:Int)<=m/\cs.Nodup/\∀x∈cs,x∈ks:=by unfold sJ at h;simp only[dX,eC,eG]at h;obtain⟨h1,h2,h3,h4⟩:=h;refine⟨λz=>by rw[z]at h1;exact absurd h1 (by decide),h2,KB h3,λx hx=>qU.mp (h4 x hx)⟩
def r6.of{l:pN}(ok:r6 l){z:Str}(hz:z∈l.nm):(l.mQ z≠[]/\(l.mQ z).length<=4/\(l.mQ z).Nodup/\∀x∈l.mQ z,x∈l.pn)/\(z∈l.pn->l.mQ z=[z]/\l.m7 z="one"):=by
 have hd:=gq.mp ok.nd;have h1:z∈l.pn->l.group z=none:=λh=>g9.mpr λg hg e=>hd.2.2 z h g.1 (dE.mpr ⟨g,hg,rfl⟩) (by simpa using e:g.1=z).symm;refine⟨?_,λh=>by unfold pN.mQ pN.m7;rw[h1 h];exact⟨rfl,rfl⟩⟩;unfold pN.mQ;cases e:l.group z with
 | none=>
  have hp:z∈l.pn:=by
   rcases eh.mp hz with h|h
   .exact h
   .obtain⟨g,hg,rfl⟩:=dE.mp h;exact absurd (g9.mp e g hg) (by simp)
  exact⟨eX _ _,by show 1<=4;decide,dW.mpr ⟨dJ,eM⟩,λx hx=>by rw[dD.mp hx];exact hp⟩
 | some g=>obtain⟨c1,c2,c3,c4⟩:=Iq (ok.go g (gk e)).mem;exact⟨c1,by show g.2.2.length<=4;omega,c3,c4⟩
def x9{a:Ad}{M:Mp}{A:tX}{V:qC}{f:pI->Str->Bool}{m x:Str}{Q:DK}{ok:Mp->Prop}(bd:pT a M A V)(hk:V.calls.length<=1000000)(mZ:ok M)(hm:∀c wy ad md,(rD c wy ad md).lookup m=none)(q:∀p,M p=none->Q (.ref p) (pL M p (.lst ((V.calls.map λc=>f c x).map D.bl)))):
  uY (tD 0) BQ (AG m (λC s=>C=a.e/\s=xZ f a) (v3 0) (vw (v3 1) xC)) ok Q (A.cs.map λk=>D.ref k.p) [] [none,some (.str x)] M:=by
 have hz:=dN;refine zA (A.cs.map λk=>D.ref k.p) (λpre acc δ M'=>M=M'/\acc=((V.calls.take pre.length).map λc=>f c x).map D.bl/\∃y,δ=[y,some (.str x)]) (λ_ _ _ M' j=>by rw[<-j.1];exact mZ) _ [] [] _ _ rfl ?_ ⟨rfl,rfl,none,rfl⟩ ?_ ?_
 .rw[cX,bd.len];simp only[dM];omega
 .rintro pre d post e acc δ M' ⟨rfl,rfl,y,rfl⟩ k hk
  obtain⟨ka,c,e1,e2,rfl,hc,et⟩:=Bq bd e;obtain⟨_,_,g1,_⟩:=id hc;refine pD g1 ⟨hm _ _ _ _,_,⟨rfl,rfl⟩,_,ka,c,x,rfl,hc,hk _ _ _ ⟨rfl,?_,_,rfl⟩⟩;rw[de,dS,et,dQ,dQ];rfl
 .rintro acc δ M' ⟨rfl,rfl,y,rfl⟩ p hp
  rw[cX,bd.len,fu];exact q p hp
def BC:Fq P w K mg base 1 a.J MB:=by
 refine fq G.J.toDG Ag (λr u=>⟨_,(pC (pV (pM u yt v0)
 (pE (pJ (xP v0 (qr yt))))
 pP)
 (pE (pJ sr))),?_⟩)
 rintro ds M Q ⟨r,bs,rfl,hr,q⟩
 have ei:inD (.bl true) (bs.map D.bl)=(bs.findIdx? id).isSome:=by rw[<-B2];exact(Lc _ _).symm
 refine i' hr ⟨rfl,CL bs,?_⟩;show if inD (.bl true) (bs.map D.bl)=true then _ else _
 rw[ei];cases e:bs.findIdx? id with
 | none=>rw[e]at q;exact⟨M,.refl,q⟩
 | some j=>rw[e]at q;exact Os ⟨by show(pf M r).isSome=true;rw[hr];rfl,i' hr ⟨rfl,CL bs,i' ((B2 bs).trans e) ⟨M,.refl,q⟩⟩⟩
def N8:Fq P w K mg base 2 a.bF (EF a):=by
 refine fq G.bF.toDG C4 (λr u=>⟨_,(pE (pJ (pY qH rfl G.g qG (qr (qK rfl (xt (ix:=[none,some 1]) (N':=["call","phone"])) (qI (pH v0)) (qJ 0) (vV (uR (qe v0 G.e.toCls G.bJ (Sn G) r (qr U1)))) v0))))),?_⟩)
 rintro ds M Q ⟨A,V,x,rfl,bd,Xu,q⟩
 have hz:=dN;refine pD bd.at_ (i' rfl (i' bd.ca ?_));refine yd (A.cs.map λk=>D.ref k.p) (λpre acc δ M'=>M=M'/\acc.length=((V.calls.take pre.length).filter (·.hasB x)).length/\∃y,δ=[y,some (.str x)]) (λ_ _ _ M' j=>by rw[<-j.1];exact bd.ca) _ [] [] _ _ rfl ?_ ⟨rfl,rfl,none,rfl⟩ ?_ ?_
 .rw[cX,bd.len];simp only[dM];omega
 .rintro pre d post e acc δ M' ⟨rfl,ha,y,rfl⟩ k k2 hk Y9
  obtain⟨ka,c,e1,e2,rfl,hc,et⟩:=Bq bd e;rw[de,dS,et,jv]at hk Y9;obtain⟨_,_,g1,_⟩:=id hc;refine pD g1 ⟨rfl,_,⟨rfl,rfl⟩,_,ka,c,x,rfl,hc,?_⟩;refine qM (c:=c.hasB x) (λg=>?_) (λg=>?_)
  .refine hk _ _ _ ⟨rfl,?_,_,rfl⟩;rw[de,de,ha,iE (by exact g)];rfl
  .refine Y9 _ _ ⟨rfl,?_,_,rfl⟩;rw[de,ha,iF (by exact g)];rfl
 .rintro acc δ M' ⟨rfl,ha,y,rfl⟩ p hp
  refine i' pK ⟨M,.new hp,?_⟩;rw[cX,bd.len,fu]at ha;rw[ha];exact q
def NI:Fq P w K mg base 3 a.bD (C1 a):=by
 refine fq G.bD.toDG Cv (λr u=>⟨_,(pE (pJ (pO (BC G) r G.J (qr (qK rfl (xt (ix:=[none,some 1]) (N':=["call","phone"])) (qI (pH v0)) (qJ 0) rN (qe v0 G.e.toCls G.bI (K6 G) r (qr U1))))))),?_⟩)
 rintro ds M Q ⟨A,V,x,rfl,bd,Xu,q⟩
 refine pD bd.at_ (i' rfl (i' bd.ca (x9 bd Xu bd.ca (λ_ _ _ _=>rfl) λp hp=>⟨p,_,rfl,pK,M,.new hp,?_⟩)));rw[hW];exact q
def Ia:Fq P w K mg base 3 a.bE (A5 a):=by
 refine fq G.bE.toDG zU (λr u=>⟨_,(pE (pJ (pO (BC G) r G.J (qr (qK rfl (xt (ix:=[none,some 1]) (N':=["call","phone"])) (qI (pH v0)) (qJ 0) rN (qe v0 G.e.toCls G.U (BR G) r (qr U1))))))),?_⟩)
 rintro ds M Q ⟨A,V,x,rfl,bd,Xu,q⟩
 refine pD bd.at_ (i' rfl (i' bd.ca (x9 bd Xu bd.ca (λ_ _ _ _=>rfl) λp hp=>⟨p,_,rfl,pK,M,.new hp,?_⟩)));rw[hW];exact q
def yR:Fq P w K mg base 3 a.Q (AY a):=by
 refine fq G.Q.toDG As (λr u=>⟨_,(pE (pJ (pO (BC G) r G.J (qr (qK rfl (xt (ix:=[none,some 1]) (N':=["call","phone"])) (qI (pH v0)) (qJ 0) rN (qe v0 G.e.toCls G.T (wc G) r (qr U1))))))),?_⟩)
 rintro ds M Q ⟨A,V,x,rfl,bd,Xu,q⟩
 refine pD bd.at_ (i' rfl (i' bd.ca (x9 bd Xu bd.ca (λ_ _ _ _=>rfl) λp hp=>⟨p,_,rfl,pK,M,.new hp,?_⟩)));rw[hW];exact q
def GK:Fq P w K mg base 3 a.bM (Ah a):=by
 refine fq G.bM.toDG zC (λr u=>⟨_,(pE (pJ (pY (S5 rfl) rfl G.cK Ta (qr (qK rfl (xt (ix:=[none,some 1]) (N':=["call","phone"])) (qI (pH v0)) (qJ 0) rN (qe v0 G.e.toCls G.ap (GI G) r (qr U1))))))),?_⟩)
 rintro ds M Q ⟨A,V,x,rfl,bd,Xu,q⟩
 refine pD bd.at_ (i' rfl (i' bd.ca (x9 bd Xu bd.ca (λ_ _ _ _=>rfl) λp hp=>i' pK ?_)));rw[eA];refine i' (wI _ _) ⟨M,.new hp,?_⟩;rw[jV];exact q
def GO:Fq P w K mg base 1 a.bL (Au a):=by
 refine fq G.bL.toDG y9 (λr u=>⟨_,(pE (pJ (qc (qc (pH v0) (pH v0)) pF))),?_⟩)
 rintro ds M Q ⟨A,V,rfl,bd,q⟩
 exact pD bd.at_ (i' rfl (pD bd.at_ (i' rfl ⟨by decide,M,.refl,q⟩)))
def Na{l:pN}{x:Str}{v:uJ}(h:l.nz x=some v):xf l x=v.2.1:=by unfold xf;rw[h];rfl
def yM:Fq P w K mg base 3 a.S (xk a):=by
 refine fq G.S.toDG Av (λr u=>⟨_,(pE (pJ (qv u (qe v0 G.c.toCls G.bF (N8 G) r (qr U1)) (qe (pH v0) G.h.toCls G.bG (Du G) r (qr U1))))),?_⟩)
 rintro ds M Q ⟨A,V,l,x,rfl,rd,hx,q⟩
 obtain⟨ph,gr,ws,Yz,pr,gd,rs,i1,_⟩:=rd.pl;obtain⟨v,hv⟩:=yW hx;refine pD rd.bd.at_ ⟨rfl,_,⟨rfl,rfl⟩,A,V,x,rfl,rd.bd,rd.k,?_⟩;refine pD rd.bd.at_ (i' rfl (pD i1 ⟨rfl,_,⟨rfl,rfl⟩,V.p,x,v,l,rfl,rd.pl,hv,?_⟩));unfold tV at q;rw[Na hv]at q;exact⟨M,.refl,q⟩
def AF:Fq P w K mg base 4 a.aI (zT a):=by
 refine fq G.aI.toDG zo (λr u=>⟨_,(pE (pJ (qK rfl (xt (ix:=[none,some 1,some 0]) (N':=["phone","caller","self"])) (qI (qe (pH v0) G.h.toCls G.V (uD G) r (qr U2))) (qJ 0) (vV (W3.b3 (yF (pM u v0 U1) (yk (uR (qe U2 G.c.toCls G.S (yM G) r (qr v0))))))) v0))),?_⟩)
 rintro ds M Q ⟨A,V,l,c,z,rfl,rd,X9,q⟩
 obtain⟨ph,gr,ws,Yz,pr,gd,rs,i1,_⟩:=rd.pl;obtain⟨⟨_,p4,_,pin⟩,_⟩:=rd.ok.of X9;refine pD rd.bd.at_ (i' rfl (pD i1 ⟨rfl,_,⟨rfl,rfl⟩,V.p,z,l,rfl,rd.pl,λq1 X8=>i' pK ?_⟩));have s1:=qz.new (c:=.lst (List.map D.str (l.mQ z))) X8;have c1:=@pK M q1 (List.map D.str (l.mQ z));generalize pL M q1 (.lst (List.map D.str (l.mQ z)))=M1 at s1 c1 ⊢;have hz:=dN;have YY:=rd.sub s1;refine tK (f:=id) (t:=λd=>match d with|.str x=>!(x==c)&&tV l V x|_=>false) c1 _ [] _ (by rw[cX];simp only[dM];omega) (λd hd k hk=>?_) (λd hd _ k hk=>?_) λq2 Zo=>?_
 .obtain⟨x,hx,rfl⟩:=dE.mp hd;have hk:k (!(x==c)&&tV l V x) M1:=hk;cases e:x==c with
  | true=>rw[e]at hk;refine Ls (c:=!(x==c)) (by rw[e];rfl) hk
  | false=>rw[e]at hk;refine Bd (c:=!(x==c)) (by rw[e];rfl) (pD YY.bd.at_ ⟨rfl,_,⟨rfl,rfl⟩,A,V,l,x,rfl,YY,pin x hx,hk⟩)
 .obtain⟨x,hx,rfl⟩:=dE.mp hd;exact hk
 .have ef:[]++(List.filter (λd=>match d with|.str x=>!(x==c)&&tV l V x|_=>false) ((l.mQ z).map D.str)).map id=(uB l V c z).map D.str:=by rw[d6,jq,gZ];rfl
  rw[ef];have t2:=qz.new (c:=.lst ((uB l V c z).map D.str)) Zo;exact⟨_,.refl,q q2 _ (s1.trans t2) (s1.none Zo) pK⟩
def EU:Fq P w K mg base 5 a.M (Qp a):=by
 refine fq G.M.toDG Ih (λr u=>⟨_,(pE (pJ (qv u (pY qH rfl G.g qG (qr (qe v0 G.c.toCls G.aI (AF G) r (so U1 U2)))) pF))),?_⟩)
 rintro ds M Q ⟨A,V,l,c,z,rfl,rd,tg,q⟩
 refine pD rd.bd.at_ ⟨rfl,_,⟨rfl,rfl⟩,A,V,l,c,z,rfl,rd,tg,λq1 M1 s1 X8 e1=>i' e1 ⟨M,s1,?_⟩⟩;have e:((((uB l V c z).map D.str).length:Int)==0)=xB l V c z:=by unfold xB;rw[cX,gp,fk,List.isEmpty_iff,<-gw];omega
 show Q (.bl ((((uB l V c z).map D.str).length:Int)==0)) M;rw[e];exact q
def wK(a:Ad)(v:Wi):rC:=λds M Q=>Kt λp A V l c z=>ds=[.ref p,.ref A.b,.str c,.str z]/\M p=some (.ins (v.cls a) v.nR)/\Rd a M A V l/\z∈l.nm/\Co l.pn l.nm v/\Q (.bl (AV l V c z v)) M
def QR(a:Ad)(v:Wi):rC:=λds M Q=>BU λp L k c=>ds=[.ref p,.ref (rJ.p k)]/\M p=some (.ins (v.cls a) v.nR)/\rX a M L k c/\Q (.bl (Gd c v)) M
def F2:rC:=λds M Q=>AC λx y=>ds=[x,y]/\Q (.bl false) M
def Mg(a:Ad):Addr->rC->Prop:=λC sp=>∃v:Wi,C=v.cls a/\sp=wK a v
noncomputable def LK(a:Ad):Wi->rC
 | .silent x y n=>QR a (.silent x y n)
 | _=>F2
def Gj(a:Ad):Addr->rC->Prop:=λC sp=>∃v:Wi,C=v.cls a/\sp=LK a v
def Ac(a:Ad):rC:=λds M Q=>Kt λp x y f l h=>ds=[.ref p,.int h]/\M p=some (.ins a.o (Wi.night x y f l).nR)/\Q (.bl (FM f l h)) M
def zP(a:Ad):rC:=λds M Q=>Kt λp x q l r ms=>ds=[.ref p,.ref q,.ref r]/\M p=some (.ins a.q (Wi.breaks x).nR)/\tz a M q l/\pf M r=some (List.map D.str ms)/\ms.length<=100/\x∈l.pn/\(∀m∈ms,m∈l.pn)/\Q (.bl (HS l x ms)) M
def IG{l:pN}{x:Str}{v:uJ}(h:l.nz x=some v):vN l x=v.2.2:=by unfold vN;rw[h];rfl
def rE{ks:List rJ}{i:Nat}{k:rJ}(h:ks[i]?=some k):wC (ks.map λk=>D.ref k.p) (i:Nat)=some (.ref k.p):=vf (by rw[dF,h];rfl)
def M8(ds:List D):L3.tZ ds (some (-1:Int)) none=ds.drop (ds.length - 1):=by
 unfold L3.tZ;have e:HT.tj ds.length 0 (some (-1:Int))=ds.length - 1:=by show(if (-1:Int)<0 then((-1:Int)+(ds.length:Int)).toNat else min (-1:Int).toNat ds.length)=ds.length - 1;rw[dh (by decide)];omega
 rw[e];show(ds.drop (ds.length - 1)).take (ds.length - (ds.length - 1))=_;exact hJ (by rw[gh];exact dz _)
theorem DC{α:Type}:∀w:List α,w.drop (w.length - 1)=w.getLast?.toList
 | []=>rfl
 | [_]=>rfl
 | _::z::r=>by rw[List.getLast?_cons_cons,<-DC (z::r)];rfl
def OZ{M:Mp}{p q:Addr}{w:QQQ}{x:Str}(h1:pf M p=some ((w.map D.str).drop ((w.map D.str).length - 1)))(h2:pf M q=some [D.str x]):yY M 9 (.ref p) (.ref q)=some (w.getLast?==some x):=by
 have e:(w.map D.str).drop ((w.map D.str).length - 1)=(w.getLast?.toList).map D.str:=by rw[cX,<-kM];rw[DC]
 rw[e]at h1;show(pf M p).bind (λi=>(pf M q).bind λj=>if i.length=j.length then sP (yY M 8) i j else some false)=_;rw[h1,h2];cases w.getLast? with
 | none=>rfl
 | some y=>show((some (y==x)).bind λp=>(some true).map λq=>p&&q)=some (some y==some x);show some ((y==x)&&true)=_;rw[Bool.and_true];rfl
def MR(G:Gl K mg a)(x:Str)(ns:QQQ):Fq P w K mg base 6 a.az (wK a (.bar x ns)):=by
 refine fq G.az.toDG Gy (λr u=>⟨_,(pE (pJ (tE (qv u U2 (pH v0)) (sU (qv u U3 (pH v0)))))),?_⟩)
 rintro ds M Q ⟨p,A,V,l,c,z,rfl,hp,_,_,_,q⟩
 refine pD hp ?_;refine qM (c:=c==x) (λg=>pD hp ⟨rfl,qA ns,M,.refl,?_⟩) (λg=>⟨M,.refl,?_⟩)
 .show Q (.bl (inD (.str z) (ns.map D.str))) M;rw[sI];dsimp only[AV]at q;rw[g,eN]at q;exact q
 .dsimp only[AV]at q;rw[show(c==x)=false from dO.mpr g,eY]at q;exact q
def NL(G:Gl K mg a)(x:Str)(ns:QQQ):Fq P w K mg base 6 a.aA (wK a (.shut x ns)):=by
 refine fq G.aA.toDG EW (λr u=>⟨_,(pE (pJ (tE (qv u U3 (pH v0)) (sU (qv u U2 (pH v0)))))),?_⟩)
 rintro ds M Q ⟨p,A,V,l,c,z,rfl,hp,_,_,_,q⟩
 refine pD hp ?_;refine qM (c:=z==x) (λg=>pD hp ⟨rfl,qA ns,M,.refl,?_⟩) (λg=>⟨M,.refl,?_⟩)
 .show Q (.bl (inD (.str c) (ns.map D.str))) M;rw[sI];dsimp only[AV]at q;rw[g,eN]at q;exact q
 .dsimp only[AV]at q;rw[show(z==x)=false from dO.mpr g,eY]at q;exact q
def MS(G:Gl K mg a)(x y:Str):Fq P w K mg base 6 a.aB (wK a (.always x y)):=by
 refine fq G.aB.toDG B8 (λr u=>⟨_,(pE (pJ (qv u U3 (pH v0)))),?_⟩)
 rintro ds M Q ⟨p,A,V,l,c,z,rfl,hp,_,_,_,q⟩
 exact pD hp ⟨M,.refl,q⟩
def G9:Fq P w K mg base 1 a.bK (Ac a):=by
 refine fq G.bK.toDG zu (λr u=>⟨_,(pC (pV (pM u (pH v0) (pH v0))
 (pE (pJ (uz u (pH v0) U1 (pH v0))))
 pP)
 (pE (pJ (Jq (qv u U1 (pH v0)) (sU (qv u U1 (pH v0))))))),?_⟩)
 rintro ds M Q ⟨p,x,y,f,l,h,rfl,hp,q⟩
 refine pD hp (pD hp ?_);show if (decide (f<l))=true then _ else _
 unfold FM at q;by_cases z:f<l
 .rw[dh z]at q;refine Bd (dZ z) (pD hp ?_);refine qM (c:=decide (f<=h)) (λg=>?_) (λg=>?_)
  .rw[g,eN]at q;exact pD hp ⟨M,.refl,q⟩
  .rw[show decide (f<=h)=false from dO.mpr g,eY]at q;exact⟨M,.refl,q⟩
 .rw[df z]at q;refine Ls (eR z) (pD hp ?_);refine qM (c:=decide (h>=f)) (λg=>?_) (λg=>?_)
  .rw[g,hZ]at q;exact⟨M,.refl,q⟩
  .rw[show decide (h>=f)=false from dO.mpr g,fP]at q;exact pD hp ⟨M,.refl,q⟩
def Lm(G:Gl K mg a)(x y:Str)(f m:Int):Fq P w K mg base 6 a.aC (wK a (.night x y f m)):=by
 refine fq G.aC.toDG CZ (λr u=>⟨_,(pE (pJ (tE (qv u U3 (pH v0)) (sU (qe v0 G.o.toCls G.bK (G9 G) r (qr (yh U1 G.c.toCls G.bL (GO G) r))))))),?_⟩)
 rintro ds M Q ⟨p,A,V,l,c,z,rfl,hp,rd,_,_,q⟩
 dsimp only[AV]at q;refine pD hp ?_;refine qM (c:=z==x) (λg=>?_) (λg=>?_)
 .rw[g,eN]at q;exact pD hp ⟨rfl,_,⟨rfl,rfl⟩,pD rd.bd.at_ ⟨rfl,_,⟨rfl,rfl⟩,A,V,rfl,rd.bd,p,x,y,f,m,_,rfl,hp,M,.refl,q⟩⟩
 .rw[show(z==x)=false from dO.mpr g,eY]at q;exact⟨M,.refl,q⟩
def Le(G:Gl K mg a)(x y:Str):Fq P w K mg base 6 a.aD (wK a (.busy x y)):=by
 refine fq G.aD.toDG Fb (λr u=>⟨_,(pE (pJ (tE (qv u U3 (pH v0)) (sU (pO (EU G) r G.M (rB U1 U2 U3)))))),?_⟩)
 rintro ds M Q ⟨p,A,V,l,c,z,rfl,hp,rd,hz,_,q⟩
 dsimp only[AV]at q;refine pD hp ?_;refine qM (c:=z==x) (λg=>?_) (λg=>?_)
 .rw[g,eN]at q;exact⟨A,V,l,c,z,rfl,rd,hz,M,.refl,q⟩
 .rw[show(z==x)=false from dO.mpr g,eY]at q;exact⟨M,.refl,q⟩
def Ma(G:Gl K mg a)(x y:Str)(n:Int):Fq P w K mg base 6 a.aE (wK a (.silent x y n)):=by
 refine fq G.aE.toDG Cb (λr u=>⟨_,(pE (pJ yt)),?_⟩)
 rintro ds M Q ⟨p,A,V,l,c,z,rfl,hp,rd,hz,_,q⟩
 exact⟨M,.refl,q⟩
def MY(G:Gl K mg a)(x:Str):Fq P w K mg base 6 a.aF (wK a (.wait x)):=by
 refine fq G.aF.toDG Em (λr u=>⟨_,(pC (pV (W3.b3 (x8 (pM u U3 (pH v0)) (wJ (pM u U2 (pH v0)))))
 (pE (pJ yt))
 pP)
 (pE (pJ (tE (pO (EU G) r G.M (rB U1 U2 U3)) (sU (SH (qe U1 G.c.toCls G.bM (GK G) r (qr U3)))))))),?_⟩)
 rintro ds M Q ⟨p,A,V,l,c,z,rfl,hp,rd,hz,_,q⟩
 dsimp only[AV]at q;refine pD hp ?_;refine qM (c:=!(z==x)) (λg=>?_) (λg=>?_)
 .rw[g,hZ]at q;exact⟨M,.refl,q⟩
 rw[show(!(z==x))=false from dO.mpr g,fP]at q;refine pD hp ?_;refine qM (c:=c==x) (λg=>?_) (λg=>?_)
 .rw[g]at q;exact⟨M,.refl,q⟩
 rw[df g]at q;refine⟨A,V,l,c,z,rfl,rd,hz,?_⟩;refine qM (c:=xB l V c z) (λg=>?_) (λg=>?_)
 .rw[g,eN]at q;exact pD rd.bd.at_ ⟨rfl,_,⟨rfl,rfl⟩,A,V,z,rfl,rd.bd,rd.k,M,.refl,q⟩
 .rw[show xB l V c z=false from dO.mpr g,eY]at q;exact⟨M,.refl,q⟩
def Gi:Fq P w K mg base 2 a.bN (zP a):=by
 refine fq G.bN.toDG vt (λr u=>⟨_,(pC (pR 3 vt (qe U1 G.h.toCls G.aJ (zm G) r (qr (pH v0))))
 (pE (pJ (pY (BK rfl) rfl G.aM Cf (qr (qK rfl (xt (ix:=[none,some 1,some 3]) (N':=["member","plan","rank"])) (qI U2) (qJ 0) rN (qv u (qe U1 G.h.toCls G.aJ (zm G) r (qr v0)) U2))))))),?_⟩)
 rintro ds M Q ⟨p,x,q,l,r,ms,rfl,hp,pl,lr,h100,hx,hm,k⟩
 have hz:=dN;obtain⟨v,hv⟩:=yW hx;obtain⟨ph,gr,ws,Yz,pr,gd,rs,i1,_⟩:=id pl;refine pD i1 ⟨rfl,_,⟨rfl,rfl⟩,pD hp (i' rfl ⟨q,x,v,l,rfl,pl,hv,?_⟩)⟩;refine i' lr (qV (f:=λd=>match d with|.str m=>.bl (decide (vN l m<vN l x))|_=>.mW) lr _ [] _ (by rw[cX];show 0+ms.length<=sizeLine;omega) (λd hd k0 hk=>?_) λp1 X0=>?_)
 .obtain⟨m,hmm,rfl⟩:=dE.mp hd;obtain⟨u,hu⟩:=yW (hm m hmm);have hk:k0 (.bl (decide (vN l m<vN l x))) M:=hk;rw[IG hu,IG hv]at hk;exact pD i1 ⟨rfl,_,⟨rfl,rfl⟩,q,m,u,l,rfl,pl,hu,hk⟩
 .have em:[]++(ms.map D.str).map (λd=>match d with|.str m=>.bl (decide (vN l m<vN l x))|_=>.mW)=ms.map λm=>D.bl (decide (vN l m<vN l x)):=by rw[d6,eA];rfl
  rw[em];refine i' pK (i' (wI (λm=>decide (vN l m<vN l x)) ms) ⟨M,.new X0,?_⟩);unfold HS at k;rw[y8];exact k
def Lu(G:Gl K mg a)(x:Str):Fq P w K mg base 6 a.aG (wK a (.breaks x)):=by
 refine fq G.aG.toDG vm (λr u=>⟨_,(pC (pV (W3.b3 (x8 (pM u U2 (pH v0)) (wJ (pM u U3 (pH v0)))))
 (pE (pJ yt))
 pP)
 (pC (pV (W3.b3 (x8 (pM u U3 (yh (pH U1) G.h.toCls G.R (tT G) r)) (wJ (wU (uR (pO (EU G) r G.M (rB U1 U2 U3)))))))
 (pE (pJ yt))
 pP)
 (pC (pR 4 vm (qe U1 G.c.toCls G.Q (yR G) r (qr U3)))
 (pC (pV (pM u v4 sr)
 (pE (pJ yt))
 pP)
 (pC (pR 5 vm (pH (pQ (pH U1) v4)))
 (pE (pJ (tE (qv u (pY qH rfl G.g qG (qr v5)) pF) (sU (qe v0 G.q.toCls G.bN (Gi G) r (so (pH U1) v5))))))))))),?_⟩)
 rintro ds M Q ⟨p,A,V,l,c,z,rfl,hp,rd,X9,hx,q⟩
 have hx:x∈l.pn:=qU.mp hx;obtain⟨ph,gr,ws,Yz,pr,gd,rs,i1,_⟩:=rd.pl;have p8:=rd.ok.p8;dsimp only[AV,HK]at q;refine pD hp ?_;refine qM (c:=!(c==x)) (λh1=>?_) (λh1=>?_)
 .rw[h1,hZ]at q;exact⟨M,.refl,q⟩
 rw[show(!(c==x))=false from dO.mpr h1,fP]at q;refine pD hp ?_;refine qM (c:=z==x) (λh2=>?_) (λh2=>?_)
 .rw[h2]at q;exact⟨M,.refl,q⟩
 rw[df h2]at q;refine pD rd.bd.at_ (i' rfl (pD i1 ⟨rfl,_,⟨rfl,rfl⟩,V.p,l,rfl,rd.pl,by omega,λq1 X8=>i' pK ⟨rfl,qA _,?_⟩⟩));have t:=qz.new (c:=.lst (l.pn.map D.str)) X8;have Xz:=rd.sub t;generalize pL M q1 (.lst (l.pn.map D.str))=M1 at t Xz ⊢;show if (!(inD (.str z) (l.pn.map D.str)))=true then _ else _
 rw[sI];refine qM (c:=!(hasS l.pn z)) (λh3=>?_) (λh3=>?_)
 .rw[h3,hZ]at q;exact⟨M,t,q⟩
 rw[show(!(hasS l.pn z))=false from dO.mpr h3,fP]at q;refine⟨A,V,l,c,z,rfl,Xz,X9,?_⟩;refine qM (c:=!(xB l V c z)) (λh4=>?_) (λh4=>?_)
 .rw[h4]at q;exact⟨M,t,q⟩
 rw[df h4]at q;refine pD Xz.bd.at_ ⟨rfl,_,⟨rfl,rfl⟩,A,V,z,rfl,Xz.bd,Xz.k,?_⟩;cases e:vF V z with
 | none=>rw[e]at q;rw[show AE V z=.mW from by unfold AE;rw[e];rfl];exact⟨M,t,q⟩
 | some j=>
  rw[show AE V z=.int (j:Nat)from by unfold AE;rw[e];rfl];have hj:j<V.calls.length:=(iL.mp e).1;have e2:V.calls[j]?=some V.calls[j]:=cZ hj;rw[e]at q;generalize V.calls[j]=k at e2;have q:Q (.bl (((V.calls[j]?).elim false λk=>(k.ms.length==2)&&HS l x k.ms))) M:=q;rw[e2]at q;have hj:j<A.cs.length:=by rw[rd.bd.len];exact hj
  have ek:A.cs[j]?=some A.cs[j]:=cZ hj;obtain⟨ad,md,f1,f2,f3,f4,_⟩:=Xz.bd.cs j _ k ek e2;refine pD Xz.bd.at_ (i' rfl (i' rfl (i' Xz.bd.ca (i' (rE ek) (pD f1 (i' rfl ?_))))));refine i' f4 ?_;have el:((((k.ms.map D.str).length:Nat):Int)==2)=(k.ms.length==2):=by rw[cX,gp,fk,fk];omega
  show if ((((k.ms.map D.str).length:Nat):Int)==2)=true then _ else _
  rw[el];have q:Q (.bl ((k.ms.length==2)&&HS l x k.ms)) M:=q;refine qM (c:=k.ms.length==2) (λh5=>?_) (λh5=>?_)
  .rw[h5,eN]at q;have hm:=rd.ms k (rm e2);refine pD (t _ _ hp) ⟨rfl,_,⟨rfl,rfl⟩,pD Xz.bd.at_ (i' rfl ⟨p,x,V.p,l,md,k.ms,rfl,t _ _ hp,Xz.pl,f4,hm.2,hx,hm.1,M,t,q⟩)⟩
  .rw[show(k.ms.length==2)=false from dO.mpr h5,eY]at q;exact⟨M,t,q⟩
def Nw:Fq P w K mg base 1 a.r F2:=by
 refine fq G.r.toDG Bu (λr u=>⟨_,(pE (pJ yt)),?_⟩)
 rintro ds M Q ⟨x,y,rfl,q⟩
 exact⟨M,.refl,q⟩
def Sj(G:Gl K mg a)(x y:Str)(n:Int):Fq P w K mg base 1 a.au (QR a (.silent x y n)):=by
 refine fq G.au.toDG Af (λr u=>⟨_,(pE (pJ (tE (qv u (rW (pH U1) (sD (Ex pF)) sS) (qP (qr (pH v0)))) (sU (qv u (pH v0) (pH U1)))))),?_⟩)
 rintro ds M Q ⟨p,L,k,c,rfl,hp,⟨ad,md,h1,h2,h3,h4,_⟩,q⟩
 refine pD h1 (i' rfl (i' h2 λp1 X0=>?_));have t1:=qz.new (c:=.lst (L3.tZ (c.way.map D.str) (some (-1:Int)) none)) X0;have l1:pf (pL M p1 (.lst (L3.tZ (c.way.map D.str) (some (-1:Int)) none))) p1=some ((c.way.map D.str).drop ((c.way.map D.str).length - 1)):=by rw[pK,M8]
 show Ak (pL M p1 (.lst (L3.tZ (c.way.map D.str) (some (-1:Int)) none)) p) _;generalize pL M p1 (.lst (L3.tZ (c.way.map D.str) (some (-1:Int)) none))=M1 at t1 l1 ⊢;refine pD (t1 _ _ hp) ⟨pA rfl,λp2 Xd=>?_⟩;have t2:=qz.new (c:=.lst [D.str x]) Xd;have l2:=@pK M1 p2 [D.str x];show Option.elim (yY (pL M1 p2 (.lst [D.str x])) 9 (.ref p1) (.ref p2)) False _;generalize pL M1 p2 (.lst [D.str x])=M2 at t2 l2 ⊢;have s2:=t1.trans t2;refine i' (OZ (t2.lst l1) l2) ?_;dsimp only[Gd]at q;refine qM (c:=c.way.getLast?==some x) (λg=>?_) (λg=>?_)
 .rw[g,eN]at q;exact pD (s2 _ _ hp) (pD (s2 _ _ h1) ⟨M,s2,q⟩)
 .rw[show(c.way.getLast?==some x)=false from dO.mpr g,eY]at q;exact⟨M,s2,q⟩
def Rb:∀C sp,Mg a C sp->xM P w K mg base 6 "fits" C (NQ K sp):=by
 rintro C sp ⟨v,rfl,rfl⟩
 cases v with
 | bar x ns=>exact⟨G.t.toCls,_,_,_,G.az.nF,MR G x ns,G.az.b⟩
 | shut x ns=>exact⟨G.u.toCls,_,_,_,G.aA.nF,NL G x ns,G.aA.b⟩
 | always x y=>exact⟨G.x.toCls,_,_,_,G.aB.nF,MS G x y,G.aB.b⟩
 | night x y f m=>exact⟨G.o.toCls,_,_,_,G.aC.nF,Lm G x y f m,G.aC.b⟩
 | busy x y=>exact⟨G.y.toCls,_,_,_,G.aD.nF,Le G x y,G.aD.b⟩
 | silent x y n=>exact⟨G.v.toCls,_,_,_,G.aE.nF,Ma G x y n,G.aE.b⟩
 | wait x=>exact⟨G.w.toCls,_,_,_,G.aF.nF,MY G x,G.aF.b⟩
 | breaks x=>exact⟨G.q.toCls,_,_,_,G.aG.nF,Lu G x,G.aG.b⟩
def U0:∀C sp,Gj a C sp->xM P w K mg base 1 "is_due" C (NQ K sp):=by
 rintro C sp ⟨v,rfl,rfl⟩
 have F:=Nw (P:=P) (w:=w) (base:=base) G;cases v with
 | silent x y n=>exact⟨G.v.toCls,_,_,_,G.au.nF,Sj G x y n,G.au.b⟩
 | bar _ _=>exact⟨G.t.toCls,_,_,_,G.cj,F,G.r.b⟩
 | shut _ _=>exact⟨G.u.toCls,_,_,_,G.ck,F,G.r.b⟩
 | always _ _=>exact⟨G.x.toCls,_,_,_,G.cl,F,G.r.b⟩
 | night _ _ _ _=>exact⟨G.o.toCls,_,_,_,G.cm,F,G.r.b⟩
 | busy _ _=>exact⟨G.y.toCls,_,_,_,G.cn,F,G.r.b⟩
 | wait _=>exact⟨G.w.toCls,_,_,_,G.co,F,G.r.b⟩
 | breaks _=>exact⟨G.q.toCls,_,_,_,G.cp,F,G.r.b⟩
def Jc{es pre post:List D}{d:D}(e:pre++d::post=uG 0 es):∃x,es[pre.length]?=some x/\d=.tup [.int (pre.length:Nat),x]:=by
 have h:(uG 0 es)[pre.length]?=some d:=by rw[<-e];simp
 rw[y0]at h;cases q:es[pre.length]? with
 | none=>rw[q]at h;cases h
 | some x=>rw[q]at h;refine⟨x,rfl,?_⟩;have:=(dw h).symm;rw[mH]at this;exact this
def vj(n:Nat):∀es:List D,(uG n es).length=es.length:=λes=>by
 have h:∀i:Nat,(uG n es)[i]?=none↔es[i]?=none:=λi=>by rw[y0];cases es[i]?<;>simp
 have a:=(h es.length).mpr (gG (dz _));have b:=(h (uG n es).length).mp (gG (dz _));rw[List.getElem?_eq_none_iff]at a b;omega
def II{l:pN}{V:qC}{f:Wi->Bool}{tt:AH}{ok:Mp->Prop}{Q:DK}{M:Mp}{rest:List (Option D)}(hl:V.on.length=l.mS.length)(h16:l.mS.length<=16)(mZ:ok M) (ht:∀(i:Nat) (w:vo),l.mS[i]?=some w->∀(y:Option D) (k:Bool->Mp->Prop),k (f w.2) M->tt (some (.int (i:Nat))::y::rest) M k) (q:∀p,M p=none->Q (.ref p) (pL M p (.lst ((Ik l V f).map λn=>D.int (n:Nat))))):
  uY (QC 2 (zS (tD 0) (zS (tD 1) G7))) (N0 (b3 (v3 1)) tt) (v3 0) ok Q (uG 0 (V.on.map D.bl)) [] (none::none::rest) M:=by
 have hz:=dN;refine yd (uG 0 (V.on.map D.bl)) (λpre acc δ M'=>M=M'/\acc=((List.range pre.length).filter λi=>V.on.getD i false&&(l.mS[i]?).elim false λw=>f w.2).map (λn=>D.int (n:Nat))/\∃y1 y2,δ=y1::y2::rest) (λ_ _ _ M' j=>by rw[<-j.1];exact mZ) _ [] [] _ _ rfl ?_ ⟨rfl,rfl,none,none,rfl⟩ ?_ ?_
 .rw[vj,cX,hl];simp only[dM];omega
 .rintro pre d post e acc δ M' ⟨rfl,rfl,y1,y2,rfl⟩ k k2 hk Y9
  obtain⟨x,hx,rfl⟩:=Jc e;rw[de,dS,iZ,jv]at hk Y9;rw[dF]at hx;cases eo:V.on[pre.length]? with
  | none=>rw[eo]at hx;cases hx
  | some b=>
   rw[eo]at hx;have hx:D.bl b=x:=dw hx;subst hx;have hi:pre.length<l.mS.length:=by rw[<-hl];exact(c9.mp eo).1
   have ew:l.mS[pre.length]?=some l.mS[pre.length]:=cZ hi;generalize l.mS[pre.length]=w0 at ew;have eg:V.on.getD pre.length false=b:=by rw[gf,eo];rfl
   have no:(b&&f w0.2)=false->k2 (some (.int (pre.length:Nat))::some (.bl b)::rest) M:=λg=>by refine Y9 _ _ ⟨rfl,?_,_,_,rfl⟩;rw[iF (by rw[eg,ew];show ¬(b&&f w0.2)=true;rw[g];exact dC),ja,fh]
   refine⟨rfl,?_⟩;show if b=true then _ else _
   cases b with
   | false=>exact JO (no rfl)
   | true=>
    refine Os (ht _ _ ew _ _ ?_);cases g:f w0.2 with
    | false=>exact JO (no (by rw[g];rfl))
    | true=>refine Os (hk _ _ _ ⟨rfl,?_,_,_,rfl⟩);rw[iE (by rw[eg,ew];show(true&&f w0.2)=true;rw[g];rfl),ja,dQ];rfl
 .rintro acc δ M' ⟨rfl,rfl,y1,y2,rfl⟩ p hp
  rw[vj,cX];exact q p hp
def Br{a:Ad}{M:Mp}{rs:QXQ}{ws:List vo}(h:sQ a M rs ws){i:Nat}{w:vo}(e:ws[i]?=some w):∃r,wC (rs.map D.ref) (i:Nat)=some (.ref r)/\M r=some (.ins (w.2.cls a) w.2.nR):=by
 have hi:i<rs.length:=by rw[h.1];exact(c9.mp e).1
 exact⟨rs[i],vf (by rw[dF,cZ hi];rfl),h.2 i _ w (cZ hi) e⟩
def Mo(ds:List D)(m:Nat):L3.tZ ds none (some (m:Int))=ds.take m:=by
 unfold L3.tZ;rw[HT.CN,HT.IH,jo,lq];by_cases h:m<=ds.length
 .rw[mx h]
 .rw[Nat.min_eq_right (by omega),fu,hJ (by omega)]
def Il(ds:List D)(m:Nat)(h:m<=ds.length):L3.tZ ds (some (m:Int)) none=ds.drop m:=by unfold L3.tZ;rw[HT.CN,HT.IH,mx h];exact hJ (by rw[gh];exact dz _)
def ur(l:pN)(V:qC):Prop:=∀z∈l.nm,(l.m7 z=="turns")=true->∃v,V.ps.find? (λp=>decide (p.1=z))=some v/\0<=v.2/\v.2<=((l.mQ z).length:Int)
def Mq{l:pN}{V:qC}(h:ur l V){z:Str}(hz:z∈l.nm)(e:(l.m7 z=="turns")=true):vD (tF V.ps) (.inr z)=some (.int (zE V z:Nat))/\zE V z<=(l.mQ z).length:=by
 obtain⟨v,e1,e2,e3⟩:=h z hz e;have h1:zE V z=v.2.toNat:=by unfold zE;rw[e1];rfl
 have h2:vD (tF V.ps) (.inr z)=(V.ps.find? λp=>decide (p.1=z)).map λp=>D.int p.2:=yf (λp:Str×Int=>p.1) (λp=>D.int p.2) z V.ps;rw[h2,e1,h1];exact⟨by show some (D.int v.2)=some (.int (v.2.toNat:Nat));rw[Int.toNat_of_nonneg e2],by omega⟩
def HH(a:Ad):rC:=λds M Q=>Ha λA V l c z=>ds=[.ref A.b,.str c,.str z]/\Rd a M A V l/\z∈l.nm/\Q (wm (DO l V c z)) M
def OH(a:Ad):rC:=λds M Q=>Ha λA V l c z=>ds=[.ref A.b,.str c,.str z]/\Rd a M A V l/\z∈l.nm/\ur l V/\Q (names (xK l V c z)) M
def NJ(a:Ad):rC:=λds M Q=>Ha λA V l c z=>ds=[.ref A.b,.str c,.str z]/\Rd a M A V l/\z∈l.nm/\ur l V/\Q (HU l V c z).d M
def KI:rC:=λds M Q=>CT λx r z=>ds=[.tup (.str x::r),.str z]/\Q (if (x=="wait")=true then(vR.waits z).d else if (x=="break")=true then(vR.breaks z).d else vR.barred.d) M
noncomputable def rF(st:tJ):List D:=st.map λs=>.tup [.str s.1,wm s.2]
def KU(a:Ad):rC:=λds M Q=>Th λA V l c z r way=>ds=[.ref A.b,.str c,.str z,.ref r]/\Rd a M A V l/\z∈l.nm/\ur l V/\pf M r=some (List.map D.str way)/\way.length<=8000000/\∀q M',qz M M'->M q=none->pf M' q=some (rF (vb l V c z way).2)->Q (.tup [(vb l V c z way).1.d,.ref q]) M'
def Fl{l:pN}{V:qC}{f:Wi->Bool}{i:Nat}(h:i∈Ik l V f):∃w,l.mS[i]?=some w/\f w.2=true:=by
 have h:=(fL.mp h).2;rw[dX]at h;cases e:l.mS[i]? with
 | none=>rw[e]at h;cases h.2
 | some w=>rw[e]at h;exact⟨w,rfl,h.2⟩
noncomputable def Jf(l:pN)(way:QQQ):Nat:=(l.nm.filter λx=>!(hasS way x)).length
def Bk{l:pN}{way:QQQ}{z:Str}(hz:z∈l.nm)(h:hasS way z=false):Jf l (way++[z])<Jf l way:=by
 unfold Jf;have e:(l.nm.filter λx=>!(hasS (way++[z]) x))=(l.nm.filter λx=>!(hasS way x)).filter λx=>!(x==z):=by rw[List.filter_filter];refine List.filter_congr λx _=>?_;unfold hasS;rw[mw];show(!(way.any (·==x)||((z==x)||false)))=_;rw[kG,Bool.not_or,Bool.and_comm,mB]
 rw[e];refine Nat.lt_of_le_of_ne (gH _ _) λg=>?_;have:=kS.mp (List.Sublist.eq_of_length fZ g) z (fL.mpr ⟨hz,by rw[h];rfl⟩);simp at this
def CF{l:pN}(ok:r6 l){w:vo}(hw:w∈l.mS){z y:Str}(h:JH z w.2=.inr y):y∈l.nm:=by
 have o:=ok.wo w hw;cases e:w.2 with
 | bar _ _=>rw[e]at h;cases h
 | shut _ _=>rw[e]at h;cases h
 | always x u=>rw[e]at h o;cases h;exact qU.mp o.2.1
 | night x u f m=>rw[e]at h o;cases h;exact qU.mp o.2.1
 | busy x u=>rw[e]at h o;cases h;exact qU.mp o.2.1
 | silent x u n=>rw[e]at h o;cases h;exact qU.mp o.2.1
 | wait _=>rw[e]at h;cases h
 | breaks _=>rw[e]at h;cases h
theorem EA(x:Str):∀ss:QQQ,x∈ss->AU (.str x) (ss.map D.str)=some (ss.findIdx (·==x))
 | [],h=>by cases h
 | y::r,h=>by
  rw[dY,List.findIdx_cons];unfold AU;show(if (y==x)=true then some 0 else(AU (.str x) (r.map D.str)).map (·+1))=_;cases e:y==x with
  | true=>rfl
  | false=>
   rw[df dC];have hr:x∈r:=by
    rcases dv.mp h with g|g
    .rw[g,fE]at e;cases e
    .exact g
   rw[EA x r hr];rfl
def HW:Fq P w K mg base 7 a.aS (HH a):=by
 refine fq G.aS.toDG Cw (λr u=>⟨_,(pC (pR 3 Cw (pH (pH v0)))
 (pE (pJ (qa rh rfl G.l qY (qr (qK rfl (xt (ix:=[none,none,some 3,some 0,some 1,some 2]) (N':=["i","on","wishes","board","caller","target"])) (wO rfl G.bV (qr (pH v0))) (vi (n:=2) rfl (qF (qJ 0) (qF (qJ 1) ub))) (vV (W3.b3 (yF (uR U1) (yk (uR (Fk (R:=Mg a) (pQ U2 v0) (Rb G) (r.mono (by first|decide|omega)) (rB U3 v4 v5))))))) v0)))))),?_⟩)
 rintro ds M Q ⟨A,V,l,c,z,rfl,rd,hz,q⟩
 obtain⟨ph,gr,ws,Yz,pr,gd,rs,i1,i2,i3,i4,i5,i6,i7,i8⟩:=rd.pl;refine pD rd.bd.at_ (i' rfl (pD i1 (i' rfl ?_)));refine pD rd.bd.at_ (i' rfl (i' rd.bd.on ?_));refine II (rest:=[some (.ref ws),some (.ref A.b),some (.str c),some (.str z)]) rd.on rd.ok.w16 rd.bd.on (λi w0 ew y k hk=>?_) λp hp=>i' pK ⟨M,.new hp,q⟩;obtain⟨r,e1,e2⟩:=Br i8 ew;refine i' i4 (i' e1 (pD e2 ⟨by cases w0.2<;>rfl,_,⟨w0.2,rfl,rfl⟩,r,A,V,l,c,z,rfl,e2,rd,hz,rd.ok.wo w0 (rm ew),hk⟩))
def Om:Fq P w K mg base 5 a.aT (OH a):=by
 refine fq G.aT.toDG tw (λr u=>⟨_,(pC (pR 3 tw (qe v0 G.c.toCls G.aI (AF G) r (so U1 U2)))
 (pC (pV (pM u (qe (pH v0) G.h.toCls G.aH (xV G) r (qr U2)) pG)
 (pE (pJ (qa rh rfl G.l qY (qr U3))))
 pP)
 (pC (pR 4 tw (qe (pH v0) G.h.toCls G.V (uD G) r (qr U2)))
 (pC (pR 5 tw (zF u (pH v0) U2))
 (pC (uM (i:=6) tw.nd rfl (Or.inl rfl) rfl (xt (ix:=[none,some 3]) (N':=["phone","free"])) (qI (qc (rW v4 (sD v5) sS) (rW v4 sS (sD v5)))) (qJ 0) (vV (pM u v0 U1)) v0)
 (pE (pJ (qa rh rfl G.l qY (qr (rW v6 sS (sD pF))))))))))),?_⟩)
 rintro ds M Q ⟨A,V,l,c,z,rfl,rd,X9,nx,q⟩
 have hz:=dN;have bd:=rd.bd;have pl:=rd.pl;obtain⟨ph,gr,ws,Yz,pr,gd,rs,i1,_⟩:=rd.pl;obtain⟨⟨_,tf,_⟩,_⟩:=rd.ok.of X9;refine pD bd.at_ ⟨rfl,_,⟨rfl,rfl⟩,A,V,l,c,z,rfl,rd,X9,λq1 M1 s1 X8 e1=>?_⟩;refine pD (s1 _ _ bd.at_) (i' rfl (pD (s1 _ _ i1) ⟨rfl,_,⟨rfl,rfl⟩,V.p,z,l,rfl,pl.sub s1,?_⟩));unfold xK at q;cases e:l.m7 z=="turns" with
 | false=>rw[e]at q;exact Bd (c:=!(l.m7 z=="turns")) (by rw[e];rfl) (i' e1 ⟨M,s1,q⟩)
 | true=>
  obtain⟨hn,nl⟩:=Mq nx X9 e;generalize zE V z=n at hn nl q;rw[e,dh rfl]at q;refine Ls (c:=!(l.m7 z=="turns")) (by rw[e];rfl) ?_;refine pD (s1 _ _ bd.at_) (i' rfl (pD (s1 _ _ i1) ⟨rfl,_,⟨rfl,rfl⟩,V.p,z,l,rfl,pl.sub s1,λq2 Zo=>?_⟩));have s2:=s1.trans (qz.new (c:=.lst ((l.mQ z).map D.str)) Zo);have c2:=@pK M1 q2 ((l.mQ z).map D.str);have e2:=(qz.new (c:=.lst ((l.mQ z).map D.str)) Zo).lst e1;generalize pL M1 q2 (.lst ((l.mQ z).map D.str))=M2 at s2 c2 e2 ⊢;refine pD (s2 _ _ bd.at_) (i' rfl (i' rfl (i' (s2.dk bd.nx) (i' hn ?_))));refine i' c2 λq3 hq3=>?_;rw[Il _ n (by rw[cX];exact nl),<-kM];have t3:=qz.new (c:=.lst (((l.mQ z).drop n).map D.str)) hq3;have c3':=@pK M2 q3 (((l.mQ z).drop n).map D.str);generalize pL M2 q3 (.lst (((l.mQ z).drop n).map D.str))=M3 at t3 c3' ⊢;refine i' (t3.lst c2) λq4 hq4=>?_;rw[Mo,<-mC];have t4:=qz.new (c:=.lst (((l.mQ z).take n).map D.str)) hq4;have c4:=@pK M3 q4 (((l.mQ z).take n).map D.str);generalize pL M3 q4 (.lst (((l.mQ z).take n).map D.str))=M4 at t4 c4 ⊢;refine i' (t4.lst c3') (i' c4 ?_);refine⟨by rw[cX,cX,gh,fC];omega,λq5 hq5=>i' pK ?_⟩;rw[<-dQ];have t5:=qz.new (c:=.lst ((uW (l.mQ z) n).map D.str)) hq5;have c5:=@pK M4 q5 ((uW (l.mQ z) n).map D.str);show uY _ _ _ _ _ ((uW (l.mQ z) n).map D.str) _ _ (pL M4 q5 (.lst ((uW (l.mQ z) n).map D.str)));generalize pL M4 q5 (.lst ((uW (l.mQ z) n).map D.str))=M5 at t5 c5 ⊢;have s5:=t3.trans (t4.trans t5);have e5:=s5.lst e2;have tl:(uW (l.mQ z) n).length<=200:=by unfold uW;rw[de,gh,fC];omega
  refine tK (f:=id) (t:=λd=>inD d ((uB l V c z).map D.str)) c5 _ [] _ (by rw[cX];simp only[dM];omega) (λd hd k hk=>?_) (λd hd _ k hk=>?_) λq6 hq6=>?_
  .obtain⟨x,hx,rfl⟩:=dE.mp hd;exact i' e5 ⟨rfl,qA _,hk⟩
  .obtain⟨x,hx,rfl⟩:=dE.mp hd;exact hk
  .have ef:[]++(List.filter (λd=>inD d ((uB l V c z).map D.str)) ((uW (l.mQ z) n).map D.str)).map id=((uW (l.mQ z) n).filter λx=>hasS (uB l V c z) x).map D.str:=by
    rw[d6,jq,gZ];have:((λd=>inD d ((uB l V c z).map D.str))∘D.str)=λx=>hasS (uB l V c z) x:=by funext x;exact sI _ _
    rw[this]
   rw[ef];refine i' pK λq7 hq7=>i' pK ?_;rw[show L3.tZ (((uW (l.mQ z) n).filter λx=>hasS (uB l V c z) x).map D.str) none (some (1:Int))=(((uW (l.mQ z) n).filter λx=>hasS (uB l V c z) x).take 1).map D.str from(Mo _ 1).trans (mC).symm];exact⟨M,s2.trans (s5.trans ((qz.new hq6).trans (.new hq7))),q⟩
def La:Fq P w K mg base 6 a.aU (NJ a):=by
 refine fq G.aU.toDG uX (λr u=>⟨_,(pC (pR 3 uX (pO (Om G) r G.aT (rB v0 U1 U2)))
 (pC (pV (pM u (pY qH rfl G.g qG (qr U3)) pF)
 (pE (pJ (pS (so pG U2))))
 pP)
 (pE (pJ (pS (rB pG U2 U3)))))),?_⟩)
 rintro ds M Q ⟨A,V,l,c,z,rfl,rd,hz,nx,q⟩
 refine⟨A,V,l,c,z,rfl,rd,hz,nx,?_⟩;unfold HU at q;cases e:xK l V c z with
 | nil=>rw[e]at q;exact⟨pA rfl,M,.refl,q⟩
 | cons x r=>rw[e]at q;exact⟨pA rfl,M,.refl,q⟩
def Ke:Fq P w K mg base 1 a.aV KI:=by
 refine fq G.aV.toDG zW (λr u=>⟨_,(pC (pV (pM u (pQ v0 pF) pG)
 (pE (pJ (pS (so pG U1))))
 pP)
 (pC (pV (pM u (pQ v0 pF) pG)
 (pE (pJ (pS (so pG U1))))
 pP)
 (pE (pJ (pS (qr pG)))))),?_⟩)
 rintro ds M Q ⟨x,r,z,rfl,q⟩
 refine i' (zv _ _) (qM (c:=x=="wait") (λg=>?_) (λg=>?_))
 .rw[dh g]at q;exact⟨pA rfl,M,.refl,q⟩
 rw[df g]at q;refine i' (zv _ _) (qM (c:=x=="break") (λg=>?_) (λg=>?_))
 .rw[dh g]at q;exact⟨pA rfl,M,.refl,q⟩
 rw[df g]at q;exact⟨pA rfl,M,.refl,q⟩
def LQ:Fq P w K mg base 8 a.aW (KU a):=by
 refine fq G.aW.toDG wA (λr u=>⟨_,(pC (pR 4 wA (qa ue rfl G.z tO (qr U3)))
 (pC (pR 5 wA (qP sG))
 (pC (M9 fm (pM u U2 v4)
 (pC (pU (ra v4 (qr U2)))
 (pC (pR 6 wA (pO (HW G) r G.aS (rB v0 U1 U2)))
 (pC (pU (ra v5 (qr (pS (so U2 v6)))))
 (pC (pV (pM u (pY qH rfl G.g qG (qr v6)) pF)
 (pE (pJ (pS (so (pO (La G) r G.aU (rB v0 U1 U2)) v5))))
 pP)
 (pC (pR 7 wA (B' (R:=Jd a) (pQ (pH (pH v0)) (pQ v6 pF)) (Oh G) (r.mono (by first|decide|omega))))
 (pC (pV (pM u (pQ v7 pF) pG)
 (pE (pJ (pS (so (pO (Ke G) r G.aV (so v7 U2)) v5))))
 pP)
 (pE (pR 2 wA (pQ v7 pF))))))))))
 (pE (pJ (pS (so (pS (so pG (qa rh rfl G.l qY (qr (rW v4 (sD (xP v4 (qr U2))) sS))))) v5))))))),?_⟩)
 rintro ds M Q ⟨A,V,l,c,z0,r,Yo,rfl,rd,hz0,nx,hr0,hw0,q⟩
 have hz:=dN;have p8:=rd.ok.p8;have g3:=rd.ok.g3;have nl:l.nm.length<=11:=by unfold pN.nm pN.pn pN.gn;rw[de,cX,cX];omega
 refine i' hr0 λp1 X0=>⟨pA rfl,λp2 Xd=>?_⟩;have t1:=qz.new (c:=.lst (Yo.map D.str)) X0;have t2:=qz.new (c:=.lst []) Xd;have c1:pf (pL (pL M p1 (.lst (Yo.map D.str))) p2 (.lst [])) p1=some (Yo.map D.str):=t2.lst pK;have c2:=@pK (pL M p1 (.lst (Yo.map D.str))) p2 [];have n12:p2≠p1:=λy=>by rw[y,pX]at Xd;cases Xd
 have m2:M p2=none:=t1.none Xd;have s2:=t1.trans t2;generalize pL (pL M p1 (.lst (Yo.map D.str))) p2 (.lst [])=M2 at c1 c2 s2 ⊢;refine⟨λm δ M'=>∃z way st,qz M M'/\pf M' p1=some (List.map D.str way)/\pf M' p2=some (rF st)/\z∈l.nm/\Jf l way<m/\way.length+m<=8000012/\st.length+m<=100/\wN l V c m z way st=vb l V c z0 Yo/\∃y6 y7,δ=[some (.ref A.b),some (.str c),some (.str z),some (.ref r),some (.ref p1),some (.ref p2),y6,y7],⟨l.nm.length+1,z0,Yo,[],s2,c1,c2,hz0,Nat.lt_succ_of_le (gH _ _),by omega,by show 0+(l.nm.length+1)<=100;omega,rfl,none,none,rfl⟩,?_⟩
 rintro m δ M' ⟨z,way,st,sM,l1,l2,X9,Xe,hwl,Y3,er,y6,y7,rfl⟩
 obtain⟨m,rfl⟩:∃k,m=k+1:=⟨m - 1,by omega⟩;have q2:∀W8,qz M W8->pf W8 p2=some (rF (wN l V c (m+1) z way st).2)->Q (.tup [(wN l V c (m+1) z way st).1.d,.ref p2]) W8:=λW8 s ll=>by rw[er]at ll ⊢;exact q p2 W8 s m2 ll
 clear q;unfold wN at er q2;refine i' l1 ⟨rfl,qA way,?_⟩;show if (!(inD (.str z) (way.map D.str)))=true then _ else _
 rw[sI];refine qM (c:=!(hasS way z)) (λh1=>?_) (λh1=>?_)
 rotate_left
 .
  have h1:hasS way z=true:=by simpa using h1
  rw[dh h1]at q2;refine⟨by show(pf M' p1).isSome=true;rw[l1];rfl,i' l1 ⟨rfl,qA _,i' (EA z way (qU.mp h1)) (i' l1 λp3 hp3=>?_)⟩⟩;have hle:way.findIdx (·==z)<=(way.map D.str).length:=by rw[cX];exact List.findIdx_le_length
  rw[Il _ _ hle,<-kM];refine i' pK ⟨pA rfl,pA rfl,_,.refl,q2 _ (sM.trans (.new hp3)) ((qz.new hp3).lst l2)⟩
 have h1:hasS way z=false:=by simpa using h1
 rw[h1,df dC]at er q2;refine⟨by show(pf M' p1).isSome=true;rw[l1];rfl,i' l1 ⟨by rw[cX];omega,?_⟩⟩;have k3:sf p1 M' (pL M' p1 (.lst (way.map D.str++[D.str z]))):=.put;have s3:qz M (pL M' p1 (.lst (way.map D.str++[D.str z]))):=λx d hx=>by rw[uh (Qi hx X0)];exact sM x d hx
 have c3:=k3.lst n12 l2;have l3:pf (pL M' p1 (.lst (way.map D.str++[D.str z]))) p1=some ((way++[z]).map D.str):=by rw[pK,dQ];rfl
 generalize pL M' p1 (.lst (way.map D.str++[D.str z]))=M3 at s3 c3 l3 ⊢;refine⟨A,V,l,c,z,rfl,rd.sub s3,X9,?_⟩;generalize hf:DO l V c z=fs at er q2 ⊢;refine⟨by show(pf M3 p2).isSome=true;rw[c3];rfl,pA rfl,i' c3 ⟨by unfold rF;rw[cX];omega,?_⟩⟩;have es:rF st++[.tup [.str z,wm fs]]=rF (st++[(z,fs)]):=by unfold rF;rw[dQ];rfl
 rw[es];have s4:qz M (pL M3 p2 (.lst (rF (st++[(z,fs)])))):=λx d hx=>by rw[uh (Qi hx m2)];exact s3 x d hx
 have c4:=@pK M3 p2 (rF (st++[(z,fs)]));have l4:pf (pL M3 p2 (.lst (rF (st++[(z,fs)])))) p1=some ((way++[z]).map D.str):=sf.lst .put (dR n12) l3;generalize pL M3 p2 (.lst (rF (st++[(z,fs)])))=M4 at s4 c4 l4 ⊢;cases fs with
 | nil=>exact⟨A,V,l,c,z,rfl,rd.sub s4,X9,nx,pA rfl,M4,.refl,q2 M4 s4 c4⟩
 | cons i fr=>
  obtain⟨w0,ew,_⟩:=Fl (l:=l) (V:=V) (f:=AV l V c z) (i:=i) (by show i∈DO l V c z;rw[hf];exact dU);dsimp only at er q2;rw[ew]at er q2;dsimp only[Option.elim]at er q2;obtain⟨ph,gr,ws,Yz,pr,gd,rs,i1,i2,i3,i4,i5,i6,i7,i8⟩:=(rd.sub s4).pl;obtain⟨ZJ,e1,e2⟩:=Br i8 ew;have hwo:=rd.ok.wo w0 (rm ew);have ZK:∀y,JH z w0.2=.inr y->y∈l.nm:=λy h=>CF rd.ok (rm ew) h;refine pD (s4 _ _ rd.bd.at_) (i' rfl (pD i1 (i' rfl (i' (zv _ _) (i' i4 (i' e1 ?_))))));cases hv:w0.2 with
  | bar x ns=>rw[hv]at q2 e2;exact pD e2 ⟨rfl,_,.inl ⟨.inl rfl,rfl⟩,ZJ,rfl,⟨"end",[],z,rfl,pA rfl,M4,.refl,q2 M4 s4 c4⟩⟩
  | shut x ns=>rw[hv]at q2 e2;exact pD e2 ⟨rfl,_,.inl ⟨.inr rfl,rfl⟩,ZJ,rfl,⟨"end",[],z,rfl,pA rfl,M4,.refl,q2 M4 s4 c4⟩⟩
  | wait x=>rw[hv]at q2 e2;exact pD e2 ⟨rfl,_,.inr (.inr (.inl ⟨rfl,rfl⟩)),ZJ,_,_,_,rfl,e2,rfl,⟨"wait",_,z,rfl,pA rfl,M4,.refl,q2 M4 s4 c4⟩⟩
  | breaks x=>rw[hv]at q2 e2;exact pD e2 ⟨rfl,_,.inr (.inr (.inr ⟨rfl,rfl⟩)),ZJ,rfl,⟨"break",_,z,rfl,pA rfl,M4,.refl,q2 M4 s4 c4⟩⟩
  | always x y=>rw[hv]at er e2 ZK;exact pD e2 ⟨rfl,_,.inr (.inl ⟨.inl rfl,rfl⟩),ZJ,_,_,_,rfl,e2,rfl,⟨m,fJ _,y,way++[z],st++[(z,i::fr)],s4,l4,c4,ZK y rfl,by have:=Bk X9 h1;omega,by rw[de];show way.length+1+m<=_;omega,by rw[de];show st.length+1+m<=_;omega,er,_,_,rfl⟩⟩
  | night x y f mm=>rw[hv]at er e2 ZK;exact pD e2 ⟨rfl,_,.inr (.inl ⟨.inr (.inl rfl),rfl⟩),ZJ,_,_,_,rfl,e2,rfl,⟨m,fJ _,y,way++[z],st++[(z,i::fr)],s4,l4,c4,ZK y rfl,by have:=Bk X9 h1;omega,by rw[de];show way.length+1+m<=_;omega,by rw[de];show st.length+1+m<=_;omega,er,_,_,rfl⟩⟩
  | busy x y=>rw[hv]at er e2 ZK;exact pD e2 ⟨rfl,_,.inr (.inl ⟨.inr (.inr (.inl rfl)),rfl⟩),ZJ,_,_,_,rfl,e2,rfl,⟨m,fJ _,y,way++[z],st++[(z,i::fr)],s4,l4,c4,ZK y rfl,by have:=Bk X9 h1;omega,by rw[de];show way.length+1+m<=_;omega,by rw[de];show st.length+1+m<=_;omega,er,_,_,rfl⟩⟩
  | silent x y n=>rw[hv]at er e2 ZK;exact pD e2 ⟨rfl,_,.inr (.inl ⟨.inr (.inr (.inr rfl)),rfl⟩),ZJ,_,_,_,rfl,e2,rfl,⟨m,fJ _,y,way++[z],st++[(z,i::fr)],s4,l4,c4,ZK y rfl,by have:=Bk X9 h1;omega,by rw[de];show way.length+1+m<=_;omega,by rw[de];show st.length+1+m<=_;omega,er,_,_,rfl⟩⟩
noncomputable def yE(V:qC)(i:Nat)(c:pI):qC:={V with calls:=V.calls.set i c}
def sv(V:qC)(i:Nat)(c d:pI):yE (yE V i c) i d=yE V i d:=by unfold yE;rw[iY]
structure CI(a:Ad)(M:Mp)(A:tX)(V:qC)(i:Nat)(k:rJ)(c:pI):Prop where
 bd:pT a M A V
 e1:A.cs[i]?=some k
 e2:V.calls[i]?=some c
noncomputable def cF(x:Str)(wy ad md:Addr)(k:Nat):List (Str×D):=List.take (α:=Str×D) k [("state",.str "rings"),("caller",.str x),("way",.ref wy),("at",.ref ad),("members",.ref md),("holder",.mW),("since",.int 0)]
variable {M':Mp}{i:Nat}{k:rJ}
section
variable {c:pI}
def CI.cell(h:CI a M A V i k c):rX a M (A.lists++V.fo) k c:=h.bd.cs i k c h.e1 h.e2
def CI.sub(h:CI a M A V i k c)(s:qz M M'):CI a M' A V i k c:=⟨h.bd.sub s,h.e1,h.e2⟩
def CI.put(h:CI a M A V i k c)(c':pI){ad md:Addr}(ew:c'.way=c.way)(la:pf M ad=some (c'.at_.map D.str))(lm:pf M md=some (c'.ms.map D.str))(na:ad∉A.lists++V.fo)(nm:md∉A.lists++V.fo):
  CI a (pL M k.p (.ins a.e (rD c' k.wy ad md))) A (yE V i c') i k c'/\qW A M A (pL M k.p (.ins a.e (rD c' k.wy ad md))):=by
 obtain⟨b,s⟩:=h.bd.ow h.e1 h.e2 ew la lm na nm;refine⟨⟨b,h.e1,?_⟩,s⟩;show(V.calls.set i c')[i]?=some c';rw[eO (c9.mp h.e2).1]
end
inductive QZ(i:Nat)(c:pI):Ev->pI->Prop
 | rings (ps:QQQ):QZ i c (.rings i ps) (c.ring ps)
 | quiet:QZ i c (.quiet i) c.nS
 | waits (x:Str):QZ i c (.waits i x) (c.wait x)
 | talks (ms:QQQ):QZ i c (.talks i ms) (c.nP ms)
 | held (x:Str):QZ i c (.held i x) (c.hold x)
 | leaves (x:Str):QZ i c (.leaves i x) (c.drop x)
 | over (w:Str):QZ i c (.over i w) (c.over w)
def G6(a:Ad):rC:=λds M Q=>AC λp x=>ds=[.ref p,.str x]/\M p=some (.ins a.e [])/\∀M' wy ad md,sf p M M'->M wy=none->M ad=none->M md=none->ad≠wy->md≠wy->M' p=some (.ins a.e (rD (zc x) wy ad md))->pf M' wy=some []->pf M' ad=some []->pf M' md=some []->Q .mW M'
def PR(a:Ad):rC:=λds M Q=>Kt λA V i k c w=>ds=[.ref k.p,.str w]/\CI a M A V i k c/\∀M',qW A M A M'->pT a M' A (yE V i (c.over w))->Q .mW M'
def NH(a:Ad):rC:=λds M Q=>Kt λA V i k c x=>ds=[.ref k.p,.str x]/\CI a M A V i k c/\c.at_.length<=100/\c.ms.length<=100/\∀M',qW A M A M'->pT a M' A (yE V i (c.drop x))->Q .mW M'
def KL(a:Ad):rC:=λds M Q=>Th λA V i k c e c'=>ds=[.ref k.p,Ev.d e]/\CI a M A V i k c/\c.at_.length<=100/\c.ms.length<=100/\QZ i c e c'/\∀M',qW A M A M'->pT a M' A (yE V i c')->Q .mW M'
def Qu:Fq P w K mg base 1 a.ao (G6 a):=by
 refine fq G.ao.toDG FR (λr u=>⟨_,(pC (qk v0 pG)
 (pC (qk v0 U1)
 (pC (qk v0 (qP sG))
 (pC (qk v0 (qP sG))
 (pC (qk v0 (qP sG))
 (pC (qk v0 sr)
 (pC (qk v0 pF)
 (pE (qk v0 sr))))))))),?_⟩)
 rintro ds M Q ⟨p,x,rfl,hb,q⟩
 refine pD hb ⟨(G.j "state" rfl),by show 0<1000;decide,?_⟩;have k1:sf p M (pL M p (.ins a.e [("state",.str "rings")])):=.put;have b1:pL M p (.ins a.e [("state",.str "rings")]) p=some (.ins a.e [("state",.str "rings")]):=pX;show uF _ _ _ _ (pL M p (.ins a.e [("state",.str "rings")]));generalize pL M p (.ins a.e [("state",.str "rings")])=N1 at k1 b1 ⊢;refine pD b1 ⟨(G.j "caller" rfl),by show 1<1000;decide,?_⟩;have k2:=k1.trans (sf.put (p:=p) (c:=.ins a.e [("state",.str "rings"),("caller",.str x)]));have b2:pL N1 p (.ins a.e [("state",.str "rings"),("caller",.str x)]) p=some (.ins a.e [("state",.str "rings"),("caller",.str x)]):=pX;show uF _ _ _ _ (pL N1 p (.ins a.e [("state",.str "rings"),("caller",.str x)]));generalize pL N1 p (.ins a.e [("state",.str "rings"),("caller",.str x)])=N2 at k2 b2 ⊢;refine⟨pA rfl,λwy hwy=>?_⟩;obtain⟨n3,e3,k3,c3,b3⟩:=sY (fs':=(cF x wy 0 0 3)) (c:=.lst []) b2 hwy;refine pD e3 ⟨(G.j "way" rfl),by show 2<1000;decide,?_⟩;show uF _ _ _ _ (pL (pL N2 wy (.lst [])) p (.ins a.e (cF x wy 0 0 3)));generalize pL (pL N2 wy (.lst [])) p (.ins a.e (cF x wy 0 0 3))=N3 at k3 c3 b3 ⊢;have z1:M wy=none:=rO k2 b2 hwy;have kk3:=k2.trans k3;have l3:pf N3 wy=some []:=sF c3;refine⟨pA rfl,λad Zn=>?_⟩;obtain⟨n4,e4,k4,c4,b4⟩:=sY (fs':=(cF x wy ad 0 4)) (c:=.lst []) b3 Zn;refine pD e4 ⟨(G.j "at" rfl),by show 3<1000;decide,?_⟩;show uF _ _ _ _ (pL (pL N3 ad (.lst [])) p (.ins a.e (cF x wy ad 0 4)));generalize pL (pL N3 ad (.lst [])) p (.ins a.e (cF x wy ad 0 4))=N4 at k4 c4 b4 ⊢;have z2:M ad=none:=rO kk3 b3 Zn;have Y7:=kk3.trans k4;have naw:ad≠wy:=λz=>by rw[z,c3]at Zn;cases Zn
 have l4:=k4.lst (pZ l3 b3) l3;have m4:pf N4 ad=some []:=sF c4;refine⟨pA rfl,λmd hmd=>?_⟩;obtain⟨n5,e5,k5,c5,b5⟩:=sY (fs':=(cF x wy ad md 5)) (c:=.lst []) b4 hmd;refine pD e5 ⟨(G.j "members" rfl),by show 4<1000;decide,?_⟩;show uF _ _ _ _ (pL (pL N4 md (.lst [])) p (.ins a.e (cF x wy ad md 5)));generalize pL (pL N4 md (.lst [])) p (.ins a.e (cF x wy ad md 5))=N5 at k5 c5 b5 ⊢;have z3:M md=none:=rO Y7 b4 hmd;have Y8:=Y7.trans k5;have nmw:md≠wy:=λz=>by rw[z,qm l4]at hmd;cases hmd
 have l5:=k5.lst (pZ l4 b4) l4;have m5:=k5.lst (pZ m4 b4) m4;have o5:pf N5 md=some []:=sF c5;refine pD b5 ⟨(G.j "holder" rfl),by show 5<1000;decide,?_⟩;have k6:sf p N5 (pL N5 p (.ins a.e (cF x wy ad md 6))):=.put;have b6:pL N5 p (.ins a.e (cF x wy ad md 6)) p=some (.ins a.e (cF x wy ad md 6)):=pX;show uF _ _ _ _ (pL N5 p (.ins a.e (cF x wy ad md 6)));generalize pL N5 p (.ins a.e (cF x wy ad md 6))=N6 at k6 b6 ⊢;refine pD b6 ⟨(G.j "since" rfl),by show 6<1000;decide,?_⟩;have k7:=k6.trans (sf.put (p:=p) (c:=.ins a.e (cF x wy ad md 7)));have b7:pL N6 p (.ins a.e (cF x wy ad md 7)) p=some (.ins a.e (cF x wy ad md 7)):=pX;rw[show vZ "since" (.int 0) (cF x wy ad md 6)=(cF x wy ad md 7)from rfl];generalize pL N6 p (.ins a.e (cF x wy ad md 7))=N7 at k7 b7 ⊢;refine pD b7 ⟨(G.j "word" rfl),by show 7<1000;decide,_,.refl,?_⟩;have k8:=k7.trans (sf.put (p:=p) (c:=.ins a.e (rD (zc x) wy ad md)));exact q _ wy ad md (Y8.trans k8) z1 z2 z3 naw nmw pX (k8.lst (pZ l5 b5) l5) (k8.lst (pZ m5 b5) m5) (k8.lst (pZ o5 b5) o5)
def Jn:Fq P w K mg base 1 a.Z (PR a):=by
 refine fq G.Z.toDG Gu (λr u=>⟨_,(pC (qk v0 pG)
 (pC (qk v0 U1)
 (pC (qk v0 (qP sG))
 (pC (qk v0 (qP sG))
 (pE (qk v0 sr)))))),?_⟩)
 rintro ds M Q ⟨A,V,i,k,c,w0,rfl,h,q⟩
 obtain⟨ad,md,h1,h2,h3,h4,n1,n2⟩:=h.cell;refine pD h1 ⟨(G.j "state" rfl),by show 8<1000;decide,?_⟩;obtain⟨g1,s1⟩:=h.put {c with st:="over"} rfl h3 h4 n1 n2;show uF _ _ _ _ (pL M k.p (.ins a.e (rD {c with st:="over"} k.wy ad md)));generalize pL M k.p (.ins a.e (rD {c with st:="over"} k.wy ad md))=M1 at g1 s1 ⊢;clear h1 h2 h3 h4 n1 n2;obtain⟨ad,md,h1,h2,h3,h4,n1,n2⟩:=g1.cell;refine pD h1 ⟨(G.j "word" rfl),by show 8<1000;decide,?_⟩;obtain⟨g2,s2⟩:=g1.put {c with st:="over",wd:=some w0} rfl h3 h4 n1 n2;show uF _ _ _ _ (pL M1 k.p (.ins a.e (rD {c with st:="over",wd:=some w0} k.wy ad md)));generalize pL M1 k.p (.ins a.e (rD {c with st:="over",wd:=some w0} k.wy ad md))=M2 at g2 s2 ⊢;clear h1 h2 h3 h4 n1 n2;refine⟨pA rfl,λp hp=>?_⟩;have t3:=qz.new (c:=.lst []) hp;have lp:=@pK M2 p [];have np:=g2.bd.nG hp;have Zq:=g2.sub t3;have s2':=s2.trans (.sub t3);generalize pL M2 p (.lst [])=M2' at t3 lp Zq s2' ⊢;obtain⟨ad,md,h1,h2,h3,h4,n1,n2⟩:=Zq.cell;refine pD h1 ⟨(G.j "at" rfl),by show 8<1000;decide,?_⟩;obtain⟨g3,s3⟩:=Zq.put {c with st:="over",wd:=some w0,at_:=[]} rfl lp h4 np n2;show uF _ _ _ _ (pL M2' k.p (.ins a.e (rD {c with st:="over",wd:=some w0,at_:=[]} k.wy p md)));generalize pL M2' k.p (.ins a.e (rD {c with st:="over",wd:=some w0,at_:=[]} k.wy p md))=M3 at g3 s3 ⊢;clear h1 h2 h3 h4 n1 n2 lp t3 np g2 Zq;refine⟨pA rfl,λp2 Xd=>?_⟩;have t4:=qz.new (c:=.lst []) Xd;have lp:=@pK M3 p2 [];have np:=g3.bd.nG Xd;have ZL:=g3.sub t4;have s3':=s3.trans (.sub t4);generalize pL M3 p2 (.lst [])=M3' at t4 lp ZL s3' ⊢;obtain⟨ad,md,h1,h2,h3,h4,n1,n2⟩:=ZL.cell;refine pD h1 ⟨(G.j "members" rfl),by show 8<1000;decide,?_⟩;obtain⟨g4,s4⟩:=ZL.put {c with st:="over",wd:=some w0,at_:=[],ms:=[]} rfl h3 lp n1 np;rw[show vZ "members" (.ref p2) (rD {c with st:="over",wd:=some w0,at_:=[]} k.wy ad md)=rD {c with st:="over",wd:=some w0,at_:=[],ms:=[]} k.wy ad p2 from rfl];generalize pL M3' k.p (.ins a.e (rD {c with st:="over",wd:=some w0,at_:=[],ms:=[]} k.wy ad p2))=M4 at g4 s4 ⊢;clear h1 h2 h3 h4 n1 n2 lp t4 np g3 ZL;obtain⟨ad,md,h1,h2,h3,h4,n1,n2⟩:=g4.cell;refine pD h1 ⟨(G.j "holder" rfl),by show 8<1000;decide,_,.refl,?_⟩;obtain⟨g5,s5⟩:=g4.put (c.over w0) rfl h3 h4 n1 n2;refine q _ ((s1.trans s2').trans (s3'.trans (s4.trans s5))) ?_;have:=g5.bd;rw[sv,sv,sv,sv]at this;exact this
def KY:Fq P w K mg base 1 a.aO (NH a):=by
 refine fq G.aO.toDG CY (λr u=>⟨_,(pC (qk v0 (qK rfl (xt (ix:=[none,some 1]) (N':=["other","phone"])) (qI (pH v0)) (qJ 0) (vV (pM u v0 U1)) v0))
 (pE (qk v0 (qK rfl (xt (ix:=[none,some 1]) (N':=["other","phone"])) (qI (pH v0)) (qJ 0) (vV (pM u v0 U1)) v0)))),?_⟩)
 rintro ds M Q ⟨A,V,i,k,c,x,rfl,h,la,lm,q⟩
 have hz:=dN;obtain⟨ad,md,h1,h2,h3,h4,n1,n2⟩:=h.cell;refine pD h1 (i' rfl (i' h3 (tK (f:=id) (t:=OR x) h3 _ [] _ (by rw[cX];simp only[dM];omega) (λd hd k0 hk=>?_) (λd hd _ k0 hk=>?_) λp hp=>?_)))
 .obtain⟨y,hy,rfl⟩:=dE.mp hd;exact hk
 .obtain⟨y,hy,rfl⟩:=dE.mp hd;exact hk
 rw[CM];have t1:=qz.new (c:=.lst ((rR c.at_ x).map D.str)) hp;have lp:=@pK M p ((rR c.at_ x).map D.str);have np:=h.bd.nG hp;have h':=h.sub t1;have s1:qW A M A (pL M p (.lst ((rR c.at_ x).map D.str))):=.sub t1;generalize pL M p (.lst ((rR c.at_ x).map D.str))=M1 at t1 lp h' s1 ⊢;clear h1 h2 h3 h4 n1 n2;obtain⟨ad,md,h1,h2,h3,h4,n1,n2⟩:=h'.cell;refine pD h1 ⟨(G.j "at" rfl),by show 8<1000;decide,?_⟩;obtain⟨g2,s2⟩:=h'.put {c with at_:=rR c.at_ x} rfl lp h4 np n2;rw[show vZ "at" (.ref p) (rD c k.wy ad md)=rD {c with at_:=rR c.at_ x} k.wy p md from rfl];generalize pL M1 k.p (.ins a.e (rD {c with at_:=rR c.at_ x} k.wy p md))=M2 at g2 s2 ⊢;clear h1 h2 h3 h4 n1 n2 lp np;obtain⟨ad,md,h1,h2,h3,h4,n1,n2⟩:=g2.cell;refine pD h1 (i' rfl (i' h4 (tK (f:=id) (t:=OR x) h4 _ [] _ (by rw[cX];simp only[dM];show 0+c.ms.length<=sizeLine;omega) (λd hd k0 hk=>?_) (λd hd _ k0 hk=>?_) λp2 Xd=>?_)))
 .obtain⟨y,hy,rfl⟩:=dE.mp hd;exact hk
 .obtain⟨y,hy,rfl⟩:=dE.mp hd;exact hk
 rw[CM];have t3:=qz.new (c:=.lst ((rR c.ms x).map D.str)) Xd;have lp:=@pK M2 p2 ((rR c.ms x).map D.str);have np:=g2.bd.nG Xd;have Zq:=g2.sub t3;have s3:qW A M2 A (pL M2 p2 (.lst ((rR c.ms x).map D.str))):=.sub t3;generalize pL M2 p2 (.lst ((rR c.ms x).map D.str))=M3 at t3 lp Zq s3 ⊢;clear h1 h2 h3 h4 n1 n2;obtain⟨ad,md,h1,h2,h3,h4,n1,n2⟩:=Zq.cell;refine pD h1 ⟨(G.j "members" rfl),by show 8<1000;decide,_,.refl,?_⟩;obtain⟨g4,s4⟩:=Zq.put (c.drop x) rfl h3 lp n1 np;refine q _ ((s1.trans s2).trans (s3.trans s4)) ?_;have:=g4.bd;rw[sv]at this;exact this
def JN:Fq P w K mg base 2 a.aP (KL a):=by
 refine fq G.aP.toDG xQ (λr u=>⟨_,(pC (pR 2 xQ (pQ U1 pF))
 (pE (pV (pM u U2 pG)
 (pC (qk v0 pG)
 (pC (qk v0 (qa ue rfl G.z tO (qr (pQ U1 pF))))
 (pE (qk v0 pF))))
 (pE (pV (pM u U2 pG)
 (pE (qk v0 (qP sG)))
 (pE (pV (pM u U2 pG)
 (pC (qk v0 pG)
 (pE (qk v0 (qP (qr (pQ U1 pF))))))
 (pE (pV (pM u U2 pG)
 (pC (qk v0 pG)
 (pC (qk v0 (qa ue rfl G.z tO (qr (pQ U1 pF))))
 (pC (qk v0 (qP sG))
 (pE (qk v0 sr)))))
 (pE (pV (pM u U2 pG)
 (pC (qk v0 pG)
 (pE (qk v0 (pQ U1 pF))))
 (pE (pV (pM u U2 pG)
 (pE (pU (pO (KY G) r G.aO (so v0 (pQ U1 pF)))))
 (pE (pV (pM u U2 pG)
 (pE (pU (pO (Jn G) r G.Z (so v0 (pQ U1 pF)))))
 pP))))))))))))))),?_⟩)
 rintro ds M Q ⟨A,V,i,k,c,e,c',rfl,h,la,lm,hc,q⟩
 cases hc with
 | over w0=>exact⟨A,V,i,k,c,w0,rfl,h,λM' s b=>⟨M',.refl,q M' s b⟩⟩
 | leaves x=>exact⟨A,V,i,k,c,x,rfl,h,la,lm,λM' s b=>⟨M',.refl,q M' s b⟩⟩
 | quiet=>refine⟨pA rfl,λp hp=>?_⟩;have t3:=qz.new (c:=.lst []) hp;have lp:=@pK M p [];have np:=h.bd.nG hp;have g1:=h.sub t3;generalize pL M p (.lst [])=M1 at t3 lp g1 ⊢;obtain⟨ad,md,h1,h2,h3,h4,n1,n2⟩:=g1.cell;refine pD h1 ⟨(G.j "at" rfl),by show 8<1000;decide,_,.refl,?_⟩;obtain⟨g5,s5⟩:=g1.put c.nS rfl lp h4 np n2;exact q _ ((qW.sub t3).trans s5) g5.bd
 | waits x=>obtain⟨ad,md,h1,h2,h3,h4,n1,n2⟩:=h.cell;refine pD h1 ⟨(G.j "state" rfl),by show 8<1000;decide,?_⟩;obtain⟨g1,s1⟩:=h.put {c with st:="waits"} rfl h3 h4 n1 n2;show uF _ _ _ _ (pL M k.p (.ins a.e (rD {c with st:="waits"} k.wy ad md)));generalize pL M k.p (.ins a.e (rD {c with st:="waits"} k.wy ad md))=M1 at g1 s1 ⊢;clear h1 h2 h3 h4 n1 n2;refine⟨pA rfl,λp hp=>?_⟩;have t3:=qz.new (c:=.lst [D.str x]) hp;have lp:=@pK M1 p [D.str x];have np:=g1.bd.nG hp;have YZ:=g1.sub t3;generalize pL M1 p (.lst [D.str x])=M1' at t3 lp YZ ⊢;obtain⟨ad,md,h1,h2,h3,h4,n1,n2⟩:=YZ.cell;refine pD h1 ⟨(G.j "at" rfl),by show 8<1000;decide,_,.refl,?_⟩;obtain⟨g5,s5⟩:=YZ.put (c.wait x) rfl lp h4 np n2;refine q _ (s1.trans ((qW.sub t3).trans s5)) ?_;have:=g5.bd;rw[sv]at this;exact this
 | held x=>obtain⟨ad,md,h1,h2,h3,h4,n1,n2⟩:=h.cell;refine pD h1 ⟨(G.j "state" rfl),by show 8<1000;decide,?_⟩;obtain⟨g1,s1⟩:=h.put {c with st:="held"} rfl h3 h4 n1 n2;show uF _ _ _ _ (pL M k.p (.ins a.e (rD {c with st:="held"} k.wy ad md)));generalize pL M k.p (.ins a.e (rD {c with st:="held"} k.wy ad md))=M1 at g1 s1 ⊢;clear h1 h2 h3 h4 n1 n2;obtain⟨ad,md,h1,h2,h3,h4,n1,n2⟩:=g1.cell;refine pD h1 ⟨(G.j "holder" rfl),by show 8<1000;decide,_,.refl,?_⟩;obtain⟨g5,s5⟩:=g1.put (c.hold x) rfl h3 h4 n1 n2;refine q _ (s1.trans s5) ?_;have:=g5.bd;rw[sv]at this;exact this
 | rings ps=>obtain⟨ad,md,h1,h2,h3,h4,n1,n2⟩:=h.cell;refine pD h1 ⟨(G.j "state" rfl),by show 8<1000;decide,?_⟩;obtain⟨g1,s1⟩:=h.put {c with st:="rings"} rfl h3 h4 n1 n2;show uF _ _ _ _ (pL M k.p (.ins a.e (rD {c with st:="rings"} k.wy ad md)));generalize pL M k.p (.ins a.e (rD {c with st:="rings"} k.wy ad md))=M1 at g1 s1 ⊢;clear h1 h2 h3 h4 n1 n2;refine λp hp=>?_;have t3:=qz.new (c:=.lst (ps.map D.str)) hp;have lp:=@pK M1 p (ps.map D.str);have np:=g1.bd.nG hp;have YZ:=g1.sub t3;have s1':=s1.trans (.sub t3);generalize pL M1 p (.lst (ps.map D.str))=M1' at t3 lp YZ s1' ⊢;obtain⟨ad,md,h1,h2,h3,h4,n1,n2⟩:=YZ.cell;refine pD h1 ⟨(G.j "at" rfl),by show 8<1000;decide,?_⟩;obtain⟨g3,s3⟩:=YZ.put {c with st:="rings",at_:=ps} rfl lp h4 np n2;rw[show vZ "at" (.ref p) (rD {c with st:="rings"} k.wy ad md)=rD {c with st:="rings",at_:=ps} k.wy p md from rfl];generalize pL M1' k.p (.ins a.e (rD {c with st:="rings",at_:=ps} k.wy p md))=M3 at g3 s3 ⊢;clear h1 h2 h3 h4 n1 n2 lp t3 np;obtain⟨ad,md,h1,h2,h3,h4,n1,n2⟩:=g3.cell;refine pD h1 ⟨(G.j "since" rfl),by show 8<1000;decide,_,.refl,?_⟩;obtain⟨g5,s5⟩:=g3.put (c.ring ps) rfl h3 h4 n1 n2;refine q _ (s1'.trans (s3.trans s5)) ?_;have:=g5.bd;rw[sv,sv]at this;exact this
 | talks ms=>obtain⟨ad,md,h1,h2,h3,h4,n1,n2⟩:=h.cell;refine pD h1 ⟨(G.j "state" rfl),by show 8<1000;decide,?_⟩;obtain⟨g1,s1⟩:=h.put {c with st:="talks"} rfl h3 h4 n1 n2;show uF _ _ _ _ (pL M k.p (.ins a.e (rD {c with st:="talks"} k.wy ad md)));generalize pL M k.p (.ins a.e (rD {c with st:="talks"} k.wy ad md))=M1 at g1 s1 ⊢;clear h1 h2 h3 h4 n1 n2;refine λp hp=>?_;have t3:=qz.new (c:=.lst (ms.map D.str)) hp;have lp:=@pK M1 p (ms.map D.str);have np:=g1.bd.nG hp;have YZ:=g1.sub t3;have s1':=s1.trans (.sub t3);generalize pL M1 p (.lst (ms.map D.str))=M1' at t3 lp YZ s1' ⊢;obtain⟨ad,md,h1,h2,h3,h4,n1,n2⟩:=YZ.cell;refine pD h1 ⟨(G.j "members" rfl),by show 8<1000;decide,?_⟩;obtain⟨g3,s3⟩:=YZ.put {c with st:="talks",ms:=ms} rfl h3 lp n1 np;show uF _ _ _ _ (pL M1' k.p (.ins a.e (rD {c with st:="talks",ms:=ms} k.wy ad p)));generalize pL M1' k.p (.ins a.e (rD {c with st:="talks",ms:=ms} k.wy ad p))=M3 at g3 s3 ⊢;clear h1 h2 h3 h4 n1 n2 lp t3 np;refine⟨pA rfl,λp2 Xd=>?_⟩;have t4:=qz.new (c:=.lst []) Xd;have lp:=@pK M3 p2 [];have np:=g3.bd.nG Xd;have ZL:=g3.sub t4;have s3':=s3.trans (.sub t4);generalize pL M3 p2 (.lst [])=M3' at t4 lp ZL s3' ⊢;obtain⟨ad,md,h1,h2,h3,h4,n1,n2⟩:=ZL.cell;refine pD h1 ⟨(G.j "at" rfl),by show 8<1000;decide,?_⟩;obtain⟨g4,s4⟩:=ZL.put {c with st:="talks",ms:=ms,at_:=[]} rfl lp h4 np n2;rw[show vZ "at" (.ref p2) (rD {c with st:="talks",ms:=ms} k.wy ad md)=rD {c with st:="talks",ms:=ms,at_:=[]} k.wy p2 md from rfl];generalize pL M3' k.p (.ins a.e (rD {c with st:="talks",ms:=ms,at_:=[]} k.wy p2 md))=M4 at g4 s4 ⊢;clear h1 h2 h3 h4 n1 n2 lp t4 np;obtain⟨ad,md,h1,h2,h3,h4,n1,n2⟩:=g4.cell;refine pD h1 ⟨(G.j "holder" rfl),by show 8<1000;decide,_,.refl,?_⟩;obtain⟨g5,s5⟩:=g4.put (c.nP ms) rfl h3 h4 n1 n2;refine q _ (s1'.trans (s3'.trans (s4.trans s5))) ?_;have:=g5.bd;rw[sv,sv,sv]at this;exact this
theorem tP{α:Type}{f:α->α}:∀{l:List α} {i:Nat} {c:α},l[i]?=some c->l.modify i f=l.set i (f c)
 | [],_,_,h=>by simp at h
 | _::_,0,_,h=>by cases h;rfl
 | x::r,i+1,c,h=>by rw[List.modify_succ_cons,lz,tP (l:=r) (by simpa using h)]
def Hq(ps:List (Str×Int))(z:Str)(n:Int):BD (tF ps) (.inr z) (.int n)=tF (Cp ps z n):=by
 have ea:((tF ps).any λkv=>decide (kv.1=(Sum.inr z:rc)))=ps.any λp=>decide (p.1=z):=by unfold tF;rw[jV];congr 1;funext p;have:((Sum.inr p.1:rc)=Sum.inr z)=(p.1=z):=propext ⟨λh=>j8 h,λh=>by rw[h]⟩;simp only[Function.comp,this]
 unfold BD Cp;rw[ea];by_cases h:(ps.any λp=>decide (p.1=z))=true
 .rw[dh h,dh h];unfold tF;rw[eA,eA];refine gy λp _=>?_;by_cases hp:p.1=z
  .simp[hp]
  .have:¬(Sum.inr p.1:rc)=Sum.inr z:=λy=>hp (j8 y);simp[hp]
 .rw[df h,df h];unfold tF;rw[dQ];rfl
def Gk{α:Type}{l:List α}{i:Nat}{x:α}(h:l[i]?=some x):l.set i x=l:=by obtain⟨hi,e⟩:=c9.mp h;rw[<-e,List.set_getElem_self]
structure WA(V:qC):Prop where
 lo:V.log.length<10000000
 le:V.m8.length<10000000
 ca:V.calls.length<=1000000
 ps:V.ps.length<10000000
 cs:∀c∈V.calls,c.way.length<10000000/\c.at_.length<=100/\c.ms.length<=100
def AM(a:Ad):rC:=λds M Q=>Ha λA V k c v=>ds=[.ref A.b,rA.d v]/\CI a M A V v.i k c/\V.m8.length<10000000/\c.way.length<10000000/\∀M',qW A M A M'->pT a M' A {yE V v.i (c.go v.g)with m8:=V.m8++[v]}->Q .mW M'
def Dx(a:Ad):rC:=λds M Q=>Tb λA V i j ki ci cj ms=>ds=[.ref A.b,.int (i:Nat),.int (j:Nat),names ms]/\CI a M A V i ki ci/\V.calls[j]?=some cj/\i≠j/\V.m8.length<10000000/\∀M' A',A'.b=A.b->qW A M A' M'->pT a M' A' {yE (yE V i (ci.over "merged")) j (cj.mem ms)with m8:=V.m8.map (rA.to i j)}->Q .mW M'
def zG(a:Ad):rC:=λds M Q=>AC λA V=>ds=[.ref A.b]/\pT a M A V/\∀M',qW A M A M'->pT a M' A {V with t:=V.t+1,calls:=V.calls.map pI.tick}->Q .mW M'
def vY(a:Ad):rC:=λds M Q=>BU λb A V e=>ds=[.ref b,Ev.d e]/\A.b=b/\pT a M A V/\WA V/\e.ok V/\∀M' A',A'.b=A.b->qW A M A' M'->pT a M' A' (qo V e)->Q .mW M'
noncomputable def Rg(m k:Nat):D->D
 | .tup (.int i::r)=>if i=(m:Int)then .tup (.int (k:Nat)::r)else .tup (.int i::r)
 | d=>d
def Q1(m k:Nat)(v:rA):Rg m k v.d=(v.to m k).d:=by
 show(if ((v.i:Nat):Int)=(m:Int)then _ else _)=_;unfold rA.to;by_cases h:v.i=m
 .rw[dh h,dh (by rw[h])];rfl
 .rw[df h,df (by omega)];rfl
def Hw:Fq P w K mg base 1 a.bA (AM a):=by
 refine fq G.bA.toDG Aj (λr u=>⟨_,(pC (pU (ra (pH v0) (qr U1)))
 (pE (pU (ra (pH (pQ (pH v0) (pQ U1 pF))) (qr (pQ U1 pF)))))),?_⟩)
 rintro ds M Q ⟨A,V,k,c,v,rfl,ci,l1,l2,q⟩
 have hz:=dN;have bd:=ci.bd;refine pD bd.at_ (i' rfl ⟨by show(pf M A.le).isSome=true;rw[bd.le];rfl,i' bd.le ⟨by rw[cX];omega,?_⟩⟩);obtain⟨b1,s1⟩:=bd.oC (es:=V.m8++[v]);rw[dQ]at b1 s1;have b1:pT a (pL M A.le (.lst (V.m8.map rA.d++[v.d]))) A {V with m8:=V.m8++[v]}:=b1;have s1:qW A M A (pL M A.le (.lst (V.m8.map rA.d++[v.d]))):=s1;generalize pL M A.le (.lst (V.m8.map rA.d++[v.d]))=M1 at b1 s1 ⊢;obtain⟨ad,md,h1,h2,h3,h4,n1,n2⟩:=b1.cs v.i k c ci.e1 ci.e2;refine pD b1.at_ (i' rfl (i' b1.ca (i' (rE ci.e1) (pD h1 (i' rfl ⟨by show(pf M1 k.wy).isSome=true;rw[h2];rfl,i' h2 ⟨by rw[cX];omega,?_⟩⟩)))));obtain⟨b2,s2⟩:=b1.oH (ws:=c.way++[v.g]) ci.e1 ci.e2;rw[dQ]at b2 s2;exact⟨_,.refl,q _ (s1.trans s2) b2⟩
def NG:Fq P w K mg base 2 a.bB (Dx a):=by
 refine fq G.bB.toDG xT (λr u=>⟨_,(pC (pU (pO (Jn G) r G.Z (so (pQ (pH v0) U1) pG)))
 (pC (qk v0 (qK rfl (xt (ix:=[none,some 1,some 2]) (N':=["leg","merged","kept"])) (qI (pH v0)) (qJ 0) rN (L' (pM u (pQ v0 pF) U1) (qc (pS (qr U2)) (rW v0 (sD pF) sS)) v0)))
 (pC (pR 4 xT (pQ (pH v0) U2))
 (pE (qk v4 (qa ue rfl G.z tO (qr U3))))))),?_⟩)
 rintro ds M Q ⟨A,V,i,j,ki,ci,cj,ms,rfl,hi,hj,X3,l1,q⟩
 have hz:=dN;refine pD hi.bd.at_ (i' rfl (i' rfl (i' hi.bd.ca (i' (rE hi.e1) ⟨A,V,i,ki,ci,"merged",rfl,hi,λM1 s1 b1=>?_⟩))));have hj1:(yE V i (ci.over "merged")).calls[j]?=some cj:=by show(V.calls.set i _)[j]?=_;rw[eU X3];exact hj
 have le1:pf M1 A.le=some (V.m8.map rA.d):=b1.le;refine pD b1.at_ (i' rfl (i' le1 (qV (f:=Rg i j) le1 _ [] _ (by rw[cX];simp only[dM];omega) (λd hd k hk=>?_) λp hp=>?_)))
 .obtain⟨v,_,rfl⟩:=dE.mp hd;refine i' rfl ?_;have hk:k (if ((v.i:Nat):Int)=(i:Int)then .tup [.int (j:Nat),.str v.f,.str v.g,.str v.y]else .tup [.int (v.i:Nat),.str v.f,.str v.g,.str v.y]) M1:=hk;refine qM (c:=((v.i:Nat):Int)==(i:Nat)) (λz=>?_) (λz=>?_)
  .rw[dh (eq_of_beq z)]at hk;exact⟨pA rfl,eX _ _,by show 1+3<=sizeLine;omega,hk⟩
  .rw[df (λy=>z (by rw[y];exact fE _))]at hk;exact hk
 have em:[]++(V.m8.map rA.d).map (Rg i j)=(V.m8.map (rA.to i j)).map rA.d:=by rw[d6,eA,eA];exact gy λv _=>Q1 i j v
 rw[em];obtain⟨b2,s2⟩:=b1.oM (es:=V.m8.map (rA.to i j)) hp;have t:=qz.new (c:=.lst ((V.m8.map (rA.to i j)).map rA.d)) hp;refine pD (t _ _ b1.at_) ⟨(G.E "legs" rfl),by show 8<1000;decide,?_⟩;show uF _ _ _ _ (pL (pL M1 p (.lst ((V.m8.map (rA.to i j)).map rA.d))) A.b (.ins a.c (tS (.ref V.p) V.h V.t A.ca p A.nx A.on A.lo)));have b2:pT a (pL (pL M1 p (.lst ((V.m8.map (rA.to i j)).map rA.d))) A.b (.ins a.c (tS (.ref V.p) V.h V.t A.ca p A.nx A.on A.lo))) {A with le:=p} {yE V i (ci.over "merged")with m8:=V.m8.map (rA.to i j)}:=b2;have s2:qW A M1 {A with le:=p} (pL (pL M1 p (.lst ((V.m8.map (rA.to i j)).map rA.d))) A.b (.ins a.c (tS (.ref V.p) V.h V.t A.ca p A.nx A.on A.lo))):=s2;generalize pL (pL M1 p (.lst ((V.m8.map (rA.to i j)).map rA.d))) A.b (.ins a.c (tS (.ref V.p) V.h V.t A.ca p A.nx A.on A.lo))=M2 at b2 s2 ⊢;have hjk:j<A.cs.length:=by rw[hi.bd.len];exact(c9.mp hj).1
 have ej:A.cs[j]?=some A.cs[j]:=cZ hjk;generalize A.cs[j]=kj at ej;have cj2:CI a M2 {A with le:=p} _ j kj cj:=⟨b2,ej,hj1⟩;refine pD b2.at_ (i' rfl (i' rfl (i' b2.ca (i' (rE ej) ?_))));refine λr hr0=>?_;have t3:=qz.new (c:=.lst (ms.map D.str)) hr0;have lr:=@pK M2 r (ms.map D.str);have nr:=b2.nG hr0;have cj3:=cj2.sub t3;generalize pL M2 r (.lst (ms.map D.str))=M3 at t3 lr cj3 ⊢;obtain⟨ad,md,h1,h2,h3,h4,n1,n2⟩:=cj3.cell;refine pD h1 ⟨(G.j "members" rfl),by show 8<1000;decide,_,.refl,?_⟩;obtain⟨g5,s5⟩:=cj3.put (cj.mem ms) rfl h3 lr n1 nr;exact q _ {A with le:=p} rfl (s1.trans (s2.trans ((qW.sub t3).trans s5))) g5.bd
def Ew:Fq P w K mg base 1 a.bC (zG a):=by
 refine fq G.bC.toDG vk (λr u=>⟨_,(pC (DN v0 pF)
 (pE (uN fm rfl (qI (pH v0)) (rL 1 vk)
 (pE (pV (pM u (pH U1) pG)
 (pE (DN U1 pF))
 pP))))),?_⟩)
 rintro ds M Q ⟨A,V,rfl,bd,q⟩
 refine pD bd.at_ ⟨(G.E "turn" rfl),i' rfl (i' rfl (pD bd.at_ ⟨rfl,by show 8<1000;decide,?_⟩))⟩;obtain⟨b1,s1⟩:=bd.putT (t:=V.t+1);rw[show vZ "turn" (.int (V.t+1)) (tS (.ref V.p) V.h V.t A.ca A.le A.nx A.on A.lo)=tS (.ref V.p) V.h (V.t+1) A.ca A.le A.nx A.on A.lo from rfl];generalize pL M A.b (.ins a.c (tS (.ref V.p) V.h (V.t+1) A.ca A.le A.nx A.on A.lo))=M1 at b1 s1 ⊢;refine pD b1.at_ (i' rfl (i' b1.ca ?_));refine vT (A.cs.map λk=>D.ref k.p) (λpre δ M'=>pT a M' A {V with t:=V.t+1,calls:=(V.calls.take pre.length).map pI.tick++V.calls.drop pre.length}/\qW A M A M'/\∃y,δ=[some (.ref A.b),y]) (λ_ _ M' j=>j.1.ca) _ [] _ _ rfl ⟨b1,s1,none,rfl⟩ ?_ ?_
 .rintro pre d post e δ M' ⟨b2,s2,y,rfl⟩ nx Xg
  have hd:(A.cs.map λk=>D.ref k.p)[pre.length]?=some d:=by rw[<-e];simp
  rw[dF]at hd;cases ek:A.cs[pre.length]? with
  | none=>rw[ek]at hd;cases hd
  | some k=>
   rw[ek]at hd;have hd:D.ref k.p=d:=dw hd;subst hd;have hi:pre.length<V.calls.length:=by rw[<-bd.len];exact(c9.mp ek).1
   have ec:V.calls[pre.length]?=some V.calls[pre.length]:=cZ hi;have ed:V.calls.drop pre.length=V.calls[pre.length]::V.calls.drop (pre.length+1):=gN hi;have et:V.calls.take (pre.length+1)=V.calls.take pre.length++[V.calls[pre.length]]:=by rw[gK,ec];rfl
   generalize V.calls[pre.length]=c at ec ed et;have hl:((V.calls.take pre.length).map pI.tick).length=pre.length:=by rw[cX,fC];omega
   have ec2:((V.calls.take pre.length).map pI.tick++V.calls.drop pre.length)[pre.length]?=some c:=by rw[eZ (by rw[hl];exact dz _),hl,ia,ed];rfl
   rw[de,dS,et]at Xg;have en:((V.calls.take pre.length).map pI.tick++V.calls.drop pre.length).set pre.length c.tick=(V.calls.take pre.length++[c]).map pI.tick++V.calls.drop (pre.length+1):=by rw[ky _ _ (by rw[hl];exact dz _),hl,ia,ed,dQ,fz];rfl
   have ci:CI a M' A _ pre.length k c:=⟨b2,ek,ec2⟩;obtain⟨ad,md,h1,h2,h3,h4,n1,n2⟩:=ci.cell;refine pD h1 (i' rfl ?_);have ht:c.tick=if (c.st=="rings")=true then{c with si:=c.si+1}else c:=rfl;refine qM (c:=c.st=="rings") (λg=>?_) (λg=>?_)
   .rw[dh g]at ht;refine pD h1 ⟨(G.j "since" rfl),i' rfl (i' rfl (pD h1 ⟨rfl,by show 8<1000;decide,?_⟩))⟩;obtain⟨g5,s5⟩:=ci.put c.tick (by rw[ht]) (by rw[ht];exact h3) (by rw[ht];exact h4) n1 n2;have b5:=g5.bd;unfold yE at b5;rw[en]at b5;rw[ht]at b5 s5;exact Xg _ _ ⟨b5,s2.trans s5,_,rfl⟩
   .rw[df g]at ht;rw[ht,Gk ec2]at en;rw[en]at b2;exact Xg _ _ ⟨b2,s2,_,rfl⟩
 .rintro δ M' ⟨b2,s2,y,rfl⟩
  rw[cX,bd.len,fu,jS,fh]at b2;exact⟨M',.refl,q M' s2 b2⟩
def rg:Fq P w K mg base 3 a.k (vY a):=by
 refine fq G.k.toDG xG (λr u=>⟨_,(pC (pU (ra (pH v0) (qr U1)))
 (pC (pR 2 xG (pQ U1 pF))
 (pE (pV (pM u U2 pG)
 (pE (pU (ra (pH v0) (qr (vq (Qu G) r G.e G.ci G.ao.toDG (qr (pQ U1 pF)))))))
 (pE (pV (pM u U2 pG)
 (pE (pU (qe v0 G.c.toCls G.bA (Hw G) r (qr (rW U1 (sD pF) sS)))))
 (pE (pV (pM u U2 pG)
 (pE (Qh u (pH v0) (pQ U1 pF) (pQ U1 pF)))
 (pE (pV (pM u U2 pG)
 (pE (pU (qe v0 G.c.toCls G.bB (NG G) r (rB (pQ U1 pF) (pQ U1 pF) (pQ U1 pF)))))
 (pE (pV (pM u U2 pG)
 (pE (pU (yh v0 G.c.toCls G.bC (Ew G) r)))
 (pE (pV (pM u U2 (pS (so pG pG)))
 (pE (Hk (qv u U2 pG) (SJ (pH v0) (pQ U1 pF))))
 (pE (pV (pM u U2 pG)
 (pE (pU (pO (JN G) r G.aP (so (pQ (pH v0) (pQ U1 pF)) U1))))
 pP)))))))))))))))),?_⟩)
 rintro ds M Q ⟨_,A,V,e,rfl,rfl,bd,lim,ev,q⟩
 have hz:=dN;have ll:=lim.lo;have lc:=lim.ca;have lp:=lim.ps;refine pD bd.at_ (i' rfl ⟨by show(pf M A.lo).isSome=true;rw[bd.lo];rfl,i' bd.lo ⟨by rw[cX];omega,?_⟩⟩);have hb:=bd.oG (es:=V.log++[e]);rw[dQ]at hb;obtain⟨b1,s1⟩:pT a (pL M A.lo (.lst (V.log.map Ev.d++[e.d]))) A (qR V e)/\qW A M A (pL M A.lo (.lst (V.log.map Ev.d++[e.d]))):=hb;show uF _ _ _ _ (pL M A.lo (.lst (V.log.map Ev.d++[e.d])));generalize pL M A.lo (.lst (V.log.map Ev.d++[e.d]))=M1 at b1 s1 ⊢;have Za:∀i,i<V.calls.length->∃k c,A.cs[i]?=some k/\V.calls[i]?=some c/\c∈V.calls:=λi hi=>by
  have XZ:i<A.cs.length:=by rw[bd.len];exact hi
  exact⟨_,_,cZ XZ,cZ hi,ig hi⟩
 have chg:∀(i:Nat) (k:rJ) (c:pI) (c':pI) (f:pI->pI),A.cs[i]?=some k->V.calls[i]?=some c->f c=c'->qo V e=xD (qR V e) i f->∀(M2:Mp),qW A M1 A M2->pT a M2 A (yE (qR V e) i c')->∃W8,qz W8 M2/\Q .mW W8:=λi k c c' f e1 e2 e3 e4 M2 s2 b2=>⟨M2,.refl,q M2 A rfl (s1.trans s2) (by
  rw[e4];unfold xD;rw[show(qR V e).calls=V.calls from rfl,tP e2,e3];exact b2)⟩
 cases e with
 | new n x=>refine pD b1.at_ (i' rfl ⟨by show(pf M1 A.ca).isSome=true;rw[b1.ca];rfl,λp hp=>⟨p,x,rfl,pX,λM2 wy ad md kp z1 z2 z3 n1 n2 h1 h2 h3 h4=>⟨rfl,?_⟩⟩⟩);have sp:=qz.new (c:=.ins a.e []) hp;have s2:qz M1 M2:=λy d hy=>kp y d (Qi hy hp) (sp y d hy);refine i' (s2.lst b1.ca) ⟨by rw[cX,b1.len];show V.calls.length<sizeLine;omega,?_⟩;obtain⟨b3,s3⟩:=b1.oA s2 (c:=zc x) hp (sp.none z1) (sp.none z2) (sp.none z3) h1 h2 h3 h4 n1 n2;exact⟨_,.refl,q _ (A.add ⟨p,wy⟩) rfl (s1.trans s3) b3⟩
 | leg v=>obtain⟨k,c,ek,ec,hc⟩:=Za v.i ev;refine pD b1.at_ ⟨rfl,_,⟨rfl,rfl⟩,A,qR V (.leg v),k,c,v,rfl,⟨b1,ek,ec⟩,lim.le,(lim.cs c hc).1,λM2 s2 b2=>⟨M2,.refl,q M2 A rfl (s1.trans s2) ?_⟩⟩;show pT a M2 A {qR V (.leg v)with m8:=V.m8++[v],calls:=V.calls.modify v.i (·.go v.g)};rw[tP ec];exact b2
 | next z n=>refine pD b1.at_ (i' rfl (i' b1.nx ⟨by show(tF V.ps).length<sizeLine;unfold tF;rw[cX];omega,?_⟩));rw[Hq];obtain⟨b2,s2⟩:=b1.oW (ps:=Cp V.ps z n);exact⟨_,.refl,q _ A rfl (s1.trans s2) b2⟩
 | merge i j ms=>obtain⟨hi,hj,hij,_⟩:=ev;obtain⟨ki,ci,eki,eci,hci⟩:=Za i hi;obtain⟨kj,cj,ekj,ecj,hcj⟩:=Za j hj;refine pD b1.at_ ⟨rfl,_,⟨rfl,rfl⟩,A,qR V (.merge i j ms),i,j,ki,ci,cj,ms,rfl,⟨b1,eki,eci⟩,ecj,hij,lim.le,λM2 A2 eb s2 b2=>⟨M2,.refl,q M2 A2 eb (s1.trans s2) ?_⟩⟩;show pT a M2 A2 {qR V (.merge i j ms)with calls:=(V.calls.modify i (·.over "merged")).modify j (·.mem ms),m8:=V.m8.map (rA.to i j)};rw[tP eci,tP (show(V.calls.set i _)[j]?=some cj by rw[eU hij];exact ecj)];exact b2
 | asks i z ns=>exact⟨pA rfl,rfl,rfl,M1,.refl,q M1 A rfl s1 b1⟩
 | turn=>exact pD b1.at_ ⟨rfl,_,⟨rfl,rfl⟩,A,qR V .turn,rfl,b1,λM2 s2 b2=>⟨M2,.refl,q M2 A rfl (s1.trans s2) b2⟩⟩
 | sw b i=>
  have hi:i<V.on.length:=ev;obtain⟨b2,s2⟩:=b1.oV (bs:=V.on.set i b);have es:(V.on.map D.bl).set i (.bl b)=(V.on.set i b).map D.bl:=(mI).symm;have ix:GP (V.on.map D.bl).length (i:Nat)=some i:=by rw[cX];unfold GP;simp[hi]
  have W7:∃W8,qz W8 (pL M1 A.on (.lst ((V.on.map D.bl).set i (.bl b))))/\Q .mW W8:=by rw[es];exact⟨_,.refl,q _ A rfl (s1.trans s2) b2⟩
  cases b with
  | true=>exact⟨pA rfl,rfl,rfl,pD b1.at_ (i' rfl (i' b1.on (i' ix W7)))⟩
  | false=>exact⟨pA rfl,rfl,rfl,pD b1.at_ (i' rfl (i' b1.on (i' ix W7)))⟩
 | rings i ps=>obtain⟨k,c,ek,ec,hc⟩:=Za i ev.1;exact⟨pA rfl,rfl,rfl,pD b1.at_ (i' rfl (i' b1.ca (i' (rE ek) ⟨A,qR V _,i,k,c,_,_,rfl,⟨b1,ek,ec⟩,(lim.cs c hc).2.1,(lim.cs c hc).2.2,.rings ps,chg i k c _ _ ek ec rfl rfl⟩)))⟩
 | quiet i=>obtain⟨k,c,ek,ec,hc⟩:=Za i ev;exact⟨pA rfl,rfl,rfl,pD b1.at_ (i' rfl (i' b1.ca (i' (rE ek) ⟨A,qR V _,i,k,c,_,_,rfl,⟨b1,ek,ec⟩,(lim.cs c hc).2.1,(lim.cs c hc).2.2,.quiet,chg i k c _ _ ek ec rfl rfl⟩)))⟩
 | waits i x=>obtain⟨k,c,ek,ec,hc⟩:=Za i ev;exact⟨pA rfl,rfl,rfl,pD b1.at_ (i' rfl (i' b1.ca (i' (rE ek) ⟨A,qR V _,i,k,c,_,_,rfl,⟨b1,ek,ec⟩,(lim.cs c hc).2.1,(lim.cs c hc).2.2,.waits x,chg i k c _ _ ek ec rfl rfl⟩)))⟩
 | talks i ms=>obtain⟨k,c,ek,ec,hc⟩:=Za i ev.1;exact⟨pA rfl,rfl,rfl,pD b1.at_ (i' rfl (i' b1.ca (i' (rE ek) ⟨A,qR V _,i,k,c,_,_,rfl,⟨b1,ek,ec⟩,(lim.cs c hc).2.1,(lim.cs c hc).2.2,.talks ms,chg i k c _ _ ek ec rfl rfl⟩)))⟩
 | held i x=>obtain⟨k,c,ek,ec,hc⟩:=Za i ev;exact⟨pA rfl,rfl,rfl,pD b1.at_ (i' rfl (i' b1.ca (i' (rE ek) ⟨A,qR V _,i,k,c,_,_,rfl,⟨b1,ek,ec⟩,(lim.cs c hc).2.1,(lim.cs c hc).2.2,.held x,chg i k c _ _ ek ec rfl rfl⟩)))⟩
 | leaves i x=>obtain⟨k,c,ek,ec,hc⟩:=Za i ev;exact⟨pA rfl,rfl,rfl,pD b1.at_ (i' rfl (i' b1.ca (i' (rE ek) ⟨A,qR V _,i,k,c,_,_,rfl,⟨b1,ek,ec⟩,(lim.cs c hc).2.1,(lim.cs c hc).2.2,.leaves x,chg i k c _ _ ek ec rfl rfl⟩)))⟩
 | over i w0=>obtain⟨k,c,ek,ec,hc⟩:=Za i ev;exact⟨pA rfl,rfl,rfl,pD b1.at_ (i' rfl (i' b1.ca (i' (rE ek) ⟨A,qR V _,i,k,c,_,_,rfl,⟨b1,ek,ec⟩,(lim.cs c hc).2.1,(lim.cs c hc).2.2,.over w0,chg i k c _ _ ek ec rfl rfl⟩)))⟩
noncomputable def MQ:QQQ:=["barred","ring","engaged","left","refused","done","merged"]
def QI(o:Bool)(c:pI):Prop:=(c.st="rings"/\c.ms=[]/\c.hd=none/\c.wd=none/\(o=true->c.at_=[])/\(o=false->c.at_≠[]))\/(o=false/\((c.st="waits"/\c.ms=[]/\c.hd=none/\c.wd=none/\c.at_.length=1)\/(c.st="talks"/\(c.ms.length=2\/c.ms.length=3)/\c.hd=none/\c.wd=none/\c.at_=[])\/
 (∃x,c.st="held"/\c.ms.length=2/\c.hd=some x/\x∈c.ms/\c.wd=none/\c.at_=[])\/(c.st="over"/\c.ms=[]/\c.hd=none/\c.at_=[]/\∃w∈MQ,c.wd=some w)))
structure vU(l:pN)(o:Bool)(c:pI):Prop where
 sh:QI o c
 cr:c.cr∈l.pn
 at_:∀x∈c.at_,x∈l.pn
 ms:∀x∈c.ms,x∈l.pn
 an:c.at_.Nodup
 mn:c.ms.Nodup
 ca:c.cr∉c.at_
 wy:c.way≠[]/\∀z∈c.way,z∈l.nm
def Bt(c:pI)(x:Str):Prop:=c.nA x=true\/c.ng x=true
structure zR(l:pN)(V:qC)(o:Option Nat):Prop where
 ok:∀(i:Nat) c,V.calls[i]?=some c->vU l (o==some i) c
 un:∀(i j:Nat) ci cj x,V.calls[i]?=some ci->V.calls[j]?=some cj->Bt ci x->Bt cj x->i=j
 ln:∀x∈l.pn,(vc V x:Int)<=xf l x
 wt:∀(i j:Nat) ci cj x,V.calls[i]?=some ci->V.calls[j]?=some cj->ci.mX x=true->cj.mX x=true->i=j
 nx:ur l V
abbrev WF(l:pN)(V:qC):Prop:=zR l V none
structure Sz(V:qC)(c n:Nat):Prop where
 lo:V.log.length<=n
 le:V.m8.length<=n
 ca:V.calls.length<=c
 ps:V.ps.length<=n
 cs:∀k∈V.calls,k.way.length<=n/\k.at_.length<=100/\k.ms.length<=100
def Sz.mono{V:qC}{c n c' n':Nat}(h:Sz V c n)(hc:c<=c')(hn:n<=n'):Sz V c' n':=⟨d9 h.lo hn,d9 h.le hn,d9 h.ca hc,d9 h.ps hn,λk hk=>⟨d9 (h.cs k hk).1 hn,(h.cs k hk).2⟩⟩
noncomputable def Ev.nw:Ev->Nat
 | .new _ _=>1
 | _=>0
def Nd(ps:List (Str×Int))(z:Str)(n:Int):(Cp ps z n).length<=ps.length+1:=by
 unfold Cp;split
 .rw[cX];omega
 .rw[de];exact dz _
def Jx(ss:QQQ)(x:Str):(rR ss x).length<=ss.length:=gH _ _
def EQ{α:Type}{f:α->α}{l:List α}{i:Nat}{x:α}(h:x∈l.modify i f):x∈l\/∃y∈l,x=f y:=by
 cases e:l[i]? with
 | none=>rw[kT (by simpa using e)]at h;exact .inl h
 | some c=>
  rw[tP e]at h;rcases List.mem_or_eq_of_mem_set h with g|g
  .exact .inl g
  .exact .inr ⟨c,fA e,g⟩
def Sz.step{V:qC}{c n:Nat}{e:Ev}(h:Sz V c n)(ok:e.ok V):Sz (qo V e) (c+e.nw) (n+1):=by
 have h1:Sz (qR V e) c (n+1):=⟨by show(V.log++[e]).length<=n+1;rw[de];exact ii h.lo,jC h.le,h.ca,jC h.ps,λk hk=>⟨jC (h.cs k hk).1,(h.cs k hk).2⟩⟩;have md:∀(i:Nat) (f:pI->pI),(∀k∈V.calls,(f k).way=k.way/\(f k).at_.length<=100/\(f k).ms.length<=100)->Sz (xD (qR V e) i f) c (n+1):=λi f hf=>⟨h1.lo,h1.le,by show(V.calls.modify i f).length<=c;rw[gj];exact h.ca,h1.ps,λk hk=>by
  rcases EQ hk with g|⟨y,hy,rfl⟩
  .exact h1.cs k g
  .obtain⟨a1,a2,a3⟩:=hf y hy;exact⟨by rw[a1];exact(h1.cs y hy).1,a2,a3⟩⟩
 cases e with
 | new m x=>
  refine⟨h1.lo,h1.le,by show(V.calls++[zc x]).length<=c+1;rw[de];exact ii h.ca,h1.ps,λk hk=>?_⟩;rcases eh.mp hk with g|g
  .exact h1.cs k g
  .rw[dD.mp g];exact⟨eP _,eP _,eP _⟩
 | leg v=>
  refine⟨h1.lo,by show(V.m8++[v]).length<=n+1;rw[de];exact ii h.le,by show(V.calls.modify v.i _).length<=c;rw[gj];exact h.ca,h1.ps,λk hk=>?_⟩;rcases EQ (l:=V.calls) hk with g|⟨y,hy,rfl⟩
  .exact h1.cs k g
  .exact⟨by show(y.way++[v.g]).length<=n+1;rw[de];exact ii (h.cs y hy).1,(h.cs y hy).2⟩
 | asks i z ns=>exact h1
 | next z m=>exact⟨h1.lo,h1.le,h1.ca,d9 (Nd _ _ _) (ii h.ps),h1.cs⟩
 | merge i j ms=>
  have m1:=md i (·.over "merged") λk hk=>⟨rfl,eP _,eP _⟩;refine⟨h1.lo,by show(V.m8.map _).length<=n+1;rw[cX];exact h1.le,by show((V.calls.modify i _).modify j _).length<=c;rw[gj,gj];exact h.ca,h1.ps,λk hk=>?_⟩;rcases EQ (l:=V.calls.modify i (·.over "merged")) hk with g|⟨y,hy,rfl⟩
  .exact m1.cs k g
  .exact⟨(m1.cs y hy).1,(m1.cs y hy).2.1,ok.2.2.2⟩
 | turn=>
  refine⟨h1.lo,h1.le,by show(V.calls.map pI.tick).length<=c;rw[cX];exact h.ca,h1.ps,λk hk=>?_⟩;obtain⟨y,hy,rfl⟩:=dE.mp hk;have e:y.tick.way=y.way/\y.tick.at_=y.at_/\y.tick.ms=y.ms:=by unfold pI.tick;split<;>exact⟨rfl,rfl,rfl⟩
  rw[e.1,e.2.1,e.2.2];exact h1.cs y hy
 | sw b i=>exact⟨h1.lo,h1.le,h1.ca,h1.ps,h1.cs⟩
 | rings i ps=>exact md i _ λk hk=>⟨rfl,ok.2,(h.cs k hk).2.2⟩
 | quiet i=>exact md i _ λk hk=>⟨rfl,eP _,(h.cs k hk).2.2⟩
 | waits i x=>exact md i _ λk hk=>⟨rfl,by show 1<=100;decide,(h.cs k hk).2.2⟩
 | talks i ms=>exact md i _ λk hk=>⟨rfl,eP _,ok.2⟩
 | held i x=>exact md i _ λk hk=>⟨rfl,(h.cs k hk).2.1,(h.cs k hk).2.2⟩
 | leaves i x=>exact md i _ λk hk=>⟨rfl,d9 (Jx _ _) (h.cs k hk).2.1,d9 (Jx _ _) (h.cs k hk).2.2⟩
 | over i w=>exact md i _ λk hk=>⟨rfl,eP _,eP _⟩
def SN(V:qC)(e:Ev):(qo V e).p=V.p/\(qo V e).h=V.h/\(qo V e).on.length=V.on.length:=by cases e<;>first|exact⟨rfl,rfl,rfl⟩|exact⟨rfl,rfl,il⟩
structure uE(a:Ad)(M0 M:Mp)(b:Addr)(A:tX)(V:qC)(l:pN)(c n:Nat):Prop where
 bd:pT a M A V
 pl0:tz a M0 V.p l
 s0:qz M0 M
 fr:∀x∈A.foot,M0 x=none
 b:A.b=b
 sz:Sz V c n
 ok:r6 l
 on:V.on.length=l.mS.length
variable {M0:Mp}{b:Addr}{A':tX}{V':qC}{l:pN}{n:Nat}
section
variable {c:Nat}
def uE.at_(h:uE a M0 M b A V l c n):M b=some (.ins a.c (tS (.ref V.p) V.h V.t A.ca A.le A.nx A.on A.lo)):=h.b ▸ h.bd.at_
def uE.sub(h:uE a M0 M b A V l c n)(s:qz M M'):uE a M0 M' b A V l c n:=⟨h.bd.sub s,h.pl0,h.s0.trans s,h.fr,h.b,h.sz,h.ok,h.on⟩
def uE.pl(h:uE a M0 M b A V l c n):tz a M V.p l:=h.pl0.sub h.s0
def uE.mono(h:uE a M0 M b A V l c n){c' n':Nat}(hc:c<=c')(hn:n<=n'):uE a M0 M b A V l c' n':=⟨h.bd,h.pl0,h.s0,h.fr,h.b,h.sz.mono hc hn,h.ok,h.on⟩
def uE.lim(h:uE a M0 M b A V l c n)(hc:c<=1000000)(hn:n<9000000):WA V:=⟨iD h.sz.lo (by omega),iD h.sz.le (by omega),d9 h.sz.ca hc,iD h.sz.ps (by omega),λk hk=>⟨iD (h.sz.cs k hk).1 (by omega),(h.sz.cs k hk).2⟩⟩
def uE.rd(h:uE a M0 M b A V l c n)(hc:c<=1000000){o:Option Nat}(wf:zR l V o):Rd a M A V l:=⟨h.bd,d9 h.sz.ca hc,h.pl,h.ok,h.on,λk hk=>by
 obtain⟨i,hi,e⟩:=gS hk;exact⟨(wf.ok i k (by rw[cZ hi,e])).ms,(h.sz.cs k hk).2.2⟩⟩
def uE.call(h:uE a M0 M b A V l c n){i:Nat}{v:pI}(e:V.calls[i]?=some v):∃k,CI a M A V i k v:=by
 have hi:i<A.cs.length:=by rw[h.bd.len];exact(c9.mp e).1
 exact⟨A.cs[i],h.bd,cZ hi,e⟩
def uE.after(h:uE a M0 M b A V l c n){e:Ev}(ok:e.ok V)(eb:A'.b=A.b)(st:qW A M A' M')(bd:pT a M' A' (qo V e)):uE a M0 M' b A' (qo V e) l (c+e.nw) (n+1):=by
 obtain⟨p1,p2,p3⟩:=SN V e;refine⟨bd,p1 ▸ h.pl0,λx d hx=>st.1 x d (λz=>?_) (h.s0 x d hx),λx hx=>?_,eb.trans h.b,h.sz.step ok,h.ok,p3.trans h.on⟩
 .rw[h.fr x z]at hx;cases hx
 .rcases st.2.1 x hx with z|z
  .exact h.fr x z
  .exact h.s0.none z
end
def Ga(l:pN)(V:qC)(c:Str):vR->Prop
 | .rings z ps=>z∈l.nm/\ps≠[]/\ps=xK l V c z
 | .breaks z=>∃x,x=c/\HK l V x c z=true
 | .waits z=>z∈l.pn/\z≠c/\Ax V z=false
 | .ring ns=>ns≠[]
 | _=>True
def GY{l:pN}{V:qC}{c z:Str}:(∀x∈xK l V c z,x∈uB l V c z/\x∈l.mQ z)/\(xK l V c z).length<=(l.mQ z).length:=by
 have hr:∀x∈uB l V c z,x∈l.mQ z:=λx hx=>(fL.mp hx).1;unfold xK;split
 .refine⟨λx hx=>?_,?_⟩
  .have hx:=(fL.mp (jb hx)).2;have hx:=qU.mp hx;exact⟨hx,hr x hx⟩
  .cases e:(uW (l.mQ z) (zE V z)).filter λx=>hasS (uB l V c z) x with
   | nil=>exact eP _
   | cons y r=>
    have hy:y∈uW (l.mQ z) (zE V z):=(fL.mp (by rw[e];exact dU)).1;have hy:y∈l.mQ z:=by
     unfold uW at hy;rcases eh.mp hy with q|q
     .exact jc q
     .exact jb q
    rw[fC];have:=List.length_pos_of_mem hy;omega
 .exact⟨λx hx=>⟨hx,hr x hx⟩,gH _ _⟩
def OS{l:pN}{V:qC}{c z:Str}(hz:z∈l.nm):Ga l V c (HU l V c z):=by
 unfold HU;split
 .trivial
 .rename_i x r e;exact⟨hz,eX _ _,e.symm⟩
structure ya(l:pN)(V:qC)(c:Str)(n:Nat)(st:tJ)(r:vR×tJ):Prop where
 e:Ga l V c r.1
 len:r.2.length<=st.length+n
 nm:∀s∈r.2,s∈st\/s.1∈l.nm
 wy:∀ns,r.1=.ring ns->∀z∈ns,z∈l.nm
theorem zh{l:pN}{V:qC}{c:Str}(ok:r6 l):∀(n:Nat) (z:Str) (way:QQQ) (st:tJ),z∈l.nm->(∀x∈way,x∈l.nm)->ya l V c n st (wN l V c n z way st)
 | 0,z,way,st,_,_=>⟨trivial,dz _,λs hs=>.inl hs,λns h=>by cases h⟩
 | n+1,z,way,st,hz,hw=>by
  unfold wN;by_cases h:hasS way z=true
  .rw[dh h];refine⟨?_,by show st.length<=_;omega,λs hs=>.inl hs,λns e y hy=>?_⟩
   .have h1:way.findIdx (·==z)<way.length:=List.findIdx_lt_length_of_exists ⟨z,qU.mp h,fE z⟩;show way.drop _≠[];intro g;have:=eV List.length g;rw[gh]at this;simp only[dM]at this;omega
   .cases e;exact hw y (jc hy)
  rw[df h];have sn:∀(fs:List Nat),∀s∈st++[(z,fs)],s∈st\/s.1∈l.nm:=λfs s hs=>by
   rcases eh.mp hs with g|g
   .exact .inl g
   .rw[dD.mp g];exact .inr hz
  have sl:∀fs:List Nat,(st++[(z,fs)]).length=st.length+1:=λfs=>by rw[de];rfl
  cases hf:DO l V c z with
  | nil=>refine⟨OS hz,by show(st++[(z,[])]).length<=_;rw[sl];omega,sn [],λns e=>?_⟩;have e:HU l V c z=.ring ns:=e;unfold HU at e;split at e<;>cases e
  | cons i r=>
   obtain⟨w,ew,XD⟩:=Fl (l:=l) (V:=V) (f:=AV l V c z) (i:=i) (by show i∈DO l V c z;rw[hf];exact dU);dsimp only;rw[ew];dsimp only[Option.elim];have stop:∀e:vR,Ga l V c e->(∀ns,e≠.ring ns)->ya l V c (n+1) st (e,st++[(z,i::r)]):=λe he Xm=>⟨he,by show(st++[(z,i::r)]).length<=_;rw[sl];omega,sn _,λns g=>absurd g (Xm ns)⟩
   have Zr:∀y,JH z w.2=.inr y->ya l V c (n+1) st (wN l V c n y (way++[z]) (st++[(z,i::r)])):=λy hy=>by
    have hr:=zh (V:=V) (c:=c) ok n y (way++[z]) (st++[(z,i::r)]) (CF ok (rm ew) hy) λx hx=>by
     rcases eh.mp hx with g|g
     .exact hw x g
     .rw[dD.mp g];exact hz
    refine⟨hr.e,by have:=hr.len;rw[sl]at this;omega,λs hs=>?_,hr.wy⟩;rcases hr.nm s hs with g|g
    .exact sn _ s g
    .exact .inr g
   cases hv:w.2 with
   | bar x ns=>exact stop _ trivial λns g=>by cases g
   | shut x ns=>exact stop _ trivial λns g=>by cases g
   | wait x=>
    rw[hv]at XD;have hf2:(if (!(z==x)||(c==x))=true then false else xB l V c z&&!(Ax V z))=true:=XD;have hx:xx l.pn x:=by have:=ok.wo w (rm ew);rw[hv]at this;exact this
    by_cases g:(!(z==x)||(c==x))=true
    .rw[dh g]at hf2;cases hf2
    rw[df g]at hf2;simp only[gY,gL,fN,jD,dX]at g hf2;have ezx:=eq_of_beq g.1;subst ezx;exact stop _ ⟨qU.mp hx,λy=>g.2 (by rw[y];exact fE _),hf2.2⟩ λns g=>by cases g
   | breaks x=>
    rw[hv]at XD;refine stop _ ⟨x,?_,?_⟩ λns g=>by cases g
    .have XD:HK l V x c z=true:=XD;unfold HK at XD;by_cases g:(!(c==x)||(z==x))=true
     .rw[dh g]at XD;cases XD
     .simp only[gY,gL,fN,jD]at g;exact(eq_of_beq g.1).symm
    .exact XD
   | always x y=>exact Zr y (by rw[hv];rfl)
   | night x y f m=>exact Zr y (by rw[hv];rfl)
   | busy x y=>exact Zr y (by rw[hv];rfl)
   | silent x y m=>exact Zr y (by rw[hv];rfl)
def GJ{l:pN}{V:qC}{x c z:Str}(h:HK l V x c z=true):∃j k,vF V z=some j/\V.calls[j]?=some k/\k.st="talks"/\z∈k.ms/\k.ms.length=2/\z≠c:=by
 unfold HK at h;by_cases g:(!(c==x)||(z==x))=true
 .rw[dh g]at h;cases h
 rw[df g]at h;simp only[gY,gL,fN,jD]at g;by_cases g2:(!(hasS l.pn z)||!(xB l V c z))=true
 .rw[dh g2]at h;cases h
 rw[df g2]at h;cases e:vF V z with
 | none=>rw[e]at h;cases h
 | some j=>obtain⟨hj,ht,_⟩:=iL.mp e;rw[e]at h;have h:((V.calls[j]?).elim false λk=>(k.ms.length==2)&&HS l x k.ms)=true:=h;rw[cZ hj]at h;have h:((V.calls[j].ms.length==2)&&HS l x V.calls[j].ms)=true:=h;unfold pI.m9 at ht;rw[dX]at h ht;refine⟨j,V.calls[j],rfl,cZ hj,eq_of_beq ht.1,qU.mp ht.2,eq_of_beq h.1,λy=>?_⟩;rw[y]at g;have:=eq_of_beq g.1;rw[this,fE]at g;exact absurd rfl g.2
noncomputable def pI.bare(c:pI):pI:={c with way:=[]}
def tQ(V V':qC):Prop:=V'.calls.map pI.bare=V.calls.map pI.bare
def tQ.at_{V V':qC}(h:tQ V V'){i:Nat}{c:pI}(e:V.calls[i]?=some c):∃c',V'.calls[i]?=some c'/\c'.bare=c.bare:=by
 have:=eV (·[i]?) h;simp only[dF,e]at this;cases e':V'.calls[i]? with
 | none=>rw[e']at this;cases this
 | some c'=>rw[e']at this;exact⟨c',rfl,dw this⟩
def zj(f:pI->Bool)(hf:∀c,f c.bare=f c)(cs:List pI):(cs.map pI.bare).findIdx? f=cs.findIdx? f:=by rw[hW];congr 1;funext c;exact hf c
def tQ.nP{V V':qC}(h:tQ V V')(z:Str):vF V' z=vF V z:=by unfold vF;rw[<-zj _ (λ_=>rfl) V'.calls,h,zj _ (λ_=>rfl)]
def tQ.ends{l:pN}{V V':qC}(h:tQ V V')(i:Nat)(e:vR):tH l V' i e=tH l V i e:=by
 cases e with
 | breaks z=>
  unfold tH;dsimp only;rw[h.nP];have key:∀j:Nat,(V'.calls[j]?).map pI.bare=(V.calls[j]?).map pI.bare:=λj=>by
   have:=eV (·[j]?) h
   simpa only [dF]using this
  have ki:=key i;cases vF V z with
  | none=>rfl
  | some j=>
   have kj:=key j;cases e1:V.calls[i]? with
   | none=>rw[e1]at ki;rw[show V'.calls[i]?=none by cases q:V'.calls[i]? with|none=>rfl|some _=>rw[q]at ki;cases ki]
   | some c=>
    rw[e1]at ki;cases e2:V'.calls[i]? with
    | none=>rw[e2]at ki;cases ki
    | some c'=>
     rw[e2]at ki;have k1:c'.cr=c.cr:=by have kb:c'.bare=c.bare:=dw ki;exact show c'.bare.cr=c.bare.cr by rw[kb]
     have k2:(V'.calls[j]?).elim [] pI.ms=(V.calls[j]?).elim [] pI.ms:=by
      cases e3:V.calls[j]? with
      | none=>rw[e3]at kj;rw[show V'.calls[j]?=none by cases q:V'.calls[j]? with|none=>rfl|some _=>rw[q]at kj;cases kj]
      | some d=>
       rw[e3]at kj;cases e4:V'.calls[j]? with
       | none=>rw[e4]at kj;cases kj
       | some d'=>rw[e4]at kj;exact show d'.bare.ms=d.bare.ms by rw[show d'.bare=d.bare from dw kj]
     dsimp only;rw[k1,k2]
 | _=>rfl
def tQ.trans{V V1 V2:qC}(h:tQ V V1)(g:tQ V1 V2):tQ V V2:=Eq.trans g h
def zt(V:qC)(v:rA):tQ V (qo V (.leg v)):=by
 show(V.calls.modify v.i (·.go v.g)).map pI.bare=V.calls.map pI.bare;cases e:V.calls[v.i]? with
 | none=>rw[kT (by simpa using e)]
 | some c=>rw[tP e,mI,show(c.go v.g).bare=c.bare from rfl,Gk (by rw[dF,e];rfl)]
def DS(V:qC)(i:Nat)(z:Str)(ns:List Nat):tQ V (qo V (.asks i z ns)):=rfl
def tQ.len{V V':qC}(h:tQ V V'):V'.calls.length=V.calls.length:=by
 have:=eV List.length h
 rwa [cX,cX]at this
noncomputable def Gf:Option Str->tJ->Option Str
 | o,[]=>o
 | _,(z,_)::r=>Gf (some z) r
noncomputable def Tx(i:Nat)(z:Str)(fs:List Nat):Option Str->List Ev
 | none=>[.asks i z fs]
 | some y=>[.leg ⟨i,y,z,y⟩,.asks i z fs]
theorem yV(i:Nat)(z:Str)(fs:List Nat):∀(st:tJ) (o:Option Str),rS i o (st++[(z,fs)])=rS i o st++Tx i z fs (Gf o st)
 | [],none=>rfl
 | [],some _=>rfl
 | (y,gs)::r,none=>by show .asks i y gs::rS i (some y) (r++[(z,fs)])=_;rw[yV i z fs r];rfl
 | (y,gs)::r,some u=>by show .leg ⟨i,u,y,u⟩::.asks i y gs::rS i (some y) (r++[(z,fs)])=_;rw[yV i z fs r];rfl
theorem BA(z:Str)(fs:List Nat):∀(st:tJ) (o:Option Str),Gf o (st++[(z,fs)])=some z
 | [],_=>rfl
 | _::r,_=>BA z fs r _
theorem vn(i:Nat):∀(st:tJ) (o:Option Str) (V:qC),tQ V (qL V (rS i o st))
 | [],_,V=>rfl
 | (y,gs)::r,none,V=>(DS V i y gs).trans (vn i r (some y) _)
 | (y,gs)::r,some u,V=>((zt V ⟨i,u,y,u⟩).trans (DS _ i y gs)).trans (vn i r (some y) _)
def O4(a:Ad):rC:=λds M Q=>NB λM0 b A V l c n i st r=>ds=[.ref b,.int ((i:Nat):Int),.ref r]/\uE a M0 M b A V l c n/\c<=1000000/\n<=8000000/\st.length<=100/\i<V.calls.length/\pf M r=some (rF st)/\r∉A.foot/\∀M' A',uE a M0 M' b A' (qL V (rS i none st)) l c (n+2*st.length)->qW A M A' M'->Q .mW M'
def NA(a:Ad):rC:=λds M Q=>NB λM0 b A V l c n i z ps=>ds=[.ref b,.int ((i:Nat):Int),.str z,names ps]/\uE a M0 M b A V l c n/\c<=1000000/\n<=8000000/\i<V.calls.length/\z∈l.nm/\ps≠[]/\(∀x∈ps,x∈l.mQ z)/\ps.length<=100/\∀M' A',uE a M0 M' b A' (qL V (tH l V i (.rings z ps))) l c (n+2)->qW A M A' M'->Q .mW M'
def Gn(l:pN)(V:qC)(i:Nat):vR->Prop
 | .rings z ps=>z∈l.nm/\ps≠[]/\(∀x∈ps,x∈l.mQ z)/\ps.length<=100
 | .breaks z=>∃j k,vF V z=some j/\V.calls[j]?=some k/\i≠j/\k.ms.length=2
 | _=>True
def Nj(a:Ad):rC:=λds M Q=>UQ λM0 b A V l c n i z=>ds=[.ref b,.int ((i:Nat):Int),.str z]/\uE a M0 M b A V l c n/\c<=1000000/\n<=8000000/\i<V.calls.length/\Gn l V i (.breaks z)/\∀M' A',uE a M0 M' b A' (qL V (tH l V i (.breaks z))) l c (n+2)->qW A M A' M'->Q .mW M'
def JB(a:Ad):rC:=λds M Q=>UQ λM0 b A V l c n i e=>ds=[.ref b,.int ((i:Nat):Int),vR.d e]/\uE a M0 M b A V l c n/\c<=1000000/\n<=8000000/\i<V.calls.length/\Gn l V i e/\∀M' A',uE a M0 M' b A' (qL V (tH l V i e)) l c (n+2)->qW A M A' M'->Q .mW M'
def Pz(a:Ad):rC:=λds M Q=>UQ λM0 b A V l c n i k=>ds=[.ref b,.int ((i:Nat):Int)]/\uE a M0 M b A V l c n/\c<=1000000/\n<=7000000/\zR l V (some i)/\V.calls[i]?=some k/\∀M' A',uE a M0 M' b A' (qL V (xn l V i)) l c (n+30)->qW A M A' M'->Q .mW M'
def NN(a:Ad):rC:=λds M Q=>UQ λM0 b A V l c n y z=>ds=[.ref b,.str y,.str z]/\uE a M0 M b A V l c n/\c<1000000/\n<=6000000/\zR l (qL V [.new V.calls.length y,.leg ⟨V.calls.length,y,z,y⟩]) (some V.calls.length)/\∀M' A',uE a M0 M' b A' (qL V (FN l V y z)) l (c+1) (n+32)->qW A M A' M'->Q .mW M'
def Ny{st:tJ}{pre post:List D}{d:D}(e:pre++d::post=rF st):∃z fs,st[pre.length]?=some (z,fs)/\d=.tup [.str z,wm fs]/\st.take (pre.length+1)=st.take pre.length++[(z,fs)]:=by
 have h:(rF st)[pre.length]?=some d:=by rw[<-e];simp
 unfold rF at h;rw[dF]at h;cases q:st[pre.length]? with
 | none=>rw[q]at h;cases h
 | some s=>rw[q]at h;refine⟨s.1,s.2,rfl,(dw h).symm,?_⟩;rw[gK,q];rfl
noncomputable def VR:Option Str->D
 | none=>.mW
 | some x=>.str x
def Qj{ss:QQQ}{x:Str}(h:ss.getLast?=some x):wC (ss.map D.str) (-1)=some (.str x):=by
 have hp:0<ss.length:=by cases ss with|nil=>cases h|cons _ _=>exact mJ _
 unfold wC;have e:GP (ss.map D.str).length (-1)=some (ss.length - 1):=by
  rw[cX];unfold GP;have:¬((-1:Int)>=0):=by decide
  simp;omega
 rw[e];show(ss.map D.str)[ss.length - 1]?=_;rw[dF,<-jJ,h];rfl
def K5(ds:List D):L3.tZ ds none (some (-1:Int))=ds.dropLast:=by
 unfold L3.tZ;have e:HT.tj ds.length ds.length (some (-1:Int))=ds.length - 1:=by show(if (-1:Int)<0 then((-1:Int)+(ds.length:Int)).toNat else min (-1:Int).toNat ds.length)=ds.length - 1;rw[dh (by decide)];omega
 rw[e,HT.CN,jo,lq,List.dropLast_eq_take]
def PY:Fq P w K mg base 4 a.a2 (O4 a):=by
 refine fq G.a2.toDG tW (λr u=>⟨_,(pC (pR 3 tW sr)
 (pE (uN fm rfl (qI U2) (vi (n:=2) rfl (qF (rL 4 tW) (qF (rL 5 tW) ub)))
 (pC (pV (pM u U3 sr)
 (pE (pU (qe v0 G.c.toCls G.k (rg G) r (qr (pS (qg pG (qg U1 (rB U3 v4 U3))))))))
 pP)
 (pC (pU (qe v0 G.c.toCls G.k (rg G) r (qr (pS (qg pG (rB U1 v4 v5))))))
 (pE (pR 3 tW v4))))))),?_⟩)
 rintro ds M Q ⟨M0,b,A,V,l,c,n,i,st,r,rfl,cu,hc,hn,Xp,hi,lr,nf,q⟩
 refine i' lr (vT (rF st) (λpre δ M'=>(∃A',uE a M0 M' b A' (qL V (rS i none (st.take pre.length))) l c (n+2*pre.length)/\qW A M A' M')/\∃y4 y5,δ=[some (.ref b),some (.int ((i:Nat):Int)),some (.ref r),some (VR (Gf none (st.take pre.length))),y4,y5]) (λpre δ M' j=>?_) _ [] _ _ rfl ⟨⟨A,cu,.refl⟩,none,none,rfl⟩ ?_ ?_)
 .obtain⟨⟨A',c1,XH⟩,_⟩:=j;exact sF (XH.1 r _ nf (qm lr))
 .rintro pre d post e δ M' ⟨⟨A',c1,XH⟩,y4,y5,rfl⟩ nx Xg
  obtain⟨z,fs,es,rfl,et⟩:=Ny e;have hp:pre.length<100:=dP (c9.mp es).1 Xp;rw[de,dS,et,yV,BA]at Xg;have len:∀es,tQ V (qL V es)->i<(qL V es).calls.length:=λes h=>by rw[h.len];exact hi
  have YG:=len _ (vn i (st.take pre.length) none V);generalize hV:qL V (rS i none (st.take pre.length))=V1 at c1 YG;rw[rP,hV]at Xg;refine⟨rfl,?_⟩;dsimp only[tD,zS,G7];have asks:∀(M2:Mp) (A2:tX) (V2:qC) (m:Nat) (y3:Option D),m<9000000->uE a M0 M2 b A2 V2 l c m->qW A M A2 M2->(∀M3 A3,uE a M0 M3 b A3 (qo V2 (.asks i z fs)) l c (m+1)->qW A M A3 M3->nx [some (.ref b),some (.int ((i:Nat):Int)),some (.ref r),some (.str z),some (.str z),some (wm fs)] M3)->Ak (M2 b) λC fs'=>fs'.lookup ("apply":Str)=none/\∃sp,(C=a.c/\sp=vY a)/\4<=sizeLine/\sp [.ref b,.tup [.str "asks",.int ((i:Nat):Int),.str z,wm fs]] M2 λ_ M3=>nx [some (.ref b),some (.int ((i:Nat):Int)),some (.ref r),some (.str z),some (.str z),some (wm fs)] M3:=λM2 A2 V2 m y3 hm c2 s2 k=>pD c2.at_ ⟨rfl,_,⟨rfl,rfl⟩,by rw[dN];decide,b,A2,V2,.asks i z fs,rfl,c2.b,c2.bd,c2.lim hc hm,trivial,λM3 A3 eb s3 bd=>k M3 A3 (c2.after trivial eb s3 bd) (s2.trans s3)⟩;cases hl:Gf none (st.take pre.length)with
  | none=>rw[hl]at Xg;refine asks M' A' V1 _ none (by omega) c1 XH λM3 A3 c3 s3=>Xg _ _ ⟨⟨A3,c3.mono (dz _) (by omega),s3⟩,_,_,rfl⟩
  | some y=>rw[hl]at Xg;refine pD c1.at_ ⟨rfl,_,⟨rfl,rfl⟩,pA rfl,b,A',V1,.leg ⟨i,y,z,y⟩,rfl,c1.b,c1.bd,c1.lim hc (by omega),YG,λM2 A2 eb s2 bd=>?_⟩;have c2:=c1.after (e:=.leg ⟨i,y,z,y⟩) YG eb s2 bd;refine asks M2 A2 _ _ none (by omega) c2 (XH.trans s2) λM3 A3 c3 s3=>Xg _ _ ⟨⟨A3,c3.mono (dz _) (by omega),s3⟩,_,_,rfl⟩
 .rintro δ M' ⟨⟨A',c1,XH⟩,_⟩
  have hl:(rF st).length=st.length:=by unfold rF;rw[cX]
  rw[hl,fu]at c1;exact⟨M',.refl,q M' A' c1 XH⟩
def LI:Fq P w K mg base 4 a.a3 (NA a):=by
 refine fq G.a3.toDG uL (λr u=>⟨_,(pC (pV (pM u (qe (pH v0) G.h.toCls G.aH (xV G) r (qr U2)) pG)
 (pC (pR 4 uL (qe (pH v0) G.h.toCls G.V (uD G) r (qr U2)))
 (pC (pR 5 uL (qc (qc (xP v4 (qr (pQ U3 pF))) pF) (pY qH rfl G.g qG (qr v4))))
 (pE (pU (qe v0 G.c.toCls G.k (rg G) r (qr (pS (rB pG U2 v5))))))))
 pP)
 (pE (pU (qe v0 G.c.toCls G.k (rg G) r (qr (pS (rB pG U1 U3))))))),?_⟩)
 rintro ds M Q ⟨M0,b,A,V,l,c,n,i,z,ps,rfl,cu,hc,hn,hi,hz,Xm,hm,hps,q⟩
 obtain⟨ph,gr,ws,Yz,pr,gd,rs,i1,_⟩:=cu.pl;have pl:=cu.pl;obtain⟨x,ps',rfl⟩:=gg Xm;obtain⟨⟨pne,_⟩,_⟩:=cu.ok.of hz;refine Tf (t:=Rc _ _ _) (λδ M'=>(∃A',uE a M0 M' b A' (qL V (if (l.m7 z=="turns")=true then[.next z (QQ (l.mQ z) x)]else[])) l c (n+1)/\qW A M A' M')/\∃y1 y2,δ=[some (.ref b),some (.int ((i:Nat):Int)),some (.str z),some (names (x::ps')),y1,y2]) (λnx h=>?_) ?_
 .refine pD cu.at_ (i' rfl (pD i1 ⟨rfl,_,⟨rfl,rfl⟩,V.p,z,l,rfl,pl,?_⟩));refine qM (c:=l.m7 z=="turns") (λg=>?_) (λg=>?_)
  .rw[dh g]at h;refine pD cu.at_ (i' rfl (pD i1 ⟨rfl,_,⟨rfl,rfl⟩,V.p,z,l,rfl,pl,λp hp=>?_⟩));have t:=qz.new (c:=.lst ((l.mQ z).map D.str)) hp;have lp:=@pK M p ((l.mQ z).map D.str);have cu':=cu.sub t;have st0:qW A M A (pL M p (.lst ((l.mQ z).map D.str))):=.sub t;generalize pL M p (.lst ((l.mQ z).map D.str))=M1 at t lp cu' st0 ⊢;have ej:=EA x (l.mQ z) (hm x dU);have lpos:0<(l.mQ z).length:=fF.mpr pne;have el:(((l.mQ z).map D.str).length:Int)=(l.mQ z).length:=by rw[cX]
   refine⟨by show(pf M1 p).isSome=true;rw[lp];rfl,i' (zv _ _) (i' lp ⟨rfl,qA _,i' ej (i' lp ⟨by rw[el];omega,?_⟩)⟩)⟩;rw[el];refine pD cu'.at_ ⟨rfl,_,⟨rfl,rfl⟩,pA rfl,b,A,V,.next z (QQ (l.mQ z) x),rfl,cu'.b,cu'.bd,cu'.lim hc (by omega),trivial,λM2 A2 eb st YA=>?_⟩;exact h _ _ ⟨⟨A2,cu'.after (e:=.next z (QQ (l.mQ z) x)) trivial eb st YA,st0.trans st⟩,_,_,rfl⟩
  .rw[df g]at h;exact h _ _ ⟨⟨A,cu.mono (dz _) (by omega),.refl⟩,_,_,rfl⟩
 rintro δ M1 ⟨⟨A1,c1,XH⟩,y1,y2,rfl⟩
 have q:∀M' A',uE a M0 M' b A' (qL V ((if (l.m7 z=="turns")=true then[.next z (QQ (l.mQ z) x)]else[])++[.rings i (x::ps')])) l c (n+2)->qW A M A' M'->Q .mW M':=q;rw[rP]at q;have YG:i<(qL V (if (l.m7 z=="turns")=true then[.next z (QQ (l.mQ z) x)]else[])).calls.length:=by
  split
  .exact hi
  .exact hi
 generalize qL V (if (l.m7 z=="turns")=true then[.next z (QQ (l.mQ z) x)]else[])=V1 at c1 q YG;refine pD c1.at_ ⟨rfl,_,⟨rfl,rfl⟩,pA rfl,b,A1,V1,.rings i (x::ps'),rfl,c1.b,c1.bd,c1.lim hc (by omega),⟨YG,hps⟩,λM2 A2 eb Xs YA=>?_⟩;exact⟨M2,.refl,q M2 A2 (c1.after (e:=.rings i (x::ps')) ⟨YG,hps⟩ eb Xs YA) (XH.trans Xs)⟩
def Lw:Fq P w K mg base 4 a.a4 (Nj a):=by
 refine fq G.a4.toDG xU (λr u=>⟨_,(pC (pR 3 xU (qe v0 G.c.toCls G.Q (yR G) r (qr U2)))
 (pC (pR 4 xU (qc (qa rh rfl G.l qY (qr (pH (pQ (pH v0) U3)))) (pS (qr (pH (pQ (pH v0) U1))))))
 (pE (pU (qe v0 G.c.toCls G.k (rg G) r (qr (pS (qg pG (rB U1 U3 v4))))))))),?_⟩)
 rintro ds M Q ⟨M0,b,A,V,l,c,n,i,z,rfl,cu,hc,hn,hi,⟨j,k,ej,ek,X3,Y9⟩,q⟩
 have hz:=dN;have ei:V.calls[i]?=some V.calls[i]:=cZ hi;generalize V.calls[i]=ci at ei;obtain⟨ka,qi⟩:=cu.call ei;obtain⟨kb,qj⟩:=cu.call ek;obtain⟨ad,md,h1,h2,h3,h4,_⟩:=qi.cell;obtain⟨ad',md',g1,g2,g3,g4,_⟩:=qj.cell;have hee:tH l V i (.breaks z)=[.merge i j (k.ms++[ci.cr])]:=by unfold tH;dsimp only;rw[ej,ei];dsimp only;rw[ek];rfl
 rw[hee]at q;have ok:(Ev.merge i j (k.ms++[ci.cr])).ok V:=⟨hi,(c9.mp ek).1,X3,by rw[de,Y9];show 3<=100;decide⟩;refine pD cu.at_ ⟨rfl,_,⟨rfl,rfl⟩,A,V,z,by rw[cu.b],cu.bd,d9 cu.sz.ca hc,?_⟩;rw[show AE V z=.int (j:Nat)from by unfold AE;rw[ej];rfl];refine pD cu.at_ (i' rfl (i' rfl (i' cu.bd.ca (i' (rE qj.e1) (pD g1 (i' rfl (i' g4 ?_)))))));refine pD cu.at_ (i' rfl (i' rfl (i' cu.bd.ca (i' (rE qi.e1) (pD h1 (i' rfl ⟨pA rfl,?_⟩))))));refine⟨(by intro y;rw[List.map_eq_nil_iff]at y;rw[y]at Y9;cases Y9),(by rw[cX,Y9];show 2+1<=sizeLine;omega),?_⟩;rw[show k.ms.map D.str++[D.str ci.cr]=(k.ms++[ci.cr]).map D.str by rw[dQ];rfl];refine pD cu.at_ ⟨rfl,_,⟨rfl,rfl⟩,pA rfl,b,A,V,.merge i j (k.ms++[ci.cr]),rfl,cu.b,cu.bd,cu.lim hc (by omega),ok,λM2 A2 eb Xs YA=>?_⟩;exact⟨M2,.refl,q M2 A2 ((cu.after ok eb Xs YA).mono (dz _) (by omega)) Xs⟩
def OA:Fq P w K mg base 5 a.a5 (JB a):=by
 refine fq G.a5.toDG xX (λr u=>⟨_,(pC (pR 3 xX (pQ U2 pF))
 (pE (pV (pM u U3 pG)
 (pE (pU (pO (LI G) r G.a3 (qg v0 (rB U1 (pQ U2 pF) (pQ U2 pF))))))
 (pE (pV (pM u U3 pG)
 (pE (pU (qe v0 G.c.toCls G.k (rg G) r (qr (pS (rB pG U1 (pQ U2 pF)))))))
 (pE (pV (pM u U3 pG)
 (pE (pU (pO (Lw G) r G.a4 (rB v0 U1 (pQ U2 pF)))))
 (pE (pU (qe v0 G.c.toCls G.k (rg G) r (qr (pS (rB pG U1 U3))))))))))))),?_⟩)
 rintro ds M Q ⟨M0,b,A,V,l,c,n,i,e,rfl,cu,hc,hn,hi,he,q⟩
 have one:∀(ev:Ev) (ok:ev.ok V),ev.nw=0->tH l V i e=[ev]->∀M2 A2,A2.b=A.b->qW A M A2 M2->pT a M2 A2 (qo V ev)->∃W8,qz W8 M2/\Q .mW W8:=λev ok h0 h1 M2 A2 eb Xs YA=>by rw[h1]at q;have c2:=cu.after ok eb Xs YA;rw[h0]at c2;exact⟨M2,.refl,q M2 A2 (c2.mono (dz _) (by omega)) Xs⟩
 cases e with
 | rings z ps=>exact⟨M0,b,A,V,l,c,n,i,z,ps,rfl,cu,hc,hn,hi,he.1,he.2.1,he.2.2.1,he.2.2.2,λM' A' c1 st=>⟨M',.refl,q M' A' c1 st⟩⟩
 | waits z=>exact pD cu.at_ ⟨rfl,_,⟨rfl,rfl⟩,pA rfl,b,A,V,.waits i z,rfl,cu.b,cu.bd,cu.lim hc (by omega),hi,one (.waits i z) hi rfl rfl⟩
 | breaks z=>exact⟨M0,b,A,V,l,c,n,i,z,rfl,cu,hc,hn,hi,he,λM' A' c1 st=>⟨M',.refl,q M' A' c1 st⟩⟩
 | engaged z=>exact pD cu.at_ ⟨rfl,_,⟨rfl,rfl⟩,pA rfl,b,A,V,.over i "engaged",rfl,cu.b,cu.bd,cu.lim hc (by omega),hi,one (.over i "engaged") hi rfl rfl⟩
 | barred=>exact pD cu.at_ ⟨rfl,_,⟨rfl,rfl⟩,pA rfl,b,A,V,.over i "barred",rfl,cu.b,cu.bd,cu.lim hc (by omega),hi,one (.over i "barred") hi rfl rfl⟩
 | ring ns=>exact pD cu.at_ ⟨rfl,_,⟨rfl,rfl⟩,pA rfl,b,A,V,.over i "ring",rfl,cu.b,cu.bd,cu.lim hc (by omega),hi,one (.over i "ring") hi rfl rfl⟩
def LL{l:pN}{V:qC}{i:Nat}{k:pI}{e:vR}(ok:r6 l)(wf:zR l V (some i))(hk:V.calls[i]?=some k)(h:Ga l V k.cr e):Gn l V i e:=by
 cases e with
 | rings z ps=>obtain⟨hz,Xm,rfl⟩:=h;have h1:=(GY (l:=l) (V:=V) (c:=k.cr) (z:=z));have h2:=(ok.of hz).1.2.1;exact⟨hz,Xm,λx hx=>(h1.1 x hx).2,by have:=h1.2;omega⟩
 | breaks z=>
  obtain⟨x,rfl,hb⟩:=h;obtain⟨j,d,e1,e2,e3,e4,e5,_⟩:=GJ hb;refine⟨j,d,e1,e2,λy=>?_,e5⟩;subst y;rw[hk]at e2;cases e2;have sh:=(wf.ok i k hk).sh;rw[show(some i==some i)=true from fE _]at sh;rcases sh with g|g
  .rw[g.1]at e3;exact absurd e3 (by decide)
  .cases g.1
 | _=>trivial
def I0:Fq P w K mg base 9 a.ab (Pz a):=by
 refine fq G.ab.toDG wz (λr u=>⟨_,(pC (pR 2 wz (pQ (pH v0) U1))
 (pC (pR 3 wz (pO (LQ G) r G.aW (qg v0 (rB (pH U2) (pQ (pH U2) (Ex pF)) (rW (pH U2) sS (sD (Ex pF)))))))
 (pC (pR 4 wz (pQ U3 pF))
 (pC (pR 5 wz (pQ U3 pF))
 (pC (pU (pO (PY G) r G.a2 (rB v0 U1 v5)))
 (pC (pV (W3.b3 (yF (pM u (pQ v4 pF) pG) (yk (pM u (pY qH rfl G.g qG (qr v5)) pF))))
 (pC (pR 6 wz (pQ (pQ v5 (Ex pF)) pF))
 (pE (pU (qe v0 G.c.toCls G.k (rg G) r (qr (pS (qg pG (qg U1 (rB v6 (pQ (pQ v4 pF) pF) v6)))))))))
 pP)
 (pE (pU (pO (OA G) r G.a5 (rB v0 U1 v4)))))))))),?_⟩)
 rintro ds M Q ⟨M0,b,A,V,l,c,n,i,k,rfl,cu,hc,hn,wf,hk,q⟩
 obtain⟨ka,ci⟩:=cu.call hk;obtain⟨ad,md,h1,h2,h3,h4,n1,n2⟩:=ci.cell;have Ya:=wf.ok i k hk;have hi:=(c9.mp hk).1;obtain⟨z,hz⟩:∃z,k.way.getLast?=some z:=by
  cases e:k.way.getLast? with
  | none=>exact absurd (gO.mp e) Ya.wy.1
  | some z=>exact⟨z,rfl⟩
 have X9:z∈l.nm:=Ya.wy.2 z (jd hz);have hdn:∀x∈k.way.dropLast,x∈l.nm:=λx hx=>Ya.wy.2 x (je _ hx);have hwl:=(cu.sz.cs k (rm hk)).1;have hev:xn l V i=rS i none (vb l V k.cr z k.way.dropLast).2++(ud i (vb l V k.cr z k.way.dropLast).2 (vb l V k.cr z k.way.dropLast).1++tH l V i (vb l V k.cr z k.way.dropLast).1):=by
  unfold xn;rw[hk];have:k.way.getLastD Str.empty=z:=by rw[io,hz];rfl
  dsimp only[Option.elim];rw[this]
 rw[hev]at q;have ro:ya l V k.cr (l.nm.length+1) [] (vb l V k.cr z k.way.dropLast):=zh cu.ok _ _ _ _ X9 hdn;have rl:=ro.len;have eo:=LL cu.ok wf hk ro.e;have nl:l.nm.length<=11:=by have p8:=cu.ok.p8;have g3:=cu.ok.g3;unfold pN.nm pN.pn pN.gn;rw[de,cX,cX];omega
 have re:=ro.e;refine Tf (t:=Gm _ _) (λδ M'=>M=M'/\δ=[some (.ref b),some (.int ((i:Nat):Int)),some (.ref ka.p),none,none,none,none]) (λnx0 h=>pD cu.at_ (i' rfl (i' rfl (i' ci.bd.ca (i' (rE ci.e1) (h _ _ ⟨rfl,rfl⟩)))))) ?_
 rintro δ _ ⟨rfl,rfl⟩
 refine Tf (t:=Gm _ _) (λδ M'=>qz M M'/\∃r,M r=none/\pf M' r=some (rF (vb l V k.cr z k.way.dropLast).2)/\δ=[some (.ref b),some (.int ((i:Nat):Int)),some (.ref ka.p),some (.tup [(vb l V k.cr z k.way.dropLast).1.d,.ref r]),none,none,none]) (λnx0 h=>?_) ?_
 .refine pD h1 (i' rfl (pD h1 (i' rfl (i' h2 (i' (Qj hz) (pD h1 (i' rfl (i' h2 λp hp=>?_))))))));rw[show L3.tZ (k.way.map D.str) none (some (-1:Int))=k.way.dropLast.map D.str from(K5 _).trans (List.map_dropLast).symm];have t:=qz.new (c:=.lst (k.way.dropLast.map D.str)) hp;have lp:=@pK M p (k.way.dropLast.map D.str);refine⟨A,V,l,k.cr,z,p,k.way.dropLast,by rw[cu.b],(cu.rd hc wf).sub t,X9,wf.nx,lp,by rw[List.length_dropLast];omega,λr M' s hr lr=>?_⟩;exact h _ _ ⟨t.trans s,r,t.none hr,lr,rfl⟩
 rintro δ M1 ⟨s1,r,hr,lr,rfl⟩
 generalize vb l V k.cr z k.way.dropLast=R at lr ro rl eo re q;obtain⟨e,st⟩:=R;have cu1:=cu.sub s1;have rl:st.length<=0+(l.nm.length+1):=rl;refine⟨M0,b,A,V,l,c,n,i,st,r,rfl,cu1,hc,by omega,by omega,hi,lr,cu.bd.nU hr,λM2 A2 c2 Xs=>?_⟩;have same:=vn i st none V;have XZ:i<(qL V (rS i none st)).calls.length:=by rw[same.len];exact hi
 have ZM:pf M2 r=some (rF st):=sF (Xs.1 r _ (cu.bd.nU hr) (qm lr));rw[rP,rP]at q;have hee:=λV' (h:tQ V V')=>h.ends (l:=l) i e;have ZE:∀V',tQ V V'->Gn l V' i e:=λV' h=>by
  cases e with
  | breaks z'=>obtain⟨j,d,a1,a2,a3,a4⟩:=eo;obtain⟨d',b1,b2⟩:=h.at_ a2;exact⟨j,d',by rw[h.nP];exact a1,b1,a3,by rw[show d'.ms=d.ms from show d'.bare.ms=d.bare.ms by rw[b2]];exact a4⟩
  | rings _ _=>exact eo
  | _=>trivial
 generalize qL V (rS i none st)=V2 at c2 XZ same q;have Yb:∀(M3:Mp) (A3:tX) (V3:qC),uE a M0 M3 b A3 V3 l c (n+2*st.length+1)->qW A M A3 M3->tQ V V3->i<V3.calls.length->V3=qL V2 (ud i st e)->JB a [.ref b,.int ((i:Nat):Int),e.d] M3 λ_ M'=>∃W8,qz W8 M'/\Q .mW W8:=λM3 A3 V3 c3 s3 Yc hi3 e3=>⟨M0,b,A3,V3,l,c,_,i,e,rfl,c3,hc,by omega,hi3,ZE V3 Yc,λM4 A4 c4 s4=>⟨M4,.refl,q M4 A4 (by
  rw[<-e3];rw[hee V3 Yc]at c4;exact c4.mono (dz _) (by omega)) (s3.trans s4)⟩⟩
 have c2':=c2.mono (dz c) (show n+2*st.length<=n+2*st.length+1 by omega);have Yp:=(qW.sub s1 (A:=A)).trans Xs;cases e with
 | ring ns=>
  obtain⟨x,ns',rfl⟩:=gg (show ns≠[]from re);refine i' ZM ?_;cases hl:st.getLast? with
  | none=>have:st=[]:=gO.mp hl;subst this;exact Yb M2 A2 V2 c2' Yp same XZ rfl
  | some s0=>
   have Yy:0<st.length:=by cases st with|nil=>cases hl|cons _ _=>exact mJ _
   have hd:decide ((0:Int)<((rF st).length:Int))=true:=dZ (by unfold rF;rw[cX];omega);refine Bd (c:=decide ((0:Int)<((rF st).length:Int))) hd ?_;have hat1:wC (rF st) (-1)=some (.tup [.str s0.1,wm s0.2]):=by
    unfold wC;have e1:GP (rF st).length (-1)=some (st.length - 1):=by unfold rF;rw[cX];unfold GP;simp;omega
    rw[e1];show(rF st)[st.length - 1]?=_;unfold rF;rw[dF,<-jJ,hl];rfl
   have hrv:ud i st (.ring (x::ns'))=[.leg ⟨i,s0.1,x,s0.1⟩]:=by unfold ud;dsimp only;rw[hl];rfl
   rw[hrv]at Yb;refine i' ZM (i' hat1 ?_);refine pD c2.at_ ⟨rfl,_,⟨rfl,rfl⟩,i' (zv _ _) ⟨pA rfl,b,A2,V2,.leg ⟨i,s0.1,x,s0.1⟩,rfl,c2.b,c2.bd,c2.lim hc (by omega),XZ,λM3 A3 eb XC bd3=>?_⟩⟩;have Yc:=same.trans (zt V2 ⟨i,s0.1,x,s0.1⟩);exact Yb M3 A3 _ (c2.after (e:=.leg ⟨i,s0.1,x,s0.1⟩) XZ eb XC bd3) (Yp.trans XC) Yc (by rw[Yc.len];exact hi) rfl
 | rings z' ps=>exact Yb M2 A2 V2 c2' Yp same XZ rfl
 | waits z'=>exact Yb M2 A2 V2 c2' Yp same XZ rfl
 | breaks z'=>exact Yb M2 A2 V2 c2' Yp same XZ rfl
 | engaged z'=>exact Yb M2 A2 V2 c2' Yp same XZ rfl
 | barred=>exact Yb M2 A2 V2 c2' Yp same XZ rfl
def Nk:Fq P w K mg base 10 a.a6 (NN a):=by
 refine fq G.a6.toDG zQ (λr u=>⟨_,(pC (pR 3 zQ (pY qH rfl G.g qG (qr (pH v0))))
 (pC (pU (qe v0 G.c.toCls G.k (rg G) r (qr (pS (rB pG U3 U1)))))
 (pC (pU (qe v0 G.c.toCls G.k (rg G) r (qr (pS (qg pG (qg U3 (rB U1 U2 U1)))))))
 (pE (pU (pO (I0 G) r G.ab (so v0 U3))))))),?_⟩)
 rintro ds M Q ⟨M0,b,A,V,l,c,n,y,z,rfl,cu,hc,hn,wf,q⟩
 have lc:((A.cs.map λk=>D.ref k.p).length:Int)=(V.calls.length:Nat):=by rw[cX,cu.bd.len]
 refine pD cu.at_ (i' rfl (i' cu.bd.ca ?_));rw[lc];refine pD cu.at_ ⟨rfl,_,⟨rfl,rfl⟩,pA rfl,b,A,V,.new V.calls.length y,rfl,cu.b,cu.bd,cu.lim (by omega) (by omega),trivial,λM1 A1 eb1 XH bd1=>?_⟩;have c1:=cu.after (e:=.new V.calls.length y) trivial eb1 XH bd1;have ok2:(Ev.leg ⟨V.calls.length,y,z,y⟩).ok (qo V (.new V.calls.length y)):=by show V.calls.length<(V.calls++[zc y]).length;rw[de];exact fJ _
 refine pD c1.at_ ⟨rfl,_,⟨rfl,rfl⟩,pA rfl,b,A1,_,.leg ⟨V.calls.length,y,z,y⟩,rfl,c1.b,c1.bd,c1.lim (by show c+1<=_;omega) (by omega),ok2,λM2 A2 eb2 Xs YA=>?_⟩;have c2:=c1.after ok2 eb2 Xs YA;obtain⟨k,hk⟩:∃k,(qL V [.new V.calls.length y,.leg ⟨V.calls.length,y,z,y⟩]).calls[V.calls.length]?=some k:=by
  have:V.calls.length<(qL V [.new V.calls.length y,.leg ⟨V.calls.length,y,z,y⟩]).calls.length:=by show V.calls.length<((V.calls++[zc y]).modify _ _).length;rw[gj];exact ok2
  exact⟨_,cZ this⟩
 refine⟨M0,b,A2,_,l,c+1,n+2,V.calls.length,k,rfl,c2,by omega,by omega,wf,hk,λM3 A3 c3 XC=>⟨M3,.refl,q M3 A3 ?_ (XH.trans (Xs.trans XC))⟩⟩;unfold FN;rw[rP];exact c3.mono (dz _) (by omega)
noncomputable def Fi(V:qC)(x:Str):D:=CU (uH V x)
abbrev DJ:=Kw Fi
def LG(a:Ad):rC:=λds M Q=>Ha λA V l x z=>ds=[.ref A.b,.str x,.str z]/\Rd a M A V l/\x∈l.pn/\Q (CU (GT l V x z)) M
inductive vG(a:Ad)(M:Mp)(L:QXQ):List rJ->List pI->Prop
 | nil:vG a M L [] []
 | cons (k:rJ) (c:pI) (ks:List rJ) (cs:List pI) (h:rX a M L k c) (r:vG a M L ks cs):vG a M L (k::ks) (c::cs)
def um.nf(w:Str)(m:Nat):Prop:=((w="answer"\/w="hang"\/w="hold"\/w="back")/\m=1)\/((w="hand"\/w="join")/\m=2)
def L9(a:Ad):rC:=λds M Q=>Kt λwd x r L ks cs=>ds=[.str wd,.str x,.ref r]/\pf M r=some (List.map (λk:rJ=>D.ref k.p) ks)/\vG a M L ks cs/\um.nf wd cs.length/\Q (.bl (IU wd x cs)) M
def Je(a:Ad):rC:=λds M Q=>Kt λA V l wd x ns=>ds=[.ref A.b,.str wd,.str x,.tup (List.map D.int ns)]/\Rd a M A V l/\x∈l.pn/\um.nf wd ns.length/\Q (CU (MI l V wd x ns)) M
def Rf(a:Ad):rC:=λds M Q=>BU λA V b i=>ds=[.ref A.b,.str (TM b),.int i]/\pT a M A V/\Q (CU (Py V b i)) M
def Hz(a:Ad):rC:=λds M Q=>BU λA V l e=>ds=[.ref A.b,um.d e]/\Rd a M A V l/\e.nK/\Q (CU (xu l V e)) M
noncomputable def WE(m:Nat):D->D
 | .int i=>.bl (zr m i)
 | _=>.bl false
noncomputable def Wy(A:tX):D->D
 | .int i=>(A.cs[i.toNat]?).elim .mW λk=>.ref k.p
 | _=>.mW
theorem QT{a:Ad}{M:Mp}{A:tX}{V:qC}(bd:pT a M A V):∀{ns:List Int},ns.all (zr V.calls.length)=true->∃ks,vG a M (A.lists++V.fo) ks (tM V ns)/\(ns.map D.int).map (Wy A)=ks.map (λk:rJ=>D.ref k.p)/\(tM V ns).length=ns.length/\∀i∈ns,∃k,0<=i/\A.cs[i.toNat]?=some k
 | [],_=>⟨[],.nil,rfl,rfl,λi hi=>by cases hi⟩
 | i::r,h=>by
  rw[e9,dX]at h;obtain⟨ks,h1,h2,h3,h4⟩:=QT bd h.2;have hh:(decide (0<=i)&&decide (i<V.calls.length))=true:=h.1;rw[dX,eC,eC]at hh;have hi:i.toNat<V.calls.length:=by omega
  have hk:i.toNat<A.cs.length:=by rw[bd.len];exact hi
  have e1:A.cs[i.toNat]?=some A.cs[i.toNat]:=cZ hk;have e2:V.calls[i.toNat]?=some V.calls[i.toNat]:=cZ hi;have ec:tM V (i::r)=V.calls[i.toNat]::tM V r:=by unfold tM;rw[List.filterMap_cons_some (f:=λi:Int=>V.calls[i.toNat]?) e2]
  rw[ec];refine⟨A.cs[i.toNat]::ks,.cons _ _ _ _ (bd.cs _ _ _ e1 e2) h1,?_,eV Nat.succ h3,λj hj=>?_⟩
  .rw[dY,dY,h2];show(A.cs[i.toNat]?).elim _ _::_=_;rw[e1];rfl
  .rcases dv.mp hj with rfl|hj
   .exact⟨_,hh.1,e1⟩
   .exact h4 j hj
def vG.sub{a:Ad}{M M':Mp}{L:QXQ}{ks:List rJ}{cs:List pI}(h:vG a M L ks cs)(s:qz M M'):vG a M' L ks cs:=by
 induction h with
 | nil=>exact .nil
 | cons k c ks cs h r ih=>exact .cons k c ks cs (h.sub s) ih
def Sh{bs:List Bool}{i:Int}(h:zr bs.length i=true):wC (bs.map D.bl) i=some (.bl (bs.getD i.toNat false)):=by
 have hh:(decide (0<=i)&&decide (i<bs.length))=true:=h;rw[dX,eC,eC]at hh;obtain⟨n,rfl⟩:=eF hh.1;have hn:n<bs.length:=by omega
 refine vf ?_;rw[dF,cZ hn];show some (D.bl bs[n])=some (.bl (bs.getD n false));rw[gf,cZ hn];rfl
def Ec:Fq P w K mg base 4 a.aa (DJ a):=by
 refine fq G.aa.toDG yT (λr u=>⟨_,(pC (pV (pM u (qe v0 G.c.toCls G.bD (NI G) r (qr U1)) sr)
 (pE (pJ pG))
 pP)
 (pC (pV (pM u (qe v0 G.c.toCls G.bE (Ia G) r (qr U1)) sr)
 (pE (pJ pG))
 pP)
 (pE (pJ sr)))),?_⟩)
 rintro ds M Q ⟨A,V,x,rfl,bd,hk,q⟩
 unfold Fi uH at q;refine pD bd.at_ ⟨rfl,_,⟨rfl,rfl⟩,A,V,x,rfl,bd,hk,?_⟩;unfold L7;cases e:FK V x with
 | some j=>rw[e]at q;exact⟨M,.refl,q⟩
 | none=>
  rw[e]at q;refine pD bd.at_ ⟨rfl,_,⟨rfl,rfl⟩,A,V,x,rfl,bd,hk,?_⟩;unfold To;cases e:JL V x with
  | some j=>rw[e]at q;exact⟨M,.refl,q⟩
  | none=>rw[e]at q;exact⟨M,.refl,q⟩
def ML:Fq P w K mg base 5 a.aX (LG a):=by
 refine fq G.aX.toDG wj (λr u=>⟨_,(pC (pV (pM u U2 (yh (pH v0) G.h.toCls G.bz (Df G) r))
 (pE (pJ pG))
 pP)
 (pC (pR 3 wj (pO (Ec G) r G.aa (so v0 U1)))
 (pC (pV (W3.b3 (yF (pM u U3 sr) (yk (wU (uR (qe v0 G.c.toCls G.S (yM G) r (qr U1)))))))
 (pE (pJ pG))
 pP)
 (pE (pJ U3))))),?_⟩)
 rintro ds M Q ⟨A,V,l,x,z,rfl,rd,hx,q⟩
 obtain⟨ph,gr,ws,Yz,pr,gd,rs,i1,_⟩:=rd.pl;have p8:=rd.ok.p8;have g3:=rd.ok.g3;unfold GT at q;refine pD rd.bd.at_ (i' rfl (pD i1 ⟨rfl,_,⟨rfl,rfl⟩,V.p,l,rfl,rd.pl,by omega,by omega,λp hp=>i' pK ⟨rfl,qA _,?_⟩⟩));have t:=qz.new (c:=.lst (l.nm.map D.str)) hp;have Xz:=rd.sub t;generalize pL M p (.lst (l.nm.map D.str))=M1 at t Xz ⊢;show if (!(inD (.str z) (l.nm.map D.str)))=true then _ else _
 rw[sI];refine qM (c:=!(hasS l.nm z)) (λg=>?_) (λg=>?_)
 .rw[dh (by simpa using g)]at q;exact⟨M,t,q⟩
 rw[df (by simpa using g)]at q;refine⟨A,V,x,rfl,Xz.bd,Xz.k,?_⟩;unfold Fi;cases e:uH V x with
 | some w0=>rw[e]at q;exact⟨M,t,q⟩
 | none=>
  rw[e]at q;refine pD Xz.bd.at_ ⟨rfl,_,⟨rfl,rfl⟩,A,V,l,x,rfl,Xz,hx,?_⟩;refine qM (c:=!(tV l V x)) (λg=>?_) (λg=>?_)
  .rw[g]at q;exact⟨M,t,q⟩
  .rw[show(!(tV l V x))=false from dO.mpr g]at q;exact⟨M,t,q⟩
def Np:Fq P w K mg base 3 a.aY (L9 a):=by
 refine fq G.aY.toDG Li (λr u=>⟨_,(pC (pV (pM u v0 pG)
 (pE (pJ (qv u U1 (pH (pQ U2 pF)))))
 pP)
 (pC (pV (pM u v0 pG)
 (pE (pJ (qe (pQ U2 pF) G.e.toCls G.bH (LU G) r (qr U1))))
 pP)
 (pC (pV (pM u v0 pG)
 (pE (pJ (qe (pQ U2 pF) G.e.toCls G.ar (Ge G) r (qr U1))))
 pP)
 (pC (pV (pM u v0 pG)
 (pE (pJ (qv u (pH (pQ U2 pF)) U1)))
 pP)
 (pE (pJ (tE (qv u (pH (pQ U2 pF)) U1) (sU (qe (pQ U2 pF) G.e.toCls G.ar (Ge G) r (qr U1)))))))))),?_⟩)
 rintro ds M Q ⟨wd,x,r,L,ks,cs,rfl,lr,Zw,hw,q⟩
 cases Zw with
 | nil=>rcases hw with⟨_,h⟩|⟨_,h⟩<;>cases h
 | cons k c ks cs hc XO=>
 obtain⟨ad,md,h1,h2,h3,h4,_⟩:=id hc;have a0:=zv (.ref k.p) (ks.map λk:rJ=>D.ref k.p);have hold:∀K:DK,K (.bl (c.hd==some x)) M->Option.elim (yY M 9 (CU c.hd) (.str x)) False λb=>K (.bl b) M:=λK hK=>by
  cases e:c.hd with
  | none=>rw[e]at hK;exact hK
  | some y=>rw[e]at hK;exact hK
 rcases hw with⟨rfl|rfl|rfl|rfl,h⟩|⟨hw,h⟩
 .exact i' lr (i' a0 (pD h1 (i' rfl (DE h3 ⟨M,.refl,q⟩))))
 .exact i' lr (i' a0 (pD h1 ⟨rfl,_,⟨rfl,rfl⟩,L,k,c,x,rfl,hc,M,.refl,q⟩))
 .exact i' lr (i' a0 (pD h1 ⟨rfl,_,⟨rfl,rfl⟩,L,k,c,x,rfl,hc,M,.refl,q⟩))
 .exact i' lr (i' a0 (pD h1 (i' rfl (hold _ ⟨M,.refl,q⟩))))
 .cases XO with
  | nil=>cases h
  | cons k' d ks cs hd _=>
   obtain⟨ad',md',f1,_⟩:=id hd;have a1:wC (.ref k.p::.ref k'.p::ks.map λk:rJ=>D.ref k.p) 1=some (.ref k'.p):=vf (j:=1) rfl;have qq:Q (.bl ((c.hd==some x)&&d.ni x)) M:=by
    rcases hw with rfl|rfl
    .exact q
    .exact q
   rcases hw with rfl|rfl
   all_goals
    refine i' lr (i' a0 (pD h1 (i' rfl ?_)));cases e:c.hd with
    | none=>rw[e]at qq;exact⟨M,.refl,qq⟩
    | some y=>
     rw[e]at qq;have qq:Q (.bl ((y==x)&&d.ni x)) M:=qq;refine qM (c:=y==x) (λg=>?_) (λg=>?_)
     .rw[g,eN]at qq;exact i' lr (i' a1 (pD f1 ⟨rfl,_,⟨rfl,rfl⟩,L,k',d,x,rfl,hd,M,.refl,qq⟩))
     .rw[show(y==x)=false from dO.mpr g,eY]at qq;exact⟨M,.refl,qq⟩
def Pd:Fq P w K mg base 5 a.aZ (Je a):=by
 refine fq G.aZ.toDG tU (λr u=>⟨_,(pC (pV (wU (uR (pY (BK rfl) rfl G.aM Cf (qr (qK rfl (xt (ix:=[none,some 0]) (N':=["number","board"])) (qI U3) (qJ 0) rN (uz u pF v0 (pY qH rfl G.g qG (qr (pH U1)))))))))
 (pE (pJ pG))
 pP)
 (pC (uM (i:=4) tU.nd rfl (Or.inl rfl) rfl (xt (ix:=[none,some 0]) (N':=["number","board"])) (qI U3) (qJ 0) rN (pQ (pH U1) v0))
 (pC (pV (wU (uR (pO (Np G) r G.aY (rB U1 U2 v4))))
 (pE (pJ pG))
 pP)
 (pC (pV (pM u U1 (pS (so pG pG)))
 (pE (pJ sr))
 pP)
 (pC (pR 5 tU (pO (Ec G) r G.aa (so v0 U2)))
 (pC (pV (W3.b3 (yF (pM u v5 sr) (yF (uR (qe (pQ v4 pF) G.e.toCls G.ap (GI G) r (qr U2))) (yk (wU (uR (qe v0 G.c.toCls G.S (yM G) r (qr U2))))))))
 (pE (pJ pG))
 pP)
 (pE (pJ v5)))))))),?_⟩)
 rintro ds M Q ⟨A,V,l,wd,x,ns,rfl,rd,hx,hw,q⟩
 have hz:=dN;have ZQ:ns.length<=2:=by rcases hw with⟨_,h⟩|⟨_,h⟩<;>omega
 have lca:((A.cs.map λk=>D.ref k.p).length:Int)=V.calls.length:=by rw[cX,rd.bd.len]
 unfold MI at q;refine qV (f:=WE V.calls.length) trivial _ [] _ (by rw[cX];simp only[dM];omega) (λd hd k hk=>?_) λp hp=>?_
 .obtain⟨i,_,rfl⟩:=dE.mp hd;have hk:k (.bl (decide (0<=i)&&decide (i<V.calls.length))) M:=hk;refine qM (c:=decide (0<=i)) (λg=>?_) (λg=>?_)
  .rw[g,eN]at hk;refine pD rd.bd.at_ (i' rfl (i' rd.bd.ca ?_));rw[lca];exact hk
  .rw[show decide (0<=i)=false from dO.mpr g,eY]at hk;exact hk
 have em:[]++(ns.map D.int).map (WE V.calls.length)=ns.map λi=>D.bl (zr V.calls.length i):=by rw[d6,eA];rfl
 rw[em];have t:=qz.new (c:=.lst (ns.map λi=>D.bl (zr V.calls.length i))) hp;refine i' pK (i' (wI (zr V.calls.length) ns) ?_);have Xz:=rd.sub t;generalize pL M p (.lst (ns.map λi=>D.bl (zr V.calls.length i)))=M1 at t Xz ⊢;rw[y8];refine qM (c:=!(ns.all (zr V.calls.length))) (λg=>?_) (λXJ=>?_)
 .rw[dh (by simpa using g)]at q;exact⟨M,t,q⟩
 have XJ:ns.all (zr V.calls.length)=true:=by simpa using XJ
 rw[df (by rw[XJ];exact Bool.noConfusion)]at q;obtain⟨ks,hks,eks,lcs,Y1⟩:=QT Xz.bd XJ;refine qV (f:=Wy A) trivial _ [] _ (by rw[cX];simp only[dM];omega) (λd hd k0 hk=>?_) λp2 Xd=>?_
 .obtain⟨i,hi,rfl⟩:=dE.mp hd;obtain⟨k,i0,e1⟩:=Y1 i hi;obtain⟨n,rfl⟩:=eF i0;have e1:A.cs[n]?=some k:=e1;have hk:k0 ((A.cs[n]?).elim .mW λk=>.ref k.p) M1:=hk;rw[e1]at hk;exact pD Xz.bd.at_ (i' rfl (i' rfl (i' Xz.bd.ca (i' (rE e1) hk))))
 rw[d6,eks];have t2:=qz.new (c:=.lst (ks.map λk:rJ=>D.ref k.p)) Xd;have l2:=@pK M1 p2 (ks.map λk:rJ=>D.ref k.p);have Zb:=Xz.sub t2;have s2:=t.trans t2;generalize pL M1 p2 (.lst (ks.map λk:rJ=>D.ref k.p))=M2 at l2 Zb s2 t2 ⊢;have hks:=hks.sub t2;generalize tM V ns=cs at hks lcs q;refine⟨wd,x,p2,_,ks,cs,rfl,l2,hks,by rw[lcs];exact hw,?_⟩;refine qM (c:=!IU wd x cs) (λg=>?_) (λg=>?_)
 .rw[dh (by simpa using g)]at q;exact⟨M,s2,q⟩
 rw[df (by simpa using g)]at q;have two:∀wd:Str,(wd=="answer"||wd=="back")=true->Q (CU (if ((uH V x).isNone&&(cs.head?.elim false (λc=>c.mX x)&&!(tV l V x)))=true then some "full" else uH V x)) M->cs.length=1->DJ a [.ref A.b,.str x] M2 λdue M3=>uF (Rc (N0 (b3 (k3 .Is (v3 5) (c3 .mW))) (N0 (b3 (AG "waits_with" (λD s=>D=a.e/\s=vO a) (i3 (v3 4) (c3 (.int 0))) (vw (v3 2) xC))) (Us (b3 (AG "is_free" (λD s=>D=a.c/\s=xk a) (v3 0) (vw (v3 2) xC)))))) (Q2 (c3 (.str "full"))) Vs) (Q2 (v3 5)) {nx:=λ_ M'=>∃W8,qz W8 M'/\Q .mW W8,rt:=λd M'=>∃W8,qz W8 M'/\Q d W8} [some (.ref A.b),some (.str wd),some (.str x),some (.tup (ns.map D.int)),some (.ref p2),some due] M3:=λwd _ q hl=>by
  cases hks with
  | nil=>cases hl
  | cons k c ks cs hc _=>
  have q:Q (CU (if ((uH V x).isNone&&(c.mX x&&!(tV l V x)))=true then some "full" else uH V x)) M:=q;obtain⟨ad,md,h1,_⟩:=id hc;refine⟨A,V,x,rfl,Zb.bd,Zb.k,?_⟩;unfold Fi;cases e:uH V x with
  | some w0=>rw[e]at q;exact⟨M,s2,q⟩
  | none=>
   rw[e]at q;refine i' l2 (i' (zv _ _) (pD h1 ⟨rfl,_,⟨rfl,rfl⟩,_,k,c,x,rfl,hc,?_⟩));refine qM (c:=c.mX x) (λg1=>?_) (λg1=>?_)
   .rw[g1]at q;refine pD Zb.bd.at_ ⟨rfl,_,⟨rfl,rfl⟩,A,V,l,x,rfl,Zb,hx,?_⟩;refine qM (c:=!(tV l V x)) (λg=>?_) (λg=>?_)
    .rw[g]at q;exact⟨M,s2,q⟩
    .rw[show(!(tV l V x))=false from dO.mpr g]at q;exact⟨M,s2,q⟩
   .rw[show c.mX x=false from dO.mpr g1]at q;exact⟨M,s2,q⟩
 rcases hw with⟨rfl|rfl|rfl|rfl,h⟩|⟨rfl|rfl,h⟩
 .exact⟨pA rfl,rfl,rfl,two "answer" rfl q (lcs.trans h)⟩
 .exact⟨pA rfl,rfl,rfl,M,s2,q⟩
 .exact⟨pA rfl,rfl,rfl,M,s2,q⟩
 .exact⟨pA rfl,rfl,rfl,two "back" rfl q (lcs.trans h)⟩
 .exact⟨pA rfl,rfl,rfl,M,s2,q⟩
 .exact⟨pA rfl,rfl,rfl,M,s2,q⟩
def Q3:Fq P w K mg base 1 a.a0 (Rf a):=by
 refine fq G.a0.toDG yH (λr u=>⟨_,(pC (pV (wU (G2 u pF U2 (pY qH rfl G.g qG (qr (pH v0)))))
 (pE (pJ pG))
 pP)
 (pC (pV (pM u (pQ (pH v0) U2) (qv u U1 pG))
 (pE (pJ pG))
 pP)
 (pE (pJ sr)))),?_⟩)
 rintro ds M Q ⟨A,V,b,i,rfl,bd,q⟩
 unfold Py at q;have Y1:zr V.on.length i=(decide (0<=i)&&decide (i<V.on.length)):=rfl;have lon:((V.on.map D.bl).length:Int)=V.on.length:=by rw[cX]
 have no:zr V.on.length i=false->Q (.str "wish") M:=λh=>by rw[dh h]at q;exact q
 have yes:zr V.on.length i=true->Q (CU (if (V.on.getD i.toNat false==b)=true then some "wish" else none)) M:=λh=>by rw[h,df Bool.noConfusion]at q;exact q
 refine qM (c:=decide (0<=i)) (λg0=>?_) (λg0=>⟨M,.refl,no (by rw[Y1,show decide (0<=i)=false from dO.mpr g0];rfl)⟩);refine pD bd.at_ (i' rfl (i' bd.on ?_));rw[lon];refine qM (c:=!(decide (i<(V.on.length:Int)))) (λg1=>⟨M,.refl,no (by rw[Y1,g0,show decide (i<(V.on.length:Int))=false by simpa using g1];rfl)⟩) (λg1=>?_);have h:zr V.on.length i=true:=by rw[Y1,g0,show decide (i<(V.on.length:Int))=true by simpa using g1];rfl
 have q:=yes h;refine pD bd.at_ (i' rfl (i' rfl (i' bd.on (i' (Sh h) ?_))));have es:(TM b=="on")=b:=by cases b<;>rfl
 show if (V.on.getD i.toNat false==(TM b=="on"))=true then _ else _
 rw[es];refine qM (λg=>?_) (λg=>?_)
 .rw[dh g]at q;exact⟨M,.refl,q⟩
 .rw[df g]at q;exact⟨M,.refl,q⟩
def Hs:Fq P w K mg base 6 a.a1 (Hz a):=by
 refine fq G.a1.toDG CJ (λr u=>⟨_,(pC (pR 2 CJ (pQ U1 pF))
 (pC (pV (pM u U2 pG)
 (pE (pJ sr))
 pP)
 (pC (pV (pM u U2 (pS (so pG pG)))
 (pE (pJ (pO (Q3 G) r G.a0 (rB v0 U2 (pQ U1 pF)))))
 pP)
 (pC (pV (pM u (pQ U1 pF) (yh (pH v0) G.h.toCls G.R (tT G) r))
 (pE (pJ pG))
 pP)
 (pC (pV (pM u U2 pG)
 (pE (pJ (pO (ML G) r G.aX (rB v0 (pQ U1 pF) (pQ U1 pF)))))
 pP)
 (pE (pJ (pO (Pd G) r G.aZ (qg v0 (rB U2 (pQ U1 pF) (rW U1 (sD pF) sS))))))))))),?_⟩)
 rintro ds M Q ⟨A,V,l,e,rfl,rd,hf,q⟩
 obtain⟨ph,gr,ws,Yz,pr,gd,rs,i1,_⟩:=rd.pl;have p8:=rd.ok.p8;cases e with
 | turn=>exact⟨M,.refl,q⟩
 | sw b i=>
  cases b with
  | true=>exact⟨pA rfl,rfl,rfl,A,V,true,i,rfl,rd.bd,M,.refl,q⟩
  | false=>exact⟨pA rfl,rfl,rfl,A,V,false,i,rfl,rd.bd,M,.refl,q⟩
 | call x z=>
  have q:Q (CU (if hasS l.pn x=false then some "name" else GT l V x z)) M:=q;refine⟨pA rfl,rfl,rfl,?_⟩;refine pD rd.bd.at_ (i' rfl (pD i1 ⟨rfl,_,⟨rfl,rfl⟩,V.p,l,rfl,rd.pl,by omega,λp Xd=>i' pK ⟨rfl,qA _,?_⟩⟩));have t:=qz.new (c:=.lst (l.pn.map D.str)) Xd;have Xz:=rd.sub t;generalize pL M p (.lst (l.pn.map D.str))=M1 at t Xz ⊢;show if (!(inD (.str x) (l.pn.map D.str)))=true then _ else _
  rw[sI];refine qM (c:=!(hasS l.pn x)) (λg=>?_) (λg=>?_)
  .rw[dh (by simpa using g)]at q;exact⟨M,t,q⟩
  .have g:hasS l.pn x=true:=by simpa using g
   rw[g,df Bool.noConfusion]at q;exact⟨A,V,l,x,z,rfl,Xz,qU.mp g,M,t,q⟩
 | num wd x ns=>
  have q:Q (CU (if hasS l.pn x=false then some "name" else MI l V wd x ns)) M:=q;have hf:um.nf wd ns.length:=hf;have key:∀(M1:Mp),qz M M1->if (!(inD (.str x) (l.pn.map D.str)))=true then(∃W8,qz W8 M1/\Q (.str "name") W8)else Je a [.ref A.b,.str wd,.str x,.tup (ns.map D.int)] M1 λd M'=>∃W8,qz W8 M'/\Q d W8:=λM1 t=>by
   rw[sI];refine qM (c:=!(hasS l.pn x)) (λg=>?_) (λg=>?_)
   .rw[dh (by simpa using g)]at q;exact⟨M,t,q⟩
   .have g:hasS l.pn x=true:=by simpa using g
    rw[g,df Bool.noConfusion]at q;exact⟨A,V,l,wd,x,ns,rfl,rd.sub t,qU.mp g,hf,M,t,q⟩
  have one:ns.length=1->∃i,ns=[i]:=List.length_eq_one_iff.mp;have two:ns.length=2->∃i j,ns=[i,j]:=λh=>by
   match ns,h with
   | [i,j],_=>exact⟨i,j,rfl⟩
  rcases id hf with⟨rfl|rfl|rfl|rfl,h⟩|⟨rfl|rfl,h⟩
  .obtain⟨i,rfl⟩:=one h;exact⟨pA rfl,rfl,rfl,pD rd.bd.at_ (i' rfl (pD i1 ⟨rfl,_,⟨rfl,rfl⟩,V.p,l,rfl,rd.pl,by omega,λp Xd=>i' pK ⟨rfl,qA _,key _ (.new Xd)⟩⟩))⟩
  .obtain⟨i,rfl⟩:=one h;exact⟨pA rfl,rfl,rfl,pD rd.bd.at_ (i' rfl (pD i1 ⟨rfl,_,⟨rfl,rfl⟩,V.p,l,rfl,rd.pl,by omega,λp Xd=>i' pK ⟨rfl,qA _,key _ (.new Xd)⟩⟩))⟩
  .obtain⟨i,rfl⟩:=one h;exact⟨pA rfl,rfl,rfl,pD rd.bd.at_ (i' rfl (pD i1 ⟨rfl,_,⟨rfl,rfl⟩,V.p,l,rfl,rd.pl,by omega,λp Xd=>i' pK ⟨rfl,qA _,key _ (.new Xd)⟩⟩))⟩
  .obtain⟨i,rfl⟩:=one h;exact⟨pA rfl,rfl,rfl,pD rd.bd.at_ (i' rfl (pD i1 ⟨rfl,_,⟨rfl,rfl⟩,V.p,l,rfl,rd.pl,by omega,λp Xd=>i' pK ⟨rfl,qA _,key _ (.new Xd)⟩⟩))⟩
  .obtain⟨i,j,rfl⟩:=two h;exact⟨pA rfl,rfl,rfl,pD rd.bd.at_ (i' rfl (pD i1 ⟨rfl,_,⟨rfl,rfl⟩,V.p,l,rfl,rd.pl,by omega,λp Xd=>i' pK ⟨rfl,qA _,key _ (.new Xd)⟩⟩))⟩
  .obtain⟨i,j,rfl⟩:=two h;exact⟨pA rfl,rfl,rfl,pD rd.bd.at_ (i' rfl (pD i1 ⟨rfl,_,⟨rfl,rfl⟩,V.p,l,rfl,rd.pl,by omega,λp Xd=>i' pK ⟨rfl,qA _,key _ (.new Xd)⟩⟩))⟩
def CW(V:qC)(x:Str):Prop:=∀c∈V.calls,¬Bt c x
def Ek{V:qC}{x:Str}(h:uH V x=none):CW V x:=by
 unfold uH at h;cases e1:FK V x with
 | some j=>rw[e1]at h;cases h
 | none=>
  cases e2:JL V x with
  | some j=>rw[e1,e2]at h;cases h
  | none=>
   intro c hc g;have h1:=jK.mp e1 c hc;have h2:=jK.mp e2 c hc;rcases g with g|g
   .rw[h1]at g;cases g
   .rw[h2]at g;cases g
def sR{c:pI}(h:c.st="rings"){x:Str}:Bt c x↔x=c.cr:=by unfold Bt pI.nA pI.ng pI.m9;rw[h];simp(decide:=true)
def DQ{c:pI}(h:c.st="waits"){x:Str}:Bt c x↔x=c.cr:=by unfold Bt pI.nA pI.ng pI.m9;rw[h];simp(decide:=true)
def tN{c:pI}(h:c.st="talks"){x:Str}:Bt c x↔x∈c.ms:=by unfold Bt pI.nA pI.ng pI.m9;rw[h,<-qU];simp(decide:=true)
def CB{c:pI}(h:c.st="held"){x:Str}:Bt c x↔x∈c.ms/\c.hd≠some x:=by unfold Bt pI.nA pI.ng;rw[h,<-qU];simp(decide:=true)
def GE{c:pI}(h:c.st="over"){x:Str}:¬Bt c x:=by unfold Bt pI.nA pI.ng pI.m9;rw[h];simp(decide:=true)
def sN{c:pI}(h:c.st="rings"){x:Str}:c.hasB x=true↔x=c.cr\/x∈c.at_:=by unfold pI.hasB;rw[h,<-qU];simp(decide:=true)
def DU{c:pI}(h:c.st="waits"){x:Str}:c.hasB x=true↔x=c.cr:=by unfold pI.hasB;rw[h];simp(decide:=true)
def sX{c:pI}(h:c.st="talks"\/c.st="held"){x:Str}:c.hasB x=true↔x∈c.ms:=by unfold pI.hasB;rw[<-qU];rcases h with h|h<;>(rw[h];simp(decide:=true))
def Gz{c:pI}(h:c.st="over"){x:Str}:c.hasB x=false:=by unfold pI.hasB;rw[h];simp(decide:=true)
def sA{c:pI}{x:Str}:c.mX x=true↔c.st="waits"/\x∈c.at_:=by unfold pI.mX;rw[dX,fk,qU]
theorem Fe{α:Type}(f:α->Bool):∀{l:List α} {i:Nat} {c:α} (c':α),l[i]?=some c->((l.set i c').filter f).length+(if f c=true then 1 else 0)=(l.filter f).length+(if f c'=true then 1 else 0)
 | [],_,_,_,h=>by simp at h
 | x::r,0,c,c',h=>by cases h;rw[List.set_cons_zero,gQ,gQ];split<;>split<;>simp
 | x::r,i+1,c,c',h=>by
  have ih:=Fe f (l:=r) (i:=i) (c:=c) c' (by simpa using h);rw[lz,gQ,gQ];split
  .rw[eD,eD];omega
  .exact ih
def zR.set{l:pN}{V V':qC}{o o':Option Nat}{i:Nat}{c c':pI}(h:zR l V o)(e:V'.calls=V.calls.set i c')(hc:V.calls[i]?=some c)(ho:∀j,j≠i->(o==some j)=(o'==some j))(ok:vU l (o'==some i) c')(he:∀x,Bt c' x->Bt c x\/CW V x)(hu:∀x,c'.hasB x=true->c.hasB x=true\/(vc V x:Int)<xf l x)(hw:∀x,c'.mX x=true->c.mX x=true\/Ax V x=false)(nx:ur l V'):zR l V' o':=by
 have si:∀{j:Nat} {d:pI},V'.calls[j]?=some d->(j=i/\d=c')\/(j≠i/\V.calls[j]?=some d):=λ{j d} g=>by rw[e]at g;exact(Ep g).imp (λg=>⟨g.1,g.2.1⟩) id
 have key:∀(j:Nat) cj x,j≠i->V.calls[j]?=some cj->Bt c' x->Bt cj x->False:=λj cj x hj e1 g1 g2=>by
  rcases he x g1 with z|z
  .exact hj (h.un j i cj c x e1 hc g2 z)
  .exact z cj (rm e1) g2
 have keyw:∀(j:Nat) cj x,j≠i->V.calls[j]?=some cj->c'.mX x=true->cj.mX x=true->False:=λj cj x hj e1 g1 g2=>by
  rcases hw x g1 with z|z
  .exact hj (h.wt j i cj c x e1 hc g2 z)
  .unfold Ax at z;exact absurd g2 (by rw[lC.mp z cj (rm e1)|>dO.mpr];exact Bool.noConfusion)
 refine⟨λj d g=>?_,λm n cm cn x e1 e2 g1 g2=>?_,λx hx=>?_,λm n cm cn x e1 e2 g1 g2=>?_,nx⟩
 .rcases si g with⟨rfl,rfl⟩|⟨hj,g⟩
  .exact ok
  .rw[<-ho j hj];exact h.ok j d g
 .rcases si e1 with⟨rfl,rfl⟩|⟨hm,e1⟩<;>rcases si e2 with⟨rfl,rfl⟩|⟨hn,e2⟩
  .rfl
  .exact(key n cn x hn e2 g1 g2).elim
  .exact(key m cm x hm e1 g2 g1).elim
  .exact h.un m n cm cn x e1 e2 g1 g2
 .have cs:=Fe (λk:pI=>k.hasB x) c' hc;have hl:=h.ln x hx;unfold vc at hl ⊢;rw[e];by_cases g:c'.hasB x=true
  .rw[dh g]at cs;rcases hu x g with z|z
   .rw[dh z]at cs;omega
   .unfold vc at z;omega
  .rw[df g]at cs;omega
 .rcases si e1 with⟨rfl,rfl⟩|⟨hm,e1⟩<;>rcases si e2 with⟨rfl,rfl⟩|⟨hn,e2⟩
  .rfl
  .exact(keyw n cn x hn e2 g1 g2).elim
  .exact(keyw m cm x hm e1 g2 g1).elim
  .exact h.wt m n cm cn x e1 e2 g1 g2
def zR.add{l:pN}{V V':qC}{c':pI}(h:WF l V)(e:V'.calls=V.calls++[c'])(ok:vU l true c')(he:∀x,Bt c' x->CW V x)(hu:∀x,c'.hasB x=true->(vc V x:Int)<xf l x)(hw:∀x,c'.mX x=false)(nx:ur l V'):zR l V' (some V.calls.length):=by
 have si:∀{j:Nat} {d:pI},V'.calls[j]?=some d->(j=V.calls.length/\d=c')\/(j≠V.calls.length/\V.calls[j]?=some d):=λ{j d} g=>by
  rw[e]at g;by_cases z:j<V.calls.length
  .rw[fi z]at g;exact .inr ⟨by omega,g⟩
  .have:=(c9.mp g).1;rw[de,dS]at this;have z:j=V.calls.length:=by omega
   subst z;rw[eZ (dz _)]at g;simp only[ia,iG,jB]at g;exact .inl ⟨rfl,g.symm⟩
 refine⟨λj d g=>?_,λm n cm cn x e1 e2 g1 g2=>?_,λx hx=>?_,λm n cm cn x e1 e2 g1 g2=>?_,nx⟩
 .rcases si g with⟨rfl,rfl⟩|⟨hj,g⟩
  .rw[fE];exact ok
  .rw[show(some V.calls.length==some j)=false by simpa using dR hj];exact h.ok j d g
 .rcases si e1 with⟨rfl,rfl⟩|⟨hm,e1⟩<;>rcases si e2 with⟨rfl,rfl⟩|⟨hn,e2⟩
  .rfl
  .exact(he x g1 cn (rm e2) g2).elim
  .exact(he x g2 cm (rm e1) g1).elim
  .exact h.un m n cm cn x e1 e2 g1 g2
 .have hl:=h.ln x hx;unfold vc at hl ⊢;rw[e,jv,de,gQ];split
  .rename_i g;have:=hu x g;unfold vc at this;simp only[ja,dS];omega
  .simp only[ja,dM];omega
 .rcases si e1 with⟨rfl,rfl⟩|⟨hm,e1⟩<;>rcases si e2 with⟨rfl,rfl⟩|⟨hn,e2⟩
  .rfl
  .rw[hw x]at g1;cases g1
  .rw[hw x]at g2;cases g2
  .exact h.wt m n cm cn x e1 e2 g1 g2
noncomputable def pI.core(c:pI):pI:={c with way:=[],si:=0}
def zI(V V':qC):Prop:=V'.calls.map pI.core=V.calls.map pI.core
def zI.at_{V V':qC}(h:zI V V'){i:Nat}{c':pI}(e:V'.calls[i]?=some c'):∃c,V.calls[i]?=some c/\c'.core=c.core:=by
 have:=eV (·[i]?) h;simp only[dF,e]at this;cases e':V.calls[i]? with
 | none=>rw[e']at this;cases this
 | some c=>rw[e']at this;exact⟨c,rfl,dw this⟩
def zI.used{V V':qC}(h:zI V V')(x:Str):vc V' x=vc V x:=by
 have key:∀cs:List pI,(cs.filter (·.hasB x)).length=((cs.map pI.core).filter (·.hasB x)).length:=λcs=>by rw[gZ,cX];rfl
 unfold vc;rw[key,h,<-key]
def zI.wf{l:pN}{V V':qC}{o:Option Nat}(h:zI V V')(wf:zR l V o)(hw:∀(i:Nat) c',V'.calls[i]?=some c'->c'.way≠[]/\∀z∈c'.way,z∈l.nm)(nx:ur l V'):zR l V' o:=by
 refine⟨λi c' e=>?_,λi j ci cj x e1 e2 g1 g2=>?_,λx hx=>by rw[h.used];exact wf.ln x hx,λi j ci cj x e1 e2 g1 g2=>?_,nx⟩
 .obtain⟨c,ec,ee⟩:=h.at_ e;have k:=wf.ok i c ec;have k1:c'.at_=c.at_:=show c'.core.at_=c.core.at_ by rw[ee]
  have k2:c'.ms=c.ms:=show c'.core.ms=c.core.ms by rw[ee]
  have k3:c'.cr=c.cr:=show c'.core.cr=c.core.cr by rw[ee]
  exact⟨by show QI _ c'.core;rw[ee];exact k.sh,by rw[k3];exact k.cr,by rw[k1];exact k.at_,by rw[k2];exact k.ms,by rw[k1];exact k.an,by rw[k2];exact k.mn,by rw[k1,k3];exact k.ca,hw i c' e⟩
 .obtain⟨di,a1,a2⟩:=h.at_ e1;obtain⟨dj,b1,b2⟩:=h.at_ e2;exact wf.un i j di dj x a1 b1 (by show Bt di.core x;rw[<-a2];exact g1) (by show Bt dj.core x;rw[<-b2];exact g2)
 .obtain⟨di,a1,a2⟩:=h.at_ e1;obtain⟨dj,b1,b2⟩:=h.at_ e2;exact wf.wt i j di dj x a1 b1 (by show di.core.mX x=true;rw[<-a2];exact g1) (by show dj.core.mX x=true;rw[<-b2];exact g2)
def tQ.core{V V':qC}(h:tQ V V'):zI V V':=by have:=eV (List.map pI.core) h;rw[eA,eA]at this;exact this
def JT(V:qC):zI V (qo V .turn):=by show(V.calls.map pI.tick).map pI.core=V.calls.map pI.core;rw[eA];refine gy λc _=>?_;show(pI.tick c).core=c.core;unfold pI.tick;split<;>rfl
def E2{l:pN}{V:qC}(wf:WF l V):WF l (qo V .turn):=(JT V).wf wf (λi c' e=>by
 have e:(V.calls.map pI.tick)[i]?=some c':=e;rw[dF]at e;cases q:V.calls[i]? with
 | none=>rw[q]at e;cases e
 | some c=>
  rw[q]at e;have e:c.tick=c':=dw e;have hw:c.tick.way=c.way:=by unfold pI.tick;split<;>rfl
  rw[<-e,hw];exact(wf.ok i c q).wy) wf.nx
def TK{l:pN}{V:qC}{b:Bool}{i:Nat}(wf:WF l V):WF l (qo V (.sw b i)):=⟨wf.ok,wf.un,wf.ln,wf.wt,wf.nx⟩
def Ey{l:pN}{V:qC}{o:Option Nat}{i:Nat}{z:Str}{ns:List Nat}(wf:zR l V o):zR l (qo V (.asks i z ns)) o:=⟨wf.ok,wf.un,wf.ln,wf.wt,wf.nx⟩
def HZ{l:pN}{V:qC}{o:Option Nat}{v:rA}(wf:zR l V o)(hz:v.g∈l.nm):zR l (qo V (.leg v)) o:=(zt V v).core.wf wf (λi c' e=>by
 have e:(V.calls.modify v.i (·.go v.g))[i]?=some c':=e;rw[jf]at e;cases q:V.calls[i]? with
 | none=>rw[q]at e;cases e
 | some c=>
  rw[q]at e;have k:=(wf.ok i c q).wy;have e:(if v.i=i then c.go v.g else c)=c':=dw e;by_cases g:v.i=i
  .rw[dh g]at e;rw[<-e];refine⟨by show c.way++[v.g]≠[];simp,λz hz'=>?_⟩;rcases eh.mp (show z∈c.way++[v.g]from hz')with y|y
   .exact k.2 z y
   .rw[dD.mp y];exact hz
  .rw[df g]at e;rw[<-show c=c' from e];exact k) wf.nx
theorem Cy{l:pN}{o:Option Nat}(i:Nat):∀(st:tJ) (q:Option Str) {V:qC},zR l V o->(∀s∈st,s.1∈l.nm)->zR l (qL V (rS i q st)) o
 | [],_,V,wf,_=>wf
 | (y,gs)::r,none,V,wf,h=>Cy i r (some y) (Ey wf) λs hs=>h s (dH _ hs)
 | (y,gs)::r,some u,V,wf,h=>Cy i r (some y) (Ey (HZ wf (h _ dU))) λs hs=>h s (dH _ hs)
def rH{V:qC}{i:Nat}{c:pI}{f:pI->pI}(h:V.calls[i]?=some c):(xD V i f).calls=V.calls.set i (f c):=by unfold xD;rw[tP h]
def Bm{i:Nat}:∀j,j≠i->((some i:Option Nat)==some j)=((none:Option Nat)==some j):=λj hj=>by rw[show((some i:Option Nat)==some j)=false by simpa using dR hj];rfl
def Vq{l:pN}{V:qC}{i:Nat}{c:pI}(wf:zR l V (some i))(hc:V.calls[i]?=some c):c.st="rings"/\c.ms=[]/\c.hd=none/\c.wd=none/\c.at_=[]:=by
 have sh:=(wf.ok i c hc).sh;rw[fE]at sh;rcases sh with g|g
 .exact⟨g.1,g.2.1,g.2.2.1,g.2.2.2.1,g.2.2.2.2.1 rfl⟩
 .cases g.1
def O2{l:pN}{c:pI}{o:Bool}{w:Str}(k:vU l o c)(hw:w∈MQ):vU l false (c.over w):=⟨.inr ⟨rfl,.inr (.inr (.inr ⟨rfl,rfl,rfl,rfl,w,hw,rfl⟩))⟩,k.cr,(λx hx=>by cases hx),(λx hx=>by cases hx),eM,eM,(λhx=>by cases hx),k.wy⟩
def xg{l:pN}{V V':qC}{o:Option Nat}{i:Nat}{c:pI}{w:Str}(wf:zR l V o)(hc:V.calls[i]?=some c)(ho:o=none\/o=some i)(hw:w∈MQ)(e:V'.calls=V.calls.set i (c.over w))(nx:ur l V'):WF l V':=
 wf.set e hc (λj hj=>by rcases ho with rfl|rfl;rfl;exact Bm j hj) (O2 (wf.ok i c hc) hw) (λx g=>(GE rfl g).elim) (λx g=>by rw[Gz (c:=c.over w) rfl]at g;cases g) (λx g=>by have:=(sA.mp g).1;exact absurd this (show("over":Str)≠"waits" by decide)) nx
def Hb{l:pN}{V:qC}{c z:Str}(h:(l.mQ z).Nodup):(xK l V c z).Nodup:=by
 unfold xK;split
 .cases(uW (l.mQ z) (zE V z)).filter λx=>hasS (uB l V c z) x with
  | nil=>exact eM
  | cons y r=>exact dW.mpr ⟨dJ,eM⟩
 .exact h.sublist fZ
def LD(ps:List (Str×Int))(z:Str)(n:Int)(y:Str):(Cp ps z n).find? (λp=>decide (p.1=y))=if y=z then some (z,n)else ps.find? λp=>decide (p.1=y):=by
 unfold Cp;by_cases h:ps.any (λp=>decide (p.1=z))=true
 .rw[dh h];induction ps with
  | nil=>cases h
  | cons p r ih=>
   rw[dY,fM,fM];by_cases hp:p.1=z
   .rw[dh hp];by_cases hy:y=z
    .rw[dh hy,hy];simp[hp]
    .rw[df hy];have n1:decide (p.1=y)=false:=eR (λq=>hy (q.symm.trans hp));simp only[n1];by_cases hr:r.any (λp=>decide (p.1=z))=true
     .have:=ih hr;rw[df hy]at this;exact this
     .have hr:∀q∈r,¬q.1=z:=λq hq g=>hr (gA.mpr ⟨q,hq,dZ g⟩);rw[show r.map (λp=>if p.1=z then(p.1,n)else p)=r from(gy λq hq=>df (hr q hq)).trans (jq _)]
   .rw[df hp];have hr:r.any (λp=>decide (p.1=z))=true:=by
     rw[gc,gY]at h;rcases h with g|g
     .exact absurd (fR g) hp
     .exact g
    have ih:=ih hr;by_cases hy:y=z
    .rw[dh hy]at ih ⊢;have n1:decide (p.1=y)=false:=eR (λq=>hp (q.trans hy));simp only[n1];exact ih
    .rw[df hy]at ih ⊢;cases decide (p.1=y)with
     | true=>rfl
     | false=>exact ih
 .rw[df h,List.find?_append];have hr:∀q∈ps,¬q.1=z:=λq hq g=>h (gA.mpr ⟨q,hq,dZ g⟩);by_cases hy:y=z
  .subst hy;rw[dh rfl,g9.mpr λq hq=>by simpa using hr q hq,Option.none_or];simp
  .rw[df hy,fM,eR (λq:z=y=>hy q.symm)];simp
def Mc{l:pN}{V:qC}{z:Str}{n:Int}(h:ur l V)(h0:0<=n)(h1:n<=((l.mQ z).length:Int)):ur l (qo V (.next z n)):=λy hy ht=>by
 show ∃v,(Cp V.ps z n).find? _=some v/\_;rw[LD];by_cases e:y=z
 .subst e;rw[dh rfl];exact⟨_,rfl,h0,h1⟩
 .rw[df e];exact h y hy ht
def Ei{l:pN}{V:qC}{x:Str}(h:tV l V x=true):(vc V x:Int)<xf l x:=fR h
def J'{l:pN}{V V':qC}{o:Option Nat}{i:Nat}{c:pI}{w x:Str}(wf:zR l V o)(hc:V.calls[i]?=some c)(e:V'.calls=V.calls.set i (c.over w))(hx:Bt c x):CW V' x:=λd hd g=>by
 rw[e]at hd;obtain⟨j,hj,ed⟩:=gS hd;have ej:(V.calls.set i (c.over w))[j]?=some d:=by rw[cZ hj,ed]
 rcases Ep ej with⟨_,rfl,_⟩|⟨Xm,ej⟩
 .exact GE rfl g
 .exact Xm (wf.un j i d c x ej hc g hx)
def Kf{V V':qC}{i:Nat}{c:pI}{w x:Str}(hc:V.calls[i]?=some c)(e:V'.calls=V.calls.set i (c.over w))(hx:c.hasB x=true):vc V' x+1=vc V x:=by
 have:=Fe (λk:pI=>k.hasB x) (c.over w) hc;unfold vc;rw[e];simp only[hx,jm,Gz (c:=c.over w) rfl]at this
 simpa using this
def FU{l:pN}{V V':qC}{o:Option Nat}{i j:Nat}{c d:pI}{ms:QQQ}(wf:zR l V o)(ho:o=none\/o=some i)(hc:V.calls[i]?=some c)(hd:V.calls[j]?=some d)(X3:i≠j)(e:V'.calls=(V.calls.set i (c.over "merged")).set j (d.mem ms))(nx:ur l V')(dt:d.st="talks")(m1:ms.Nodup)(m2:ms.length=2\/ms.length=3)(m3:∀x∈ms,x∈d.ms\/(Bt c x/\c.hasB x=true))(m4:∀x∈ms,x∈l.pn):WF l V':=by
 have e1:(xD V i (·.over "merged")).calls=V.calls.set i (c.over "merged"):=rH hc;have w1:WF l (xD V i (·.over "merged")):=xg wf hc ho (by decide) e1 wf.nx;have hd1:(xD V i (·.over "merged")).calls[j]?=some d:=by rw[e1,eU X3];exact hd
 have kd:=w1.ok j d hd1;have kd':d.hd=none/\d.wd=none/\d.at_=[]:=by
  rcases kd.sh with g|⟨_,g|g|⟨_,g⟩|g⟩
  .rw[dt]at g;exact absurd g.1 (by decide)
  .rw[dt]at g;exact absurd g.1 (by decide)
  .exact⟨g.2.2.1,g.2.2.2.1,g.2.2.2.2⟩
  .rw[dt]at g;exact absurd g.1 (by decide)
  .rw[dt]at g;exact absurd g.1 (by decide)
 refine w1.set (c':=d.mem ms) (by rw[e,e1]) hd1 (λ_ _=>rfl) ⟨.inr ⟨rfl,.inr (.inl ⟨dt,m2,kd'.1,kd'.2.1,kd'.2.2⟩)⟩,kd.cr,kd.at_,m4,kd.an,m1,kd.ca,kd.wy⟩ (λx g=>?_) (λx g=>?_) (λx g=>?_) nx
 .have g:=(tN (c:=d.mem ms) dt).mp g;rcases m3 x g with y|y
  .exact .inl ((tN dt).mpr y)
  .exact .inr (J' wf hc e1 y.1)
 .have g:=(sX (c:=d.mem ms) (.inl dt)).mp g;rcases m3 x g with y|y
  .exact .inl ((sX (.inl dt)).mpr y)
  .have:=Kf hc e1 y.2;have:=wf.ln x (m4 x g);exact .inr (by omega)
 .have:=(sA.mp g).1;rw[show(d.mem ms).st="talks" from dt]at this;exact absurd this (by decide)
def SB{l:pN}{V V1:qC}{i:Nat}{c:pI}{e:vR}(ok:r6 l)(wf:zR l V1 (some i))(same:zI V V1)(hc:V1.calls[i]?=some c)(he:Ga l V c.cr e):WF l (qL V1 (tH l V1 i e)):=by
 obtain⟨p1,p2,p3,p4,p5⟩:=Vq wf hc;have k:=wf.ok i c hc;have hi:=(c9.mp hc).1;cases e with
 | rings z ps=>
  obtain⟨hz,Xm,rfl⟩:=he;obtain⟨⟨q1,q2,q3,q4⟩,_⟩:=ok.of hz;obtain⟨r1,r2⟩:=GY (l:=l) (V:=V) (c:=c.cr) (z:=z);generalize hps:xK l V c.cr z=ps at Xm r1 r2;have W7:∀V2:qC,V2.calls=V1.calls->ur l V2->WF l (qo V2 (.rings i ps)):=λV2 e2 nx=>by
   have e3:(qo V2 (.rings i ps)).calls=V1.calls.set i (c.ring ps):=by show(xD (qR V2 _) i _).calls=_;rw[rH (c:=c) (by show V2.calls[i]?=_;rw[e2];exact hc)];show V2.calls.set i _=_;rw[e2]
   have free:∀x∈ps,tV l V x=true/\x≠c.cr:=λx hx=>by have h:=(fL.mp (r1 x hx).1).2;simp only[dX,gL]at h;exact⟨h.2,by simpa using h.1⟩
   refine wf.set e3 hc Bm ⟨.inl ⟨rfl,p2,p3,p4,(λh=>by cases h),λ_=>Xm⟩,k.cr,λx hx=>q4 x (r1 x hx).2,k.ms,by rw[<-hps];exact Hb q3,k.mn,λhx=>(free _ hx).2 rfl,k.wy⟩ (λx g=>?_) (λx g=>?_) (λx g=>?_) nx
   .exact .inl ((sR p1).mpr ((sR (c:=c.ring ps) rfl).mp g))
   .rcases(sN (c:=c.ring ps) rfl).mp g with y|y
    .exact .inl ((sN p1).mpr (.inl y))
    .refine .inr ?_;rw[same.used];exact Ei (free x y).1
   .exact absurd (sA.mp g).1 (show("rings":Str)≠"waits" by decide)
  show WF l (qL V1 ((if (l.m7 z=="turns")=true then _ else _)++[.rings i ps]));rw[rP];by_cases ht:(l.m7 z=="turns")=true
  .rw[dh ht];have lp:0<(l.mQ z).length:=fF.mpr q1;refine W7 _ rfl (Mc wf.nx (eW _ (by omega)) (Int.le_of_lt (eQ _ (by omega))))
  .rw[df ht];exact W7 V1 rfl wf.nx
 | waits z=>
  obtain⟨hz,Xm,hw⟩:=he;have e3:(qo V1 (.waits i z)).calls=V1.calls.set i (c.wait z):=rH (V:=qR V1 _) hc;have hw1:Ax V1 z=false:=by
   unfold Ax at hw ⊢;have key:∀cs:List pI,cs.any (·.mX z)=(cs.map pI.core).any (·.mX z):=λcs=>by rw[jV];rfl
   rw[key,same,<-key];exact hw
  refine wf.set e3 hc Bm ⟨.inr ⟨rfl,.inl ⟨rfl,p2,p3,p4,rfl⟩⟩,k.cr,λx hx=>by rw[dD.mp hx];exact hz,k.ms,dW.mpr ⟨dJ,eM⟩,k.mn,λhx=>Xm (dD.mp hx).symm,k.wy⟩ (λx g=>?_) (λx g=>?_) (λx g=>?_) wf.nx
  .exact .inl ((sR p1).mpr ((DQ (c:=c.wait z) rfl).mp g))
  .exact .inl ((sN p1).mpr (.inl ((DU (c:=c.wait z) rfl).mp g)))
  .have:=(sA.mp g).2;rw[dD.mp this];exact .inr hw1
 | breaks z=>
  obtain⟨x,rfl,hb⟩:=he;obtain⟨j,d0,t1,t2,t3,t4,t5,t6⟩:=GJ hb;have ht:vF V1 z=some j:=by
   rw[<-t1];unfold vF;have key:∀cs:List pI,cs.findIdx? (·.m9 z)=(cs.map pI.core).findIdx? (·.m9 z):=λcs=>by rw[hW];rfl
   rw[key,same,<-key]
  obtain⟨d,ed,ec⟩:∃d,V1.calls[j]?=some d/\d.core=d0.core:=by
   have:=eV (·[j]?) same;simp only[dF,t2]at this;cases q:V1.calls[j]? with
   | none=>rw[q]at this;cases this
   | some d=>rw[q]at this;exact⟨d,rfl,dw this⟩
  have ds:d.st="talks":=by rw[show d.st=d0.st from show d.core.st=d0.core.st by rw[ec]];exact t3
  have dm:d.ms=d0.ms:=show d.core.ms=d0.core.ms by rw[ec]
  have X3:i≠j:=λy=>by subst y;rw[hc]at ed;cases ed;rw[p1]at ds;exact absurd ds (by decide)
  have hee:tH l V1 i (.breaks z)=[.merge i j (d.ms++[c.cr])]:=by unfold tH;dsimp only;rw[ht,hc];dsimp only;rw[ed];rfl
  rw[hee];have ncr:c.cr∉d.ms:=λy=>X3 (wf.un i j c d c.cr hc ed ((sR p1).mpr rfl) ((tN ds).mpr y));have kd:=wf.ok j d ed;refine FU (V':=qo V1 (.merge i j (d.ms++[c.cr]))) (ms:=d.ms++[c.cr]) wf (.inr rfl) hc ed X3 ?_ wf.nx ds ?_ (.inr ?_) (λx hx=>?_) (λx hx=>?_)
  .show(V1.calls.modify i _).modify j _=_;rw[tP hc,tP (show(V1.calls.set i _)[j]?=some d by rw[eU X3];exact ed)]
  .refine gq.mpr ⟨kd.mn,dW.mpr ⟨dJ,eM⟩,λx hx y hy q=>ncr ?_⟩;rw[dD.mp hy]at q;rw[<-q];exact hx
  .rw[de,dm,t5];rfl
  .rcases eh.mp hx with y|y
   .exact .inl y
   .rw[dD.mp y];exact .inr ⟨(sR p1).mpr rfl,(sN p1).mpr (.inl rfl)⟩
  .rcases eh.mp hx with y|y
   .exact kd.ms x y
   .rw[dD.mp y];exact k.cr
 | engaged z=>exact xg (V':=qo V1 (.over i "engaged")) wf hc (.inr rfl) (by decide) (rH (V:=qR V1 _) hc) wf.nx
 | barred=>exact xg (V':=qo V1 (.over i "barred")) wf hc (.inr rfl) (by decide) (rH (V:=qR V1 _) hc) wf.nx
 | ring ns=>exact xg (V':=qo V1 (.over i "ring")) wf hc (.inr rfl) (by decide) (rH (V:=qR V1 _) hc) wf.nx
def QK{l:pN}{V:qC}{i:Nat}{k:pI}(ok:r6 l)(wf:zR l V (some i))(hk:V.calls[i]?=some k):WF l (qL V (xn l V i)):=by
 have Ya:=wf.ok i k hk;unfold xn;rw[hk];dsimp only[Option.elim];obtain⟨z,hz⟩:∃z,k.way.getLast?=some z:=by
  cases e:k.way.getLast? with
  | none=>exact absurd (gO.mp e) Ya.wy.1
  | some z=>exact⟨z,rfl⟩
 rw[show k.way.getLastD Str.empty=z by rw[io,hz];rfl];have ro:ya l V k.cr (l.nm.length+1) [] (vb l V k.cr z k.way.dropLast):=zh ok _ _ _ _ (Ya.wy.2 z (jd hz)) λx hx=>Ya.wy.2 x (je _ hx);generalize vb l V k.cr z k.way.dropLast=R at ro;obtain⟨e,st⟩:=R;have snm:∀s∈st,s.1∈l.nm:=λs hs=>(ro.nm s hs).elim (λh=>by cases h) id;have w1:=Cy i st none wf snm;have XF:=vn i st none V;rw[rP,rP];dsimp only;have W7:∀V1:qC,zR l V1 (some i)->tQ V V1->WF l (qL V1 (tH l V i e)):=λV1 w s=>by
  rw[<-s.ends];obtain⟨c',e1,e2⟩:=s.at_ hk;have hcr:c'.cr=k.cr:=show c'.bare.cr=k.bare.cr by rw[e2]
  exact SB ok w s.core e1 (by rw[hcr];exact ro.e)
 cases e with
 | ring ns=>
  obtain⟨x,ns',rfl⟩:=gg (show ns≠[]from ro.e);cases hl:st.getLast? with
  | none=>rw[show ud i st (.ring (x::ns'))=[]by unfold ud;dsimp only;rw[hl];rfl];exact W7 _ w1 XF
  | some s0=>rw[show ud i st (.ring (x::ns'))=[.leg ⟨i,s0.1,x,s0.1⟩]by unfold ud;dsimp only;rw[hl];rfl];exact W7 _ (HZ (v:=⟨i,s0.1,x,s0.1⟩) w1 (ro.wy _ rfl x dU)) (XF.trans (zt _ _))
 | rings _ _=>exact W7 _ w1 XF
 | waits _=>exact W7 _ w1 XF
 | breaks _=>exact W7 _ w1 XF
 | engaged _=>exact W7 _ w1 XF
 | barred=>exact W7 _ w1 XF
def HX{l:pN}{V:qC}{y z:Str}(wf:WF l V)(hy:y∈l.pn)(hz:z∈l.nm)(hi:CW V y)(hf:tV l V y=true):zR l (qL V [.new V.calls.length y,.leg ⟨V.calls.length,y,z,y⟩]) (some V.calls.length):=by
 have e:(qL V [.new V.calls.length y,.leg ⟨V.calls.length,y,z,y⟩]).calls=V.calls++[(zc y).go z]:=by show(V.calls++[zc y]).modify V.calls.length _=_;rw[tP (c:=zc y) (by rw[eZ (dz _),ia];rfl),ky _ _ (dz _),ia];rfl
 refine wf.add e ⟨.inl ⟨rfl,rfl,rfl,rfl,λ_=>rfl,(λh=>by cases h)⟩,hy,(λx h=>by cases h),(λx h=>by cases h),eM,eM,(λh=>by cases h),eX _ _,λx h=>by rw[dD.mp h];exact hz⟩ (λx h=>?_) (λx h=>?_) (λx=>?_) wf.nx
 .rw[(sR (c:=(zc y).go z) rfl).mp h];exact hi
 .rcases(sN (c:=(zc y).go z) rfl).mp h with g|g
  .rw[g];exact Ei hf
  .cases g
 .cases q:((zc y).go z).mX x with
  | false=>rfl
  | true=>exact absurd (sA.mp q).1 (show("rings":Str)≠"waits" by decide)
def ME{V:qC}{y z:Str}:∃k,(qL V [.new V.calls.length y,.leg ⟨V.calls.length,y,z,y⟩]).calls[V.calls.length]?=some k:=by
 have:V.calls.length<(qL V [.new V.calls.length y,.leg ⟨V.calls.length,y,z,y⟩]).calls.length:=by show V.calls.length<((V.calls++[zc y]).modify _ _).length;rw[gj,de];exact fJ _
 exact⟨_,cZ this⟩
def Eu{l:pN}{V:qC}{i:Nat}{c:pI}{x y:Str}{fs:List Nat}(wf:WF l V)(hc:V.calls[i]?=some c)(hs:c.st="rings")(hy:y∈l.nm):zR l (qL V [.asks i x fs,.quiet i,.leg ⟨i,x,y,x⟩]) (some i):=by
 refine HZ (v:=⟨i,x,y,x⟩) ?_ hy;have k:=wf.ok i c hc;have w1:WF l (qo V (.asks i x fs)):=Ey wf;have sh:c.ms=[]/\c.hd=none/\c.wd=none:=by
  rcases k.sh with g|⟨_,g|g|⟨_,g⟩|g⟩
  .exact⟨g.2.1,g.2.2.1,g.2.2.2.1⟩
  all_goals(rw[hs]at g;exact absurd g.1 (by decide))
 refine w1.set (i:=i) (c:=c) (c':=c.nS) (rH (V:=qR (qo V (.asks i x fs)) _) hc) hc (λj hj=>(Bm j hj).symm) ?_ (λx g=>.inl ?_) (λx g=>.inl ?_) (λx g=>?_) wf.nx
 .rw[fE];exact⟨.inl ⟨hs,sh.1,sh.2.1,sh.2.2,λ_=>rfl,(λh=>by cases h)⟩,k.cr,(λx h=>by cases h),k.ms,eM,k.mn,(λh=>by cases h),k.wy⟩
 .exact(sR hs).mpr ((sR (c:=c.nS) hs).mp g)
 .rcases(sN (c:=c.nS) hs).mp g with y|y
  .exact(sN hs).mpr (.inl y)
  .cases y
 .have:=(sA.mp g).1;rw[show c.nS.st="rings" from hs]at this;exact absurd this (by decide)
inductive Vi(l:pN)(V:qC)(i:Nat):List Nat->Prop
 | no:Vi l V i []
 | on (c:pI) (k:Nat) (r:List Nat) (b:Bool) (x y:Str) (n:Int):V.calls[i]?=some c->c.st="rings"->l.mS[k]?=some (b,.silent x y n)->c.way.getLast?=some x->y∈l.nm->Vi l V i (k::r)
def Hx{l:pN}{V:qC}{i:Nat}(ok:r6 l):Vi l V i (zb l V i):=by
 unfold zb;cases e:V.calls[i]? with
 | none=>exact .no
 | some c=>
  dsimp only[Option.elim];by_cases hs:(c.st=="rings")=true
  .rw[dh hs];cases q:Ik l V (Gd c)with
   | nil=>exact .no
   | cons k r=>
    obtain⟨⟨b,w⟩,e1,e2⟩:=Fl (i:=k) (by rw[q];exact dU);cases w with
    | silent x y n=>unfold Gd at e2;rw[dX,fk]at e2;exact .on c k r b x y n e (eq_of_beq hs) e1 e2.1 (CF ok (fA e1) (z:=Str.empty) rfl)
    | _=>cases e2
  .rw[df hs];exact .no
def Ao{l:pN}{V:qC}{i k:Nat}{r:List Nat}{b:Bool}{x y:Str}{n:Int}(h:l.mS[k]?=some (b,.silent x y n)):uc l V i (k::r)=[.asks i x (k::r),.quiet i,.leg ⟨i,x,y,x⟩]++xn l (qL V [.asks i x (k::r),.quiet i,.leg ⟨i,x,y,x⟩]) i:=by unfold uc;simp only[List.head?_cons,mf,h]
def FL{V:qC}{i:Nat}{c:pI}{x y:Str}{fs:List Nat}(h:V.calls[i]?=some c):(qL V [.asks i x fs,.quiet i,.leg ⟨i,x,y,x⟩]).calls[i]?=some (c.nS.go y):=by show((V.calls.modify i pI.nS).modify i _)[i]?=_;rw[jf,jf,h];simp
def Jr{l:pN}{V:qC}{i:Nat}(ok:r6 l)(wf:WF l V):WF l (qL V (uc l V i (zb l V i))):=by
 have d:=Hx (V:=V) (i:=i) ok;generalize zb l V i=fs at d;cases d with
 | no=>exact wf
 | on c k r b x y n hc hs hk hw hy=>rw[Ao hk,rP];exact QK ok (Eu wf hc hs hy) (FL hc)
theorem E7{l:pN}(ok:r6 l):∀(is:List Nat) {V:qC},WF l V->WF l (qL V (rZ l is V))
 | [],_,wf=>wf
 | i::r,V,wf=>by unfold rZ;rw[rP];exact E7 ok r (Jr ok wf)
theorem Eb(l:pN)(i:Nat):∀(is:List Nat) (V:qC),rZ l (is++[i]) V=rZ l is V++uc l (qL V (rZ l is V)) i (zb l (qL V (rZ l is V)) i)
 | [],V=>by show uc l V i _++[]=[]++_;rw[fh];rfl
 | j::r,V=>by show uc l V j _++rZ l (r++[i]) _=(uc l V j _++rZ l r _)++_;rw[Eb l i r,fz,show rZ l (j::r) V=uc l V j (zb l V j)++rZ l r (qL V (uc l V j (zb l V j)))from rfl,rP]
def ua{ss:QQQ}{x y:Str}:y∈rR ss x↔y∈ss/\y≠x:=by unfold rR;rw[fL,gL,gx]
theorem xS{x:Str}:∀{ss:QQQ},ss.Nodup->x∈ss->(rR ss x).length+1=ss.length
 | [],_,h=>by cases h
 | y::r,nd,h=>by
  have nd:=dW.mp nd;unfold rR;rw[gQ];by_cases e:y=x
  .subst e;rw[show(!(y==y))=false by simp,df (by decide),kS.mpr λz hz=>by
    have:z≠y:=λq=>nd.1 (q ▸ hz)
    simpa using this]
   rfl
  .have h:x∈r:=by
    rcases dv.mp h with q|q
    .exact absurd q.symm e
    .exact q
   rw[dh (by simpa using e)];have:=xS nd.2 h;unfold rR at this;rw[eD,eD,this]
def Pw{l:pN}{V:qC}{i:Nat}{c:pI}{x:Str}(wf:WF l V)(hc:V.calls[i]?=some c)(hl:c.nJ x=true):WF l (qL V (wG V x i)):=by
 have k:=wf.ok i c hc;unfold wG;rw[hc];dsimp only[Option.elim];by_cases h1:c.ng x=true
 .rw[dh h1];exact xg (V':=qo V (.over i "left")) wf hc (.inl rfl) (by decide) (rH (V:=qR V _) hc) wf.nx
 .rw[df h1];have e1:(qo V (.leaves i x)).calls=V.calls.set i (c.drop x):=rH (V:=qR V _) hc;by_cases h2:hasS c.at_ x=true
  .rw[dh h2];by_cases h3:rR c.at_ x=[]
   .rw[dh h3];refine xg (V':=qo (qo V (.leaves i x)) (.over i "refused")) wf hc (.inl rfl) (by decide) (w:="refused") ?_ wf.nx;have h4:(qo V (.leaves i x)).calls[i]?=some (c.drop x):=by rw[e1,eO (c9.mp hc).1]
    show(xD (qR (qo V (.leaves i x)) _) i _).calls=_;rw[rH (V:=qR (qo V (.leaves i x)) _) h4];show(qo V (.leaves i x)).calls.set i _=_;rw[e1,iY];rfl
   .rw[df h3];have hs:c.st="rings"/\c.ms=[]/\c.hd=none/\c.wd=none:=by
     rcases k.sh with g|⟨_,g|g|⟨_,g⟩|g⟩
     .exact⟨g.1,g.2.1,g.2.2.1,g.2.2.2.1⟩
     .exfalso;have:=xS k.an (qU.mp h2);rw[g.2.2.2.2]at this;exact h3 (gw.mp (by omega))
     .rw[g.2.2.2.2]at h2;cases h2
     .rw[g.2.2.2.2.2]at h2;cases h2
     .rw[g.2.2.2.1]at h2;cases h2
    refine wf.set (V':=qo V (.leaves i x)) (c':=c.drop x) e1 hc (λ_ _=>rfl) ⟨.inl ⟨hs.1,by show rR c.ms x=[];rw[hs.2.1];rfl,hs.2.2.1,hs.2.2.2,(λh=>by cases h),λ_=>h3⟩,k.cr,λy hy=>k.at_ y (ua.mp hy).1,λy hy=>k.ms y (ua.mp hy).1,k.an.sublist fZ,k.mn.sublist fZ,λhy=>k.ca (ua.mp hy).1,k.wy⟩ (λy g=>?_) (λy g=>?_) (λy g=>?_) wf.nx
    .exact .inl ((sR hs.1).mpr ((sR (c:=c.drop x) hs.1).mp g))
    .refine .inl ((sN hs.1).mpr (((sN (c:=c.drop x) hs.1).mp g).imp id λh=>(ua.mp h).1))
    .have:=(sA.mp g).1;rw[show(c.drop x).st="rings" from hs.1]at this;exact absurd this (by decide)
  .rw[df h2];by_cases h3:2<c.ms.length
   .rw[dh h3];have hx:x∈c.ms:=by unfold pI.nJ at hl;rw[dO.mpr h1,dO.mpr h2,fP,fP]at hl;exact qU.mp hl
    have hs:c.st="talks"/\c.ms.length=3/\c.hd=none/\c.wd=none/\c.at_=[]:=by
     rcases k.sh with g|⟨_,g|g|⟨_,g⟩|g⟩
     .rw[g.2.1]at h3;cases h3
     .rw[g.2.1]at h3;cases h3
     .exact⟨g.1,g.2.1.elim (λq=>by omega) id,g.2.2⟩
     .omega
     .rw[g.2.1]at h3;cases h3
    have dl:=xS k.mn hx;refine wf.set (V':=qo V (.leaves i x)) (c':=c.drop x) e1 hc (λ_ _=>rfl) ⟨.inr ⟨rfl,.inr (.inl ⟨hs.1,.inl (by show(rR c.ms x).length=2;omega),hs.2.2.1,hs.2.2.2.1,by show rR c.at_ x=[];rw[hs.2.2.2.2];rfl⟩)⟩,k.cr,λy hy=>k.at_ y (ua.mp hy).1,λy hy=>k.ms y (ua.mp hy).1,k.an.sublist fZ,k.mn.sublist fZ,λhy=>k.ca (ua.mp hy).1,k.wy⟩ (λy g=>?_) (λy g=>?_) (λy g=>?_) wf.nx
    .exact .inl ((tN hs.1).mpr (ua.mp ((tN (c:=c.drop x) hs.1).mp g)).1)
    .exact .inl ((sX (.inl hs.1)).mpr (ua.mp ((sX (c:=c.drop x) (.inl hs.1)).mp g)).1)
    .have:=(sA.mp g).1;rw[show(c.drop x).st="talks" from hs.1]at this;exact absurd this (by decide)
   .rw[df h3];exact xg (V':=qo V (.over i "done")) wf hc (.inl rfl) (by decide) (rH (V:=qR V _) hc) wf.nx
def Kv{l:pN}{V:qC}{i:Nat}{c:pI}{x:Str}(wf:WF l V)(hc:V.calls[i]?=some c)(hx:hasS c.at_ x=true)(hi:CW V x)(hf:c.mX x=true->tV l V x=true):WF l (qo V (.talks i [c.cr,x])):=by
 have k:=wf.ok i c hc;have hx:=qU.mp hx;have Xm:c.cr≠x:=λq=>k.ca (q ▸ hx);have hs:(c.st="rings"\/c.st="waits")/\c.wd=none:=by
  rcases k.sh with g|⟨_,g|g|⟨_,g⟩|g⟩
  .exact⟨.inl g.1,g.2.2.2.1⟩
  .exact⟨.inr g.1,g.2.2.2.1⟩
  .rw[g.2.2.2.2]at hx;cases hx
  .rw[g.2.2.2.2.2]at hx;cases hx
  .rw[g.2.2.2.1]at hx;cases hx
 have ec:Bt c c.cr/\c.hasB c.cr=true:=by
  rcases hs.1 with g|g
  .exact⟨(sR g).mpr rfl,(sN g).mpr (.inl rfl)⟩
  .exact⟨(DQ g).mpr rfl,(DU g).mpr rfl⟩
 refine wf.set (V':=qo V (.talks i [c.cr,x])) (c':=c.nP [c.cr,x]) (rH (V:=qR V _) hc) hc (λ_ _=>rfl) ⟨.inr ⟨rfl,.inr (.inl ⟨rfl,.inl rfl,rfl,hs.2,rfl⟩)⟩,k.cr,(λy h=>by cases h),(λy h=>?_),eM,?_,(λh=>by cases h),k.wy⟩ (λy g=>?_) (λy g=>?_) (λy g=>?_) wf.nx
 .rcases dv.mp h with g|g
  .rw[g];exact k.cr
  .rw[dD.mp g];exact k.at_ x hx
 .exact dW.mpr ⟨λh=>Xm (dD.mp h),dW.mpr ⟨dJ,eM⟩⟩
 .rcases dv.mp ((tN (c:=c.nP [c.cr,x]) rfl).mp g)with h|h
  .rw[h];exact .inl ec.1
  .rw[dD.mp h];exact .inr hi
 .rcases dv.mp ((sX (c:=c.nP [c.cr,x]) (.inl rfl)).mp g)with h|h
  .rw[h];exact .inl ec.2
  .rw[dD.mp h];rcases hs.1 with q|q
   .exact .inl ((sN q).mpr (.inr hx))
   .exact .inr (Ei (hf (sA.mpr ⟨q,hx⟩)))
 .exact absurd (sA.mp g).1 (show("talks":Str)≠"waits" by decide)
def Ai{c:pI}{x:Str}:c.ni x=true↔c.st="talks"/\x∈c.ms/\c.ms.length=2:=by unfold pI.ni pI.m9;rw[dX,dX,fk,qU,fk,and_assoc]
def MW{l:pN}{c:pI}(k:vU l false c)(h:c.st="talks"):c.hd=none/\c.wd=none/\c.at_=[]:=by
 rcases k.sh with g|⟨_,g|g|⟨_,g⟩|g⟩
 .rw[h]at g;exact absurd g.1 (by decide)
 .rw[h]at g;exact absurd g.1 (by decide)
 .exact g.2.2
 .rw[h]at g;exact absurd g.1 (by decide)
 .rw[h]at g;exact absurd g.1 (by decide)
def E4{l:pN}{c:pI}{x:Str}(k:vU l false c)(h:c.hd=some x):c.st="held"/\c.ms.length=2/\x∈c.ms/\c.wd=none/\c.at_=[]:=by
 rcases k.sh with g|⟨_,g|g|⟨y,g⟩|g⟩
 .rw[h]at g;cases g.2.2.1
 .rw[h]at g;cases g.2.2.1
 .rw[h]at g;cases g.2.2.1
 .have e:=g.2.2.1;rw[h]at e;cases e;exact⟨g.1,g.2.1,g.2.2.2⟩
 .rw[h]at g;cases g.2.2.1
def Pk{l:pN}{V:qC}{i:Nat}{c:pI}{x:Str}(wf:WF l V)(hc:V.calls[i]?=some c)(hx:c.ni x=true):WF l (qo V (.held i x)):=by
 have k:=wf.ok i c hc;obtain⟨h1,h2,h3⟩:=Ai.mp hx;obtain⟨s1,s2,s3⟩:=MW k h1;refine wf.set (V':=qo V (.held i x)) (c':=c.hold x) (rH (V:=qR V _) hc) hc (λ_ _=>rfl) ⟨.inr ⟨rfl,.inr (.inr (.inl ⟨x,rfl,h3,rfl,h2,s2,s3⟩))⟩,k.cr,k.at_,k.ms,k.an,k.mn,k.ca,k.wy⟩ (λy g=>.inl ?_) (λy g=>.inl ?_) (λy g=>?_) wf.nx
 .exact(tN h1).mpr ((CB (c:=c.hold x) rfl).mp g).1
 .exact(sX (.inl h1)).mpr ((sX (c:=c.hold x) (.inr rfl)).mp g)
 .exact absurd (sA.mp g).1 (show("held":Str)≠"waits" by decide)
def Pi{l:pN}{V:qC}{i:Nat}{c:pI}{x:Str}(wf:WF l V)(hc:V.calls[i]?=some c)(hx:c.hd=some x)(hi:CW V x):WF l (qo V (.talks i c.ms)):=by
 have k:=wf.ok i c hc;obtain⟨h1,h2,h3,h4,h5⟩:=E4 k hx;refine wf.set (V':=qo V (.talks i c.ms)) (c':=c.nP c.ms) (rH (V:=qR V _) hc) hc (λ_ _=>rfl) ⟨.inr ⟨rfl,.inr (.inl ⟨rfl,.inl h2,rfl,h4,rfl⟩)⟩,k.cr,(λy h=>by cases h),k.ms,eM,k.mn,(λh=>by cases h),k.wy⟩ (λy g=>?_) (λy g=>.inl ?_) (λy g=>?_) wf.nx
 .have g:=(tN (c:=c.nP c.ms) rfl).mp g;by_cases e:y=x
  .rw[e];exact .inr hi
  .exact .inl ((CB h1).mpr ⟨g,λq=>e (dw (q.symm.trans hx))⟩)
 .exact(sX (.inr h1)).mpr ((sX (c:=c.nP c.ms) (.inl rfl)).mp g)
 .exact absurd (sA.mp g).1 (show("talks":Str)≠"waits" by decide)
def D4{c:pI}{x:Str}(nd:c.ms.Nodup)(h2:c.ms.length=2)(hx:x∈c.ms):qD c x∈c.ms/\qD c x≠x:=by
 have dl:=xS nd hx;obtain⟨y,r,e⟩:=List.exists_cons_of_length_pos (show 0<(rR c.ms x).length by omega);have hm:y∈rR c.ms x:=by rw[e];exact dU
 unfold qD;rw[e];exact ua.mp hm
def Jg{l:pN}{V:qC}{i j:Nat}{c d:pI}{w x:Str}(wf:WF l V)(hc:V.calls[i]?=some c)(hd:V.calls[j]?=some d)(h1:c.hd=some x)(h2:d.ni x=true):i≠j/\WF l (qo V (.merge i j (if (w=="hand")=true then[qD c x,qD d x]else[x,qD c x,qD d x]))):=by
 have k:=wf.ok i c hc;have kd:=wf.ok j d hd;obtain⟨c1,c2,c3,c4,c5⟩:=E4 k h1;obtain⟨d1,d2,d3⟩:=Ai.mp h2;obtain⟨a1,a2⟩:=D4 k.mn c2 c3;obtain⟨b1,b2⟩:=D4 kd.mn d3 d2;have X3:i≠j:=λq=>by subst q;rw[hc]at hd;cases hd;rw[c1]at d1;exact absurd d1 (by decide)
 refine⟨X3,?_⟩;have ea:Bt c (qD c x):=(CB c1).mpr ⟨a1,λq=>a2 (dw (q.symm.trans h1))⟩;have ab:qD c x≠qD d x:=λq=>X3 (wf.un i j c d _ hc hd ea (by rw[q];exact(tN d1).mpr b1));generalize hms:(if (w=="hand")=true then[qD c x,qD d x]else[x,qD c x,qD d x])=ms;have mm:∀y∈ms,y=x\/y=qD c x\/y=qD d x:=λy hy=>by
  rw[<-hms]at hy;split at hy
  .rcases dv.mp hy with g|g
   .exact .inr (.inl g)
   .exact .inr (.inr (dD.mp g))
  .rcases dv.mp hy with g|g
   .exact .inl g
   .rcases dv.mp g with g|g
    .exact .inr (.inl g)
    .exact .inr (.inr (dD.mp g))
 have n2:[qD c x,qD d x].Nodup:=dW.mpr ⟨λh=>ab (dD.mp h),dW.mpr ⟨dJ,eM⟩⟩;refine FU (V':=qo V (.merge i j ms)) (ms:=ms) wf (.inl rfl) hc hd X3 ?_ wf.nx d1 ?_ ?_ (λy hy=>?_) (λy hy=>?_)
 .show(V.calls.modify i _).modify j _=_;rw[tP hc,tP (show(V.calls.set i _)[j]?=some d by rw[eU X3];exact hd)]
 .rw[<-hms];split
  .exact n2
  .refine dW.mpr ⟨λh=>?_,n2⟩;rcases dv.mp h with g|g
   .exact a2 g.symm
   .exact b2 (dD.mp g).symm
 .rw[<-hms];split
  .exact .inl rfl
  .exact .inr rfl
 .rcases mm y hy with g|g|g
  .rw[g];exact .inl d2
  .rw[g];exact .inr ⟨ea,(sX (.inr c1)).mpr a1⟩
  .rw[g];exact .inl b1
 .rcases mm y hy with g|g|g
  .rw[g];exact k.ms x c3
  .rw[g];exact k.ms _ a1
  .rw[g];exact kd.ms _ b1
def R7{V:qC}{i:Int}(h:zr V.calls.length i=true):∃c,V.calls[i.toNat]?=some c:=by unfold zr at h;rw[dX,eC,eC]at h;exact⟨_,cZ (by omega)⟩
def FE{V:qC}{x:Str}{b:Bool}(h:(if ((uH V x).isNone&&b)=true then some ("full":Str)else uH V x)=none):uH V x=none/\b=false:=by
 cases e:uH V x with
 | some w=>rw[e]at h;cases h
 | none=>
  rw[e]at h;cases b with
  | true=>cases h
  | false=>exact⟨rfl,rfl⟩
inductive Ee(l:pN)(V:qC)(x:Str):Str->List Int->Prop
 | answer (i:Int) (c:pI):0<=i->V.calls[i.toNat]?=some c->hasS c.at_ x=true->CW V x->(c.mX x=true->tV l V x=true)->Ee l V x "answer" [i]
 | hang (i:Int) (c:pI):0<=i->V.calls[i.toNat]?=some c->c.nJ x=true->Ee l V x "hang" [i]
 | hold (i:Int) (c:pI):0<=i->V.calls[i.toNat]?=some c->c.ni x=true->Ee l V x "hold" [i]
 | back (i:Int) (c:pI):0<=i->V.calls[i.toNat]?=some c->c.hd=some x->CW V x->Ee l V x "back" [i]
 | two (w:Str) (i j:Int) (c d:pI):0<=i->0<=j->w="hand"\/w="join"->V.calls[i.toNat]?=some c->V.calls[j.toNat]?=some d->c.hd=some x->d.ni x=true->Ee l V x w [i,j]
def Ho{l:pN}{V:qC}{w x:Str}{ns:List Int}(f:(um.num w x ns).nK)(h:xu l V (.num w x ns)=none):x∈l.pn/\Ee l V x w ns:=by
 have hp:hasS l.pn x=true:=by
  cases q:hasS l.pn x with
  | true=>rfl
  | false=>unfold xu at h;dsimp only at h;rw[dh q]at h;cases h
 refine⟨qU.mp hp,?_⟩;unfold xu at h;dsimp only at h;rw[df (by rw[hp];decide)]at h;unfold MI at h;cases q1:ns.all (zr V.calls.length)with
 | false=>rw[dh q1]at h;cases h
 | true=>
 rw[df (by rw[q1];decide)]at h;cases q2:IU w x (tM V ns)with
 | false=>rw[dh q2]at h;cases h
 | true=>
 rw[df (by rw[q2];decide)]at h;have z:∀i∈ns,0<=i/\∃c,V.calls[i.toNat]?=some c:=λi hi=>by have g:=eG.mp q1 i hi;refine⟨?_,R7 g⟩;unfold zr at g;rw[dX,eC]at g;exact g.1
 rcases f with⟨fw,fl⟩|⟨fw,fl⟩
 .match ns,fl with
  | [i],_=>
   obtain⟨hi,c,hc⟩:=z i dU;have ec:tM V [i]=[c]:=by unfold tM;rw[fY,hc];rfl
   rw[ec]at h q2;rcases fw with rfl|rfl|rfl|rfl
   .rw[df (by decide)]at h;obtain⟨h1,h2⟩:=FE h;refine .answer i c hi hc q2 (Ek h1) λhw=>?_;have h2:(c.mX x&&!(tV l V x))=false:=h2;rw[hw]at h2
    simpa using h2
   .exact .hang i c hi hc q2
   .exact .hold i c hi hc q2
   .rw[df (by decide)]at h;exact .back i c hi hc (eq_of_beq q2) (Ek (FE h).1)
 .match ns,fl with
  | [i,j],_=>
   obtain⟨hi,c,hc⟩:=z i dU;obtain⟨hj,d,hd⟩:=z j (dH _ dU);have ec:tM V [i,j]=[c,d]:=by unfold tM;rw[fY,hc];dsimp only;rw[fY,hd];rfl
   rw[ec]at q2;have q3:((c.hd==some x)&&d.ni x)=true:=by rcases fw with rfl|rfl<;>exact q2
   rw[dX]at q3;exact .two w i j c d hi hj fw hc hd (eq_of_beq q3.1) q3.2
def FQ{l:pN}{V:qC}{y z:Str}(h:xu l V (.call y z)=none):y∈l.pn/\z∈l.nm/\CW V y/\tV l V y=true:=by
 unfold xu at h;dsimp only at h;cases q:hasS l.pn y with
 | false=>rw[dh q]at h;cases h
 | true=>
 rw[df (by rw[q];decide)]at h;unfold GT at h;cases q1:hasS l.nm z with
 | false=>rw[dh q1]at h;cases h
 | true=>
 rw[df (by rw[q1];decide)]at h;obtain⟨h1,h2⟩:=FE h;exact⟨qU.mp q,qU.mp q1,Ek h1,by simpa using h2⟩
def T6{l:pN}{V:qC}{b:Bool}{i:Int}(h:xu l V (.sw b i)=none):0<=i/\i.toNat<V.on.length:=by
 unfold xu Py at h;dsimp only at h;cases q:zr V.on.length i with
 | false=>rw[dh q]at h;cases h
 | true=>unfold zr at q;rw[dX,eC,eC]at q;omega
def zO{V:qC}{w x:Str}{i:Nat}{c:pI}(h:V.calls[i]?=some c):EL V w x i=if (w=="answer")=true then .talks i [c.cr,x]else if (w=="hold")=true then .held i x else .talks i c.ms:=by unfold EL;rw[h];rfl
def HP{V:qC}{w x:Str}{i j:Nat}{c d:pI}(h:V.calls[i]?=some c)(g:V.calls[j]?=some d):F8 V w x i j=.merge i j (if (w=="hand")=true then[qD c x,qD d x]else[x,qD c x,qD d x]):=by unfold F8;rw[h,g];rfl
def UI{l:pN}{V:qC}{e:um}(ok:r6 l)(wf:WF l V)(f:e.nK)(h:xu l V e=none):WF l (qL V (va l V e)):=by
 cases e with
 | call y z=>obtain⟨h1,h2,h3,h4⟩:=FQ h;obtain⟨k,hk⟩:=ME (V:=V) (y:=y) (z:=z);show WF l (qL V (_++xn l _ _));rw[rP];exact QK ok (HX wf h1 h2 h3 h4) hk
 | turn=>exact E7 ok _ (E2 wf)
 | sw b i=>exact TK wf
 | num w x ns=>
  obtain⟨_,n⟩:=Ho f h;cases n with
  | answer i c hi hc h1 h2 h3=>show WF l (qo V (EL V "answer" x i.toNat));rw[zO hc];exact Kv wf hc h1 h2 h3
  | hang i c hi hc h1=>exact Pw wf hc h1
  | hold i c hi hc h1=>show WF l (qo V (EL V "hold" x i.toNat));rw[zO hc];exact Pk wf hc h1
  | back i c hi hc h1 h2=>show WF l (qo V (EL V "back" x i.toNat));rw[zO hc];exact Pi wf hc h1 h2
  | two _ i j c d hi hj hw hc hd h1 h2=>show WF l (qo V (F8 V w x i.toNat j.toNat));rw[HP hc hd];exact(Jg wf hc hd h1 h2).2
def P3(a:Ad):rC:=λds M Q=>NB λM0 b A V l c n x i k=>ds=[.ref b,.str x,.int ((i:Nat):Int)]/\uE a M0 M b A V l c n/\c<=1000000/\n<=7000000/\V.calls[i]?=some k/\∀M' A',uE a M0 M' b A' (qL V (wG V x i)) l c (n+2)->qW A M A' M'->Q .mW M'
def Qa(a:Ad):rC:=λds M Q=>Kt λA V l L k c=>ds=[.ref A.b,.ref (rJ.p k)]/\Rd a M A V l/\rX a M L k c/\Q (wm (Ik l V (Gd c))) M
def NZ(a:Ad):rC:=λds M Q=>NB λM0 b A V l c n i k r=>ds=[.ref b,.int ((i:Nat):Int),wm (k::r)]/\uE a M0 M b A V l c n/\c<=1000000/\n<=6900000/\WF l V/\Vi l V i (k::r)/\∀M' A',uE a M0 M' b A' (qL V (uc l V i (k::r))) l c (n+33)->qW A M A' M'->Q .mW M'
def Qy(a:Ad):rC:=λds M Q=>Th λM0 b A V l c n=>ds=[.ref b]/\uE a M0 M b A V l c n/\c<=10000/\n<=6000000/\WF l V/\∀M' A',uE a M0 M' b A' (qL V (Fh l V)) l c (n+1+33*c)->qW A M A' M'->Q .mW M'
def Sf{a:Ad}{M:Mp}{L:QXQ}{k:rJ}{c:pI}{v:Wi}{r:Addr}{Q:DK}(h:M r=some (.ins (v.cls a) v.nR))(hk:rX a M L k c)(q:Q (.bl (Gd c v)) M):LK a v [.ref r,.ref k.p] M Q:=by
 cases v with
 | silent x y n=>exact⟨r,L,k,c,rfl,h,hk,q⟩
 | _=>exact⟨_,_,rfl,q⟩
def ON:Fq P w K mg base 4 a.a7 (P3 a):=by
 refine fq G.a7.toDG Cu (λr u=>⟨_,(pC (pR 3 Cu (pQ (pH v0) U2))
 (pE (pV (uR (qe U3 G.e.toCls G.U (BR G) r (qr U1)))
 (pE (pU (qe v0 G.c.toCls G.k (rg G) r (qr (pS (rB pG U2 pG))))))
 (pE (pV (pM u U1 (pH U3))
 (pC (pU (qe v0 G.c.toCls G.k (rg G) r (qr (pS (rB pG U2 U1)))))
 (pE (pV (pM u (pY qH rfl G.g qG (qr (pH U3))) pF)
 (pE (pU (qe v0 G.c.toCls G.k (rg G) r (qr (pS (rB pG U2 pG))))))
 pP)))
 (pE (pV (pM u (pY qH rfl G.g qG (qr (pH U3))) pF)
 (pE (pU (qe v0 G.c.toCls G.k (rg G) r (qr (pS (rB pG U2 U1))))))
 (pE (pU (qe v0 G.c.toCls G.k (rg G) r (qr (pS (rB pG U2 pG))))))))))))),?_⟩)
 rintro ds M Q ⟨M0,b,A,V,l,cc,n,x,i,c,rfl,cu,Zu,hn,hc,q⟩
 obtain⟨ka,ci⟩:=cu.call hc;obtain⟨ad,md,h1,h2,h3,h4,n1,n2⟩:=ci.cell;have hi:=(c9.mp hc).1;refine pD cu.at_ (i' rfl (i' rfl (i' ci.bd.ca (i' (rE ci.e1) ?_))));refine pD h1 ⟨rfl,_,⟨rfl,rfl⟩,_,ka,c,x,rfl,ci.cell,?_⟩;unfold wG at q;rw[hc]at q;dsimp only[Option.elim]at q;have over:∀(w0:Str),(∀M' A',uE a M0 M' b A' (qL V [.over i w0]) l cc (n+2)->qW A M A' M'->Q .mW M')->∀(M1:Mp) (A1:tX),A1.b=A.b->qW A M A1 M1->pT a M1 A1 (qo V (.over i w0))->∃W8,qz W8 M1/\Q .mW W8:=λw0 q M1 A1 eb st bd=>⟨M1,.refl,q M1 A1 ((cu.after (e:=.over i w0) hi eb st bd).mono (dz _) (by omega)) st⟩;refine qM (c:=c.ng x) (λg=>?_) (λg=>?_)
 .rw[dh g]at q;exact pD cu.at_ ⟨rfl,_,⟨rfl,rfl⟩,pA rfl,b,A,V,.over i "left",rfl,cu.b,cu.bd,cu.lim Zu (by omega),hi,over "left" q⟩
 rw[df g]at q;refine pD h1 (i' rfl (i' h3 ⟨rfl,qA _,?_⟩));show if inD (.str x) (c.at_.map D.str)=true then _ else _
 rw[sI];refine qM (c:=hasS c.at_ x) (λg2=>?_) (λg2=>?_)
 .rw[dh g2]at q;refine pD cu.at_ ⟨rfl,_,⟨rfl,rfl⟩,pA rfl,b,A,V,.leaves i x,rfl,cu.b,cu.bd,cu.lim Zu (by omega),hi,λM1 A1 eb st bd=>?_⟩;have c1:=cu.after (e:=.leaves i x) hi eb st bd;have Zw:(qo V (.leaves i x)).calls=V.calls.set i (c.drop x):=rH (V:=qR V _) hc;have hc1:(qo V (.leaves i x)).calls[i]?=some (c.drop x):=by rw[Zw,eO hi]
  obtain⟨ad',md',g1,Zq,g3,g4,_⟩:=c1.bd.cs i ka _ (st.2.2.1 i ka ci.e1) hc1;have le0:((((c.drop x).at_.map D.str).length:Int)==0)=decide (rR c.at_ x=[]):=by rw[cX,gp,fk,eC];show((rR c.at_ x).length:Int)=0↔_;rw[<-gw];omega
  refine pD g1 (i' rfl (i' g3 ?_));refine qM (c:=(((c.drop x).at_.map D.str).length:Int)==0) (λg5=>?_) (λg5=>?_)
  .rw[le0,eC]at g5;rw[dh g5]at q;have YG:i<(qo V (.leaves i x)).calls.length:=(c9.mp hc1).1;refine pD c1.at_ ⟨rfl,_,⟨rfl,rfl⟩,pA rfl,b,A1,_,.over i "refused",rfl,c1.b,c1.bd,c1.lim Zu (by omega),YG,λM2 A2 eb2 Xs YA=>?_⟩;exact⟨M2,.refl,q M2 A2 (c1.after (e:=.over i "refused") YG eb2 Xs YA) (st.trans Xs)⟩
  .rw[le0,eC]at g5;rw[df g5]at q;exact⟨M1,.refl,q M1 A1 (c1.mono (dz _) (by omega)) st⟩
 .rw[df g2]at q;refine pD h1 (i' rfl (i' h4 ?_));have lm:decide ((2:Int)<((c.ms.map D.str).length:Int))=decide (2<c.ms.length):=by rw[cX,gp,eC,eC];omega
  refine qM (c:=decide ((2:Int)<((c.ms.map D.str).length:Int))) (λg3=>?_) (λg3=>?_)
  .rw[lm,eC]at g3;rw[dh g3]at q;refine pD cu.at_ ⟨rfl,_,⟨rfl,rfl⟩,pA rfl,b,A,V,.leaves i x,rfl,cu.b,cu.bd,cu.lim Zu (by omega),hi,λM1 A1 eb st bd=>?_⟩;exact⟨M1,.refl,q M1 A1 ((cu.after (e:=.leaves i x) hi eb st bd).mono (dz _) (by omega)) st⟩
  .rw[lm,eC]at g3;rw[df g3]at q;exact pD cu.at_ ⟨rfl,_,⟨rfl,rfl⟩,pA rfl,b,A,V,.over i "done",rfl,cu.b,cu.bd,cu.lim Zu (by omega),hi,over "done" q⟩
def OI:Fq P w K mg base 2 a.a8 (Qa a):=by
 refine fq G.a8.toDG yx (λr u=>⟨_,(pC (pR 2 yx (pH (pH v0)))
 (pE (pJ (qa rh rfl G.l qY (qr (qK rfl (xt (ix:=[none,none,some 2,some 1]) (N':=["i","on","wishes","call"])) (wO rfl G.bV (qr (pH v0))) (vi (n:=2) rfl (qF (qJ 0) (qF (qJ 1) ub))) (vV (W3.b3 (yF (uR U1) (yk (uR (Fk (R:=Gj a) (pQ U2 v0) (U0 G) (r.mono (by first|decide|omega)) (qr U3))))))) v0)))))),?_⟩)
 rintro ds M Q ⟨A,V,l,L,k,c,rfl,rd,hk,q⟩
 obtain⟨ph,gr,ws,Yz,pr,gd,rs,i1,i2,i3,i4,i5,i6,i7,i8⟩:=rd.pl;refine pD rd.bd.at_ (i' rfl (pD i1 (i' rfl ?_)));refine pD rd.bd.at_ (i' rfl (i' rd.bd.on ?_));refine II (rest:=[some (.ref ws),some (.ref k.p)]) rd.on rd.ok.w16 rd.bd.on (λi w0 ew y kk hkk=>?_) λp hp=>i' pK ⟨M,.new hp,q⟩;obtain⟨r,e1,e2⟩:=Br i8 ew;exact i' i4 (i' e1 (pD e2 ⟨by cases w0.2<;>rfl,_,⟨w0.2,rfl,rfl⟩,Sf e2 hk hkk⟩))
def NX:Fq P w K mg base 10 a.a9 (NZ a):=by
 refine fq G.a9.toDG B4 (λr u=>⟨_,(pC (pR 3 B4 (B' (R:=MK a) (pQ (pH (pH v0)) (pQ U2 pF)) (RB G) (r.mono (by first|decide|omega))))
 (pC (pU (qe v0 G.c.toCls G.k (rg G) r (qr (pS (qg pG (rB U1 (pQ U3 pF) U2))))))
 (pC (pU (qe v0 G.c.toCls G.k (rg G) r (qr (pS (so pG U1)))))
 (pC (pU (qe v0 G.c.toCls G.k (rg G) r (qr (pS (qg pG (qg U1 (rB (pQ U3 pF) (pQ U3 pF) (pQ U3 pF))))))))
 (pE (pU (pO (I0 G) r G.ab (so v0 U1)))))))),?_⟩)
 rintro ds M Q ⟨M0,b,A,V,l,c,n,i,k,r,rfl,cu,hc,hn,wf,du,q⟩
 obtain⟨ph,gr,ws,Yz,pr,gd,rs,i1,i2,i3,i4,i5,i6,i7,i8⟩:=cu.pl;cases du with
 | on k0 _ _ b0 x y m hk hs hw hl hy=>
  have hi:=(c9.mp hk).1;rw[Ao hw]at q;rw[rP]at q;obtain⟨r0,e1,e2⟩:=Br i8 hw;refine pD cu.at_ (i' rfl (pD i1 (i' rfl (i' (zv _ _) (i' i4 (i' e1 (pD e2 ⟨rfl,_,⟨⟨.silent x y m,rfl⟩,rfl⟩,r0,.silent x y m,rfl,e2,?_⟩)))))));refine pD cu.at_ ⟨rfl,_,⟨rfl,rfl⟩,pA rfl,b,A,V,.asks i x (k::r),rfl,cu.b,cu.bd,cu.lim hc (by omega),trivial,λM1 A1 eb1 XH bd1=>?_⟩;have c1:=cu.after (e:=.asks i x (k::r)) trivial eb1 XH bd1;refine pD c1.at_ ⟨rfl,_,⟨rfl,rfl⟩,pA rfl,b,A1,_,.quiet i,rfl,c1.b,c1.bd,c1.lim hc (by omega),hi,λM2 A2 eb2 Xs YA=>?_⟩;have c2:=c1.after (e:=.quiet i) hi eb2 Xs YA;have XZ:i<(qo (qo V (.asks i x (k::r))) (.quiet i)).calls.length:=by show i<(V.calls.modify i pI.nS).length;rw[gj];exact hi
  refine pD c2.at_ ⟨rfl,_,⟨rfl,rfl⟩,pA rfl,b,A2,_,.leg ⟨i,x,y,x⟩,rfl,c2.b,c2.bd,c2.lim hc (by omega),XZ,λM3 A3 eb3 XC bd3=>?_⟩;have c3:=c2.after (e:=.leg ⟨i,x,y,x⟩) XZ eb3 XC bd3;exact⟨M0,b,A3,_,l,c,n+3,i,_,rfl,c3,hc,by omega,Eu wf hk hs hy,FL hk,λM4 A4 c4 st4=>⟨M4,.refl,q M4 A4 (c4.mono (dz _) (by omega)) (XH.trans (Xs.trans (XC.trans st4)))⟩⟩
def OG:Fq P w K mg base 11 a.ba (Qy a):=by
 refine fq G.ba.toDG tL (λr u=>⟨_,(pC (pU (qe v0 G.c.toCls G.k (rg G) r (qr (pS (qr pG)))))
 (pE (uN fm rfl (wO rfl G.bV (qr (qa ue rfl G.z tO (qr (pH v0))))) (vi (n:=2) rfl (qF (rL 1 tL) (qF (rL 2 tL) ub)))
 (pE (pV (pM u (pH U2) pG)
 (pC (pR 3 tL (pO (OI G) r G.a8 (so v0 U2)))
 (pE (pV (pM u (pY qH rfl G.g qG (qr U3)) pF)
 (pE (pU (pO (NX G) r G.a9 (rB v0 U1 U3))))
 pP)))
 pP))))),?_⟩)
 rintro ds M Q ⟨M0,b,A,V,l,c,n,rfl,cu,hc,hn,wf,q⟩
 refine pD cu.at_ ⟨rfl,_,⟨rfl,rfl⟩,pA rfl,b,A,V,.turn,rfl,cu.b,cu.bd,cu.lim (by omega) (by omega),trivial,λM1 A1 eb st bd=>?_⟩;have c1:=cu.after (e:=.turn) trivial eb st bd;have wf1:=E2 wf;have lv:(qo V .turn).calls.length=V.calls.length:=cX ..;have ev:Fh l V=.turn::rZ l (List.range V.calls.length) (qo V .turn):=rfl;rw[ev,<-lv]at q;have q:∀M' A',uE a M0 M' b A' (qL (qo V .turn) (rZ l (List.range (qo V .turn).calls.length) (qo V .turn))) l c (n+1+33*c)->qW A M A' M'->Q .mW M':=q;have c1:uE a M0 M1 b A1 (qo V .turn) l c (n+1):=c1;generalize qo V .turn=V1 at c1 wf1 q bd;refine pD c1.at_ (i' rfl (i' c1.bd.ca λr hr=>i' pK ?_));have t:=qz.new (c:=.lst (A1.cs.map λk=>D.ref k.p)) hr;have lr:=@pK M1 r (A1.cs.map λk=>D.ref k.p);have nf:=c1.bd.nU hr;have c2:=c1.sub t;have cl:V1.calls.length<=c:=c1.sz.ca;generalize pL M1 r (.lst (A1.cs.map λk=>D.ref k.p))=M2 at t lr c2 ⊢;refine vT (uG 0 (A1.cs.map λk=>D.ref k.p)) (λpre δ M'=>(∃A',uE a M0 M' b A' (qL V1 (rZ l (List.range pre.length) V1)) l c (n+1+33*pre.length)/\qW A1 M2 A' M')/\∃y1 y2 y3,δ=[some (.ref b),y1,y2,y3]) (λpre δ M' j=>?_) _ [] _ _ rfl ⟨⟨A1,c2,.refl⟩,none,none,none,rfl⟩ ?_ ?_
 .obtain⟨⟨A',c3,XC⟩,_⟩:=j;exact sF (XC.1 r _ nf (qm lr))
 .rintro pre d post e δ M' ⟨⟨A',c3,XC⟩,y1,y2,y3,rfl⟩ nx Xg
  rw[de,dS,iZ,Eb,rP]at Xg;have wf3:=E7 cu.ok (List.range pre.length) wf1;generalize qL V1 (rZ l (List.range pre.length) V1)=V3 at c3 wf3 Xg;obtain⟨x,hx,rfl⟩:=Jc e;rw[dF]at hx;cases ek:A1.cs[pre.length]? with
  | none=>rw[ek]at hx;cases hx
  | some k=>
   rw[ek]at hx;have hx:D.ref k.p=x:=dw hx;subst hx;have hp:pre.length<c:=by have:=(c9.mp ek).1;rw[c1.bd.len]at this;omega
   have ek3:=XC.2.2.1 _ k ek;have hi:pre.length<V3.calls.length:=by rw[<-c3.bd.len];exact(c9.mp ek3).1
   have ec:V3.calls[pre.length]?=some V3.calls[pre.length]:=cZ hi;generalize V3.calls[pre.length]=cv at ec;have ca:=c3.bd.cs _ k cv ek3 ec;obtain⟨ad,md,g1,_⟩:=ca;refine⟨rfl,pD g1 (i' rfl ?_)⟩;have hdv:zb l V3 pre.length=if (cv.st=="rings")=true then Ik l V3 (Gd cv)else[]:=by unfold zb;rw[ec];rfl
   have mW:zb l V3 pre.length=[]->∀y1' y2' y3',nx [some (.ref b),y1',y2',y3'] M':=λh0 y1' y2' y3'=>Xg _ _ ⟨⟨A',by rw[h0];exact c3.mono (dz _) (by omega),XC⟩,_,_,_,rfl⟩;have du:=Hx (V:=V3) (i:=pre.length) cu.ok;refine qM (c:=cv.st=="rings") (λg=>?_) (λg=>mW (by rw[hdv,df g]) _ _ _);rw[dh g]at hdv;refine⟨A',V3,l,_,k,cv,by rw[c3.b],c3.rd (by omega) wf3,c3.bd.cs _ k cv ek3 ec,?_⟩;rw[<-hdv];cases hdq:zb l V3 pre.length with
   | nil=>exact mW hdq _ _ _
   | cons k0 r0=>rw[hdq]at du Xg;refine Bd (dZ (by rw[cX];show(0:Int)<((k0::r0).length:Nat);rw[eD];omega)) ?_;exact⟨M0,b,A',V3,l,c,_,pre.length,k0,r0,rfl,c3,by omega,by omega,wf3,du,λM4 A4 c4 st4=>Xg _ _ ⟨⟨A4,c4.mono (dz _) (by omega),XC.trans st4⟩,_,_,_,rfl⟩⟩
 .rintro δ M' ⟨⟨A',c3,XC⟩,y1,y2,y3,rfl⟩
  have hl:(uG 0 (A1.cs.map λk=>D.ref k.p)).length=V1.calls.length:=by rw[vj,cX,c1.bd.len]
  rw[hl]at c3;exact⟨M',.refl,q M' A' (c3.mono (dz _) (by omega)) (st.trans ((qW.sub t).trans XC))⟩
inductive QV(l:pN)(V:qC):um->Ev->Prop
 | sw (b:Bool) (i:Nat):i<V.on.length->QV l V (.sw b (i:Nat)) (.sw b i)
 | answer (x:Str) (i:Nat) (c:pI):V.calls[i]?=some c->QV l V (.num "answer" x [(i:Nat)]) (.talks i [c.cr,x])
 | hold (x:Str) (i:Nat) (c:pI):V.calls[i]?=some c->QV l V (.num "hold" x [(i:Nat)]) (.held i x)
 | back (x:Str) (i:Nat) (c:pI):V.calls[i]?=some c->QV l V (.num "back" x [(i:Nat)]) (.talks i c.ms)
 | two (w x:Str) (i j:Nat) (c d:pI):i≠j->w="hand"\/w="join"->V.calls[i]?=some c->V.calls[j]?=some d->rR c.ms x≠[]->rR d.ms x≠[]->QV l V (.num w x [(i:Nat),(j:Nat)]) (.merge i j (if (w=="hand")=true then[qD c x,qD d x]else[x,qD c x,qD d x]))
def Gc(a:Ad):rC:=λds M Q=>Ha λA V l e ev=>ds=[.ref A.b,um.d e]/\Rd a M A V l/\QV l V e ev/\Q ev.d M
def SG(a:Ad):rC:=λds M Q=>Tb λM0 b A V l c n e=>ds=[.ref b,um.d e]/\uE a M0 M b A V l c n/\c<10000/\n<=5000000/\WF l V/\e.nK/\xu l V e=none/\∀M' A',uE a M0 M' b A' (qL V (va l V e)) l (c+1) (n+40+33*c)->qW A M A' M'->Q .mW M'
def Wv(a:Ad)(M0 M:Mp)(b:Addr)(A:tX)(V:qC)(l:pN)(c n:Nat)(e:um)(Q:DK):Prop:=xu l V e=none->∀M' A' r,uE a M0 M' b A' (qL V (va l V e)) l (c+1) (n+40+33*c)->qW A M A' M'->M' r=none->Q (.ref r) (pL M' r (.lst ((va l V e).map Ev.d)))
def U7(a:Ad):GF:=λds M Q R=>Tb λM0 b A V l c n e=>ds=[.ref b,um.d e]/\uE a M0 M b A V l c n/\c<10000/\n<=5000000/\WF l V/\e.nK/\Wv a M0 M b A V l c n e Q/\(∀w,xu l V e=some w->R a.H (some ("word",.str w)) M)
def Rd.call{a:Ad}{M:Mp}{A:tX}{V:qC}{l:pN}(rd:Rd a M A V l){i:Nat}{c:pI}(e:V.calls[i]?=some c):∃k,A.cs[i]?=some k/\rX a M (A.lists++V.fo) k c:=by
 have hi:i<A.cs.length:=by rw[rd.bd.len];exact(c9.mp e).1
 exact⟨A.cs[i],cZ hi,rd.bd.cs i _ c (cZ hi) e⟩
def yU{i:Int}(h:0<=i):∃m:Nat,i=(m:Int):=eF h
def IC{c:pI}{x:Str}(nd:c.ms.Nodup)(h2:c.ms.length=2)(hx:x∈c.ms):rR c.ms x≠[]:=λz=>by have:=xS nd hx;rw[z]at this;simp only[dM]at this;omega
def KW:Fq P w K mg base 2 a.bb (Gc a):=by
 refine fq G.bb.toDG tq (λr u=>⟨_,(pC (pR 2 tq (pQ U1 pF))
 (pC (pV (pM u U2 (pS (so pG pG)))
 (pE (pJ (pS (so U2 (pQ U1 pF)))))
 pP)
 (pC (pR 3 tq (pQ U1 pF))
 (pC (pR 4 tq (pQ U1 pF))
 (pC (pR 5 tq (pQ (pH v0) v4))
 (pC (pV (pM u U2 pG)
 (pE (pJ (pS (rB pG v4 (pS (so (pH v5) U3))))))
 pP)
 (pC (pV (pM u U2 pG)
 (pE (pJ (pS (rB pG v4 U3))))
 pP)
 (pC (pV (pM u U2 pG)
 (pE (pJ (pS (rB pG v4 (qa rh rfl G.l qY (qr (pH v5)))))))
 pP)
 (pC (pR 6 tq (pQ U1 pF))
 (pC (pR 7 tq (pS (so (qe v5 G.e.toCls G.aq (Gs G) r (qr U3)) (qe (pQ (pH v0) v6) G.e.toCls G.aq (Gs G) r (qr U3)))))
 (pC (pV (pM u U2 pG)
 (pE (pJ (pS (qg pG (rB v4 v6 v7)))))
 pP)
 (pE (pJ (pS (qg pG (rB v4 v6 (qc (pS (qr U3)) v7))))))))))))))))),?_⟩)
 rintro ds M Q ⟨A,V,l,e,ev,rfl,rd,sg,q⟩
 cases sg with
 | sw b i hi=>
  cases b with
  | true=>exact⟨pA rfl,rfl,rfl,pA rfl,M,.refl,q⟩
  | false=>exact⟨pA rfl,rfl,rfl,pA rfl,M,.refl,q⟩
 | answer x i c hc=>obtain⟨k,ek,ca⟩:=rd.call hc;obtain⟨ad,md,h1,h2,h3,h4,n1,n2⟩:=ca;refine⟨pA rfl,rfl,rfl,?_⟩;refine pD rd.bd.at_ (i' rfl (i' rfl (i' rd.bd.ca (i' (rE ek) ?_))));exact pD h1 (i' rfl ⟨pA rfl,pA rfl,M,.refl,q⟩)
 | hold x i c hc=>obtain⟨k,ek,ca⟩:=rd.call hc;refine⟨pA rfl,rfl,rfl,?_⟩;refine pD rd.bd.at_ (i' rfl (i' rfl (i' rd.bd.ca (i' (rE ek) ?_))));exact⟨pA rfl,M,.refl,q⟩
 | back x i c hc=>obtain⟨k,ek,ca⟩:=rd.call hc;obtain⟨ad,md,h1,h2,h3,h4,n1,n2⟩:=ca;refine⟨pA rfl,rfl,rfl,?_⟩;refine pD rd.bd.at_ (i' rfl (i' rfl (i' rd.bd.ca (i' (rE ek) ?_))));exact pD h1 (i' rfl (i' h4 ⟨pA rfl,M,.refl,q⟩))
 | two wd x i j c d X3 hw hc hd nc nd=>
  obtain⟨k,ek,ca⟩:=rd.call hc;obtain⟨k',ek',ca'⟩:=rd.call hd;have ca0:=ca;have ca1:=ca';obtain⟨ad,md,h1,h2,h3,h4,n1,n2⟩:=ca0;obtain⟨ad',md',f1,_⟩:=ca1;obtain⟨y1,r1,e1⟩:=gg nc;obtain⟨y2,r2,e2⟩:=gg nd;have o1:qD c x=y1:=by unfold qD;rw[e1];rfl
  have o2:qD d x=y2:=by unfold qD;rw[e2];rfl
  rw[o1,o2]at q;rcases hw with rfl|rfl
  .refine⟨pA rfl,rfl,rfl,?_⟩;refine pD rd.bd.at_ (i' rfl (i' rfl (i' rd.bd.ca (i' (rE ek) ?_))));refine pD h1 ⟨rfl,_,⟨rfl,rfl⟩,_,k,c,x,y1,r1,rfl,ca,(rd.ms c (rm hc)).2,e1,?_⟩;refine pD rd.bd.at_ (i' rfl (i' rfl (i' rd.bd.ca (i' (rE ek') ?_))));refine pD f1 ⟨rfl,_,⟨rfl,rfl⟩,_,k',d,x,y2,r2,rfl,ca',(rd.ms d (rm hd)).2,e2,?_⟩;exact⟨pA rfl,pA rfl,M,.refl,q⟩
  .refine⟨pA rfl,rfl,rfl,?_⟩;refine pD rd.bd.at_ (i' rfl (i' rfl (i' rd.bd.ca (i' (rE ek) ?_))));refine pD h1 ⟨rfl,_,⟨rfl,rfl⟩,_,k,c,x,y1,r1,rfl,ca,(rd.ms c (rm hc)).2,e1,?_⟩;refine pD rd.bd.at_ (i' rfl (i' rfl (i' rd.bd.ca (i' (rE ek') ?_))));refine pD f1 ⟨rfl,_,⟨rfl,rfl⟩,_,k',d,x,y2,r2,rfl,ca',(rd.ms d (rm hd)).2,e2,?_⟩;exact⟨pA rfl,pA rfl,eX _ _,by show 1+2<=sizeLine;have hz:=dN;omega,pA rfl,M,.refl,q⟩
def SZ:Fq P w K mg base 12 a.bc (SG a):=by
 refine fq G.bc.toDG MJ (λr u=>⟨_,(pC (pR 2 MJ (pQ U1 pF))
 (pE (pV (pM u U2 pG)
 (pE (pU (pO (Nk G) r G.a6 (rB v0 (pQ U1 pF) (pQ U1 pF)))))
 (pE (pV (pM u U2 pG)
 (pE (pU (pO (ON G) r G.a7 (rB v0 (pQ U1 pF) (pQ U1 pF)))))
 (pE (pV (pM u U2 pG)
 (pE (pU (pO (OG G) r G.ba (qr v0))))
 (pE (pU (qe v0 G.c.toCls G.k (rg G) r (qr (pO (KW G) r G.bb (so v0 U1))))))))))))),?_⟩)
 rintro ds M Q ⟨M0,b,A,V,l,c,n,e,rfl,cu,hc,hn,wf,hf,hr,q⟩
 have rd:=cu.rd (by omega) wf;have one:∀(ev:Ev),QV l V e ev->va l V e=[ev]->ev.ok V->ev.nw=0->Ak (M b) λC fs'=>fs'.lookup ("apply":Str)=none/\∃sp,(C=a.c/\sp=vY a)/\Gc a [.ref b,e.d] M λd M1=>sp [.ref b,d] M1 λ_ M'=>∃W8,qz W8 M'/\Q .mW W8:=λev sg he ok h0=>by refine pD cu.at_ ⟨rfl,_,⟨rfl,rfl⟩,A,V,l,e,ev,by rw[cu.b],rd,sg,b,A,V,ev,rfl,cu.b,cu.bd,cu.lim (by omega) (by omega),ok,λM1 A1 eb st bd=>?_⟩;rw[he]at q;have c1:=cu.after ok eb st bd;rw[h0]at c1;exact⟨M1,.refl,q M1 A1 (c1.mono (by omega) (by omega)) st⟩
 cases e with
 | call y z=>obtain⟨h1,h2,h3,h4⟩:=FQ hr;exact⟨M0,b,A,V,l,c,n,y,z,rfl,cu,by omega,by omega,HX wf h1 h2 h3 h4,λM' A' c1 st=>⟨M',.refl,q M' A' (c1.mono (by omega) (by omega)) st⟩⟩
 | turn=>exact⟨M0,b,A,V,l,c,n,rfl,cu,by omega,by omega,wf,λM' A' c1 st=>⟨M',.refl,q M' A' (c1.mono (by omega) (by omega)) st⟩⟩
 | sw b0 i=>
  obtain⟨h1,h2⟩:=T6 hr;obtain⟨i,rfl⟩:=yU h1;cases b0 with
  | true=>exact one (.sw true i) (.sw true i h2) rfl h2 rfl
  | false=>exact one (.sw false i) (.sw false i h2) rfl h2 rfl
 | num wd x ns=>
  obtain⟨hx,no⟩:=Ho hf hr;cases no with
  | answer i c0 hi hc0 h1 h2 h3=>obtain⟨i,rfl⟩:=yU hi;have lt:=(c9.mp hc0).1;exact one (.talks i [c0.cr,x]) (.answer x i c0 hc0) (eV (λev=>[ev]) (zO hc0)) ⟨lt,by show 2<=100;decide⟩ rfl
  | hang i c0 hi hc0 h1=>obtain⟨i,rfl⟩:=yU hi;exact⟨M0,b,A,V,l,c,n,x,i,c0,rfl,cu,by omega,by omega,hc0,λM' A' c1 st=>⟨M',.refl,q M' A' (c1.mono (by omega) (by omega)) st⟩⟩
  | hold i c0 hi hc0 h1=>obtain⟨i,rfl⟩:=yU hi;have lt:=(c9.mp hc0).1;exact one (.held i x) (.hold x i c0 hc0) (eV (λev=>[ev]) (zO hc0)) lt rfl
  | back i c0 hi hc0 h1 h2=>obtain⟨i,rfl⟩:=yU hi;have lt:=(c9.mp hc0).1;exact one (.talks i c0.ms) (.back x i c0 hc0) (eV (λev=>[ev]) (zO hc0)) ⟨lt,(cu.sz.cs c0 (rm hc0)).2.2⟩ rfl
  | two _ i j c0 d0 hi hj hw hc0 hd0 h1 h2=>
   obtain⟨i,rfl⟩:=yU hi;obtain⟨j,rfl⟩:=yU hj;have lt:=(c9.mp hc0).1;have lt':=(c9.mp hd0).1;have X3:=(Jg (w:=wd) wf hc0 hd0 h1 h2).1;have k0:=wf.ok _ c0 hc0;have k1:=wf.ok _ d0 hd0;obtain⟨_,u2,u3,_⟩:=E4 k0 h1;obtain⟨_,v2,v3⟩:=Ai.mp h2;have sg:=QV.two (l:=l) wd x i j c0 d0 X3 hw hc0 hd0 (IC k0.mn u2 u3) (IC k1.mn v3 v2);have ok:(Ev.merge i j (if (wd=="hand")=true then[qD c0 x,qD d0 x]else[x,qD c0 x,qD d0 x])).ok V:=⟨lt,lt',X3,by split;exact(by decide:2<=100);exact(by decide:3<=100)⟩;have he:va l V (.num wd x [(i:Int),(j:Int)])=[.merge i j (if (wd=="hand")=true then[qD c0 x,qD d0 x]else[x,qD c0 x,qD d0 x])]:=eV (λev=>[ev]) (HP hc0 hd0);rcases hw with rfl|rfl
   .exact one _ sg he ok rfl
   .exact one _ sg he ok rfl
def Kq:xo P w K mg base (B1 P w) 1 a.I.f a.I.d a.I.p (wq K "word"):=
 LY G.I.toDG B9 λXc A outer s H E=>EK (OX (pv 0) (pv 1))
def TR:Wu P w K mg base 13 a.L (U7 a):=by
 refine Tt G.L.toDG HR (by walk_at "m") (λ_ _ _ _ _ _ R hr hR=>⟨_,(pC (pR 2 HR (pO (Hs G) hr G.a1 (so v0 U1)))
 (pC (pV (pM (WG hr) U2 sr)
 (pE (J2 G.b4 (Kq G) (hr.mono (by first|decide|omega)) G.I.b G.b5 G.I.at_ rfl G.bW hR (qr U2)))
 pP)
 (pC (pR 3 HR (pY qH rfl G.g qG (qr (pH v0))))
 (pC (pU (pO (SZ G) hr G.bc (so v0 U1)))
 (pE (pJ (rW (pH v0) (sD U3) sS))))))),?_⟩)
 .rintro ds M Q ⟨M0,b,A,V,l,c,n,e,rfl,cu,hc,hn,wf,hf,q,rr⟩
  refine⟨A,V,l,e,by rw[cu.b],cu.rd (by omega) wf,hf,?_⟩;cases er:xu l V e with
  | some w0=>exact⟨_,rfl,rr w0 er⟩
  | none=>
   refine pD cu.at_ (i' rfl (i' cu.bd.lo ?_));refine⟨M0,b,A,V,l,c,n,e,rfl,cu,hc,hn,wf,hf,er,λM' A' c1 st=>?_⟩;refine pD c1.at_ (i' rfl (i' c1.bd.lo λp hp=>?_));have hcut:L3.tZ ((qL V (va l V e)).log.map Ev.d) (some (((V.log.map Ev.d).length:Nat):Int)) none=(va l V e).map Ev.d:=by rw[Bg,dQ,Il _ _ (by rw[de];omega),List.drop_left]
   rw[hcut];exact⟨_,.refl,q er M' A' p c1 st hp⟩
def Ox(a:Ad):rC:=λds M Q=>Tb λM0 b A V l c n e=>ds=[.ref b,um.d e]/\uE a M0 M b A V l c n/\c<10000/\n<=5000000/\WF l V/\e.nK/\Wv a M0 M b A V l c n e Q/\(∀w,xu l V e=some w->Q (.str w) M)
def OV:Fq P w K mg base 14 a.bv (Ox a):=by
 refine fq G.bv.toDG xy (λr u=>⟨_,(pC (pR 2 xy sr)
 (pC (O6 (ix:=2) (i:=3) (K' (TR G) (r.mono (by first|decide|omega)) rfl G.L.mg G.L.toDG.kp G.L.b (so v0 U1)) rfl rfl rfl G.bW xy.nd rfl rfl rfl rfl (by decide))
 (pE (pJ U2)))),?_⟩)
 rintro ds M Q ⟨M0,b,A,V,l,c,n,e,rfl,cu,hc,hn,wf,hf,q,qf⟩
 refine⟨λC y M'=>C=a.H/\M=M'/\∃w,xu l V e=some w/\y=some (("word":Str),D.str w),?_,?_⟩
 .exact⟨M0,b,A,V,l,c,n,e,rfl,cu,hc,hn,wf,hf,λh M' A' r c1 st hm=>⟨_,.refl,q h M' A' r c1 st hm⟩,λw h=>⟨rfl,rfl,w,h,rfl⟩⟩
 .rintro C y M' ⟨rfl,rfl,w,h,rfl⟩
  exact⟨G.b7,G.b6,w,rfl,M,.refl,qf w h⟩
noncomputable def vH(g:uq):Bool:=g.2.1==("turns":Str)
noncomputable def vd(l:pN):List (Str×Int):=(l.groups.filter vH).map λg=>(g.1,0)
noncomputable def V0(p:Addr)(h:Int)(l:pN)(F:QXQ):qC:=⟨p,h,0,[],[],vd l,l.mS.map (·.1),[],F⟩
def FG(a:Ad):rC:=λds M Q=>Ha λb p h F (l:pN)=>ds=[.ref b,.ref p,.int h]/\M b=some (.ins a.c [])/\tz a M p l/\r6 l/\p≠b/\(∀x∈F,∃c,M x=some c)/\∀M' A,A.b=b->sf b M M'->(∀x∈A.foot,x=b\/M x=none)->pT a M' A (V0 p h l F)->Q .mW M'
noncomputable def LO(g:D):Bool:=match g with
 | .tup (_::.str m::_)=>m=="turns"
 | _=>false
noncomputable def QE(d:D):D:=.tup [AS d,.int 0]
def Hu(gs:List uq):((gs.map rq).filter LO).map QE=(gs.filter vH).map λg=>D.tup [.str g.1,.int 0]:=by rw[gZ,eA];rfl
def J0(l:pN):((l.groups.filter vH).map λg=>((Sum.inr g.1:rc),D.int 0))=tF (vd l):=by unfold tF vd;rw[eA];rfl
noncomputable def bF(p:Addr)(h:Int)(ca le nx YB:Addr)(k:Nat):List (Str×D):=List.take (α:=Str×D) k [("plan",.ref p),("hour",.int h),("turn",.int 0),("calls",.ref ca),("legs",.ref le),("nexts",.ref nx),("on",.ref YB)]
def Mi:Fq P w K mg base 1 a.ag (FG a):=by
 refine fq G.ag.toDG Dc (λr u=>⟨_,(pC (qk v0 U1)
 (pC (qk v0 U2)
 (pC (qk v0 pF)
 (pC (qk v0 (qP sG))
 (pC (qk v0 (qP sG))
 (pC (qk v0 (qa (ET rfl) rfl G.bU FT (qr (qK rfl (xt (ix:=[none]) (N':=["group"])) (qI (pH U1)) (qJ 0) (vV (pM u (pQ v0 pF) pG)) (pS (so (pQ v0 pF) pF))))))
 (pC (qk v0 (qa ue rfl G.z tO (qr (pH U1))))
 (pE (qk v0 (qP sG)))))))))),?_⟩)
 rintro ds M Q ⟨b,p,h,F,l,rfl,hb,⟨ph,gr,ws,on,pr,gd,rs,i1,i2,i3,i4,i5,i6,i7,i8⟩,ok,nbp,hF,q⟩
 have hz:=dN;have l2:=ok.g3;refine pD hb ⟨(G.E "plan" rfl),by show 0<1000;decide,?_⟩;have k1:sf b M (pL M b (.ins a.c [("plan",.ref p)])):=.put;have b1:pL M b (.ins a.c [("plan",.ref p)]) b=some (.ins a.c [("plan",.ref p)]):=pX;show uF _ _ _ _ (pL M b (.ins a.c [("plan",.ref p)]));generalize pL M b (.ins a.c [("plan",.ref p)])=N1 at k1 b1 ⊢;refine pD b1 ⟨(G.E "hour" rfl),by show 1<1000;decide,?_⟩;have k2:=k1.trans (sf.put (p:=b) (c:=.ins a.c [("plan",.ref p),("hour",.int h)]));have b2:pL N1 b (.ins a.c [("plan",.ref p),("hour",.int h)]) b=some (.ins a.c [("plan",.ref p),("hour",.int h)]):=pX;show uF _ _ _ _ (pL N1 b (.ins a.c [("plan",.ref p),("hour",.int h)]));generalize pL N1 b (.ins a.c [("plan",.ref p),("hour",.int h)])=N2 at k2 b2 ⊢;refine pD b2 ⟨(G.E "turn" rfl),by show 2<1000;decide,?_⟩;have k3:=k2.trans (sf.put (p:=b) (c:=.ins a.c (bF p h 0 0 0 0 3)));have b3:pL N2 b (.ins a.c (bF p h 0 0 0 0 3)) b=some (.ins a.c (bF p h 0 0 0 0 3)):=pX;show uF _ _ _ _ (pL N2 b (.ins a.c (bF p h 0 0 0 0 3)));generalize pL N2 b (.ins a.c (bF p h 0 0 0 0 3))=N3 at k3 b3 ⊢;clear k1 k2 b1 b2;refine⟨pA rfl,λca hca=>?_⟩;obtain⟨n4,e4,k4,c4,b4⟩:=sY (fs':=(bF p h ca 0 0 0 4)) (c:=.lst []) b3 hca;refine pD e4 ⟨(G.E "calls" rfl),by show 3<1000;decide,?_⟩;show uF _ _ _ _ (pL (pL N3 ca (.lst [])) b (.ins a.c (bF p h ca 0 0 0 4)));generalize pL (pL N3 ca (.lst [])) b (.ins a.c (bF p h ca 0 0 0 4))=N4 at k4 c4 b4 ⊢;have Y7:=k3.trans k4;have z1:M ca=none:=rO k3 b3 hca;have lc4:pf N4 ca=some []:=sF c4;refine⟨pA rfl,λle hle=>?_⟩;obtain⟨n5,e5,k5,c5,b5⟩:=sY (fs':=(bF p h ca le 0 0 5)) (c:=.lst []) b4 hle;refine pD e5 ⟨(G.E "legs" rfl),by show 4<1000;decide,?_⟩;show uF _ _ _ _ (pL (pL N4 le (.lst [])) b (.ins a.c (bF p h ca le 0 0 5)));generalize pL (pL N4 le (.lst [])) b (.ins a.c (bF p h ca le 0 0 5))=N5 at k5 c5 b5 ⊢;have Y8:=Y7.trans k5;have z2:M le=none:=rO Y7 b4 hle;have le5:pf N5 le=some []:=sF c5;have mcl:le≠ca:=λz=>by rw[z,qm lc4]at hle;cases hle
 have lc5:=k5.lst (pZ lc4 b4) lc4;have p5:=Y8 _ _ nbp i1;have g5:=Y8.lst (pZ i3 hb) i3;clear k3 k4 k5 Y7 lc4 c4 c5 e4 e5 b3 b4;refine pD p5 (i' rfl (i' g5 ?_));refine tK (f:=QE) (t:=LO) g5 _ [] _ (by rw[cX];simp only[dM];omega) (λd hd k hk=>?_) (λd hd _ k hk=>?_) λq1 X8=>?_
 .obtain⟨v,_,rfl⟩:=dE.mp hd;exact hk
 .obtain⟨v,_,rfl⟩:=dE.mp hd;exact⟨pA rfl,hk⟩
 rw[d6,Hu];have ZI:=qz.new (c:=.lst ((l.groups.filter vH).map λg=>D.tup [.str g.1,.int 0])) X8;refine i' pK (i' (wZ (λg:uq=>g.1) (λ_=>D.int 0) _) ⟨yI (iC (List.Sublist.map _ fZ) (iC (jG _ _) ok.nd)),λnx Xg=>?_⟩);have z3:M nx=none:=rO Y8 b5 (ZI.none Xg);obtain⟨n6,e6,k6,c6,b6⟩:=sY (fs':=(bF p h ca le nx 0 6)) (c:=.dk ((l.groups.filter vH).map λg=>((Sum.inr g.1:rc),D.int 0))) (ZI _ _ b5) Xg;refine pD e6 ⟨(G.E "nexts" rfl),by show 5<1000;decide,?_⟩;have k6:=ZI.keep.trans k6;have YW:vZ "nexts" (.ref nx) (bF p h ca le 0 0 5)=(bF p h ca le nx 0 6):=rfl;rw[YW];generalize pL (pL (pL N5 q1 (.lst ((l.groups.filter vH).map λg=>D.tup [.str g.1,.int 0]))) nx (.dk ((l.groups.filter vH).map λg=>((Sum.inr g.1:rc),D.int 0)))) b (.ins a.c (bF p h ca le nx 0 6))=N6 at k6 b6 c6 ⊢;have x6:zi N6 nx=some ((l.groups.filter vH).map λg=>((Sum.inr g.1:rc),D.int 0)):=D3 c6;have kk6:=Y8.trans k6;have lc6:=k6.lst (pZ lc5 b5) lc5;have le6:=k6.lst (pZ le5 b5) le5;have p6:=kk6 _ _ nbp i1;have o6:=kk6.lst (pZ i5 hb) i5;clear Y8 k6 lc5 p5 g5 e6 c6;refine pD p6 (i' rfl (i' o6 λYB hon=>?_));have z4:M YB=none:=rO kk6 b6 hon;obtain⟨n7,e7,k7,c7,b7⟩:=sY (fs':=(bF p h ca le nx YB 7)) (c:=.lst (l.mS.map λw=>D.bl w.1)) b6 hon;refine pD e7 ⟨(G.E "on" rfl),by show 6<1000;decide,?_⟩;have YW:vZ "on" (.ref YB) (bF p h ca le nx 0 6)=(bF p h ca le nx YB 7):=rfl;rw[YW];generalize pL (pL N6 YB (.lst (l.mS.map λw=>D.bl w.1))) b (.ins a.c (bF p h ca le nx YB 7))=N7 at k7 b7 c7 ⊢;have kk7:=kk6.trans k7;have lc7:=k7.lst (pZ lc6 b6) lc6;have le7:=k7.lst (pZ le6 b6) le6;have x7:=k7.dk (Cj x6 b6) x6;have lo7:pf N7 YB=some ((l.mS.map (·.1)).map D.bl):=by rw[eA];exact sF c7
 refine⟨pA rfl,λlg ZN=>?_⟩;obtain⟨n8,e8,k8,c8,b8⟩:=sY (fs':=tS (.ref p) h 0 ca le nx YB lg) (c:=.lst []) b7 ZN;refine pD e8 ⟨(G.E "log" rfl),by show 7<1000;decide,_,.refl,?_⟩;have apart:∀{N:Mp} {x y:Addr} {ds:List D},N x=none->pf N y=some ds->x≠y:=λ{N x y ds} h1 h2 z=>by have:=qm h2;rw[<-z,h1]at this;cases this
 have y5:=rO kk7 b7 ZN;refine q _ ⟨b,ca,le,nx,YB,lg,[]⟩ rfl (kk7.trans k8) (λx hx=>?_) ⟨b8,k8.lst (pZ lc7 b7) lc7,k8.lst (pZ le7 b7) le7,?_,k8.lst (pZ lo7 b7) lo7,sF c8,rfl,λi k c e=>by simp at e,?_,dW.mpr ⟨dJ,eM⟩,λx hx=>?_⟩
 rotate_right
 .by_cases z:x=b
  .exact⟨_,by rw[z];exact b8⟩
  .obtain⟨c,e⟩:=hF x hx;exact⟨c,(kk7.trans k8) x c z e⟩
 .have hx:x∈[b,nx,ca,le,YB,lg]:=by
   unfold tX.foot tX.lists at hx
   simpa using hx
  simp only[dv,dJ,fg]at hx;rcases hx with rfl|rfl|rfl|rfl|rfl|rfl
  .exact .inl rfl
  .exact .inr z3
  .exact .inr z1
  .exact .inr z2
  .exact .inr z4
  .exact .inr y5
 .show zi _ nx=some (tF (vd l));rw[<-J0];exact k8.dk (Cj x7 b7) x7
 .have m1:=apart ZN lc7;have m2:=apart ZN le7;have m3:=apart ZN lo7;have m4:=apart hon lc6;have m5:=apart hon le6;show[ca,le,YB,lg].Nodup;simp only[dW,dv,dJ,fg,fN,not_false_eq_true,eM,and_true];exact⟨⟨dR mcl,dR m4,dR m1⟩,⟨dR m5,dR m2⟩,dR m3⟩
def VY{p:Addr}{h:Int}{l:pN}{F:QXQ}(ok:r6 l):WF l (V0 p h l F):=by
 refine⟨λi c e=>by simp[V0]at e,λi j ci cj x e=>by simp[V0]at e,λx hx=>?_,λi j ci cj x e=>by simp[V0]at e,λz hz ht=>?_⟩
 .show((0:Nat):Int)<=xf l x;unfold xf;cases e:l.nz x with
  | none=>exact Int.le_refl _
  | some v=>have:=(ok.po v (gk e)).l1;show(0:Int)<=v.2.1;omega
 .show ∃v,(vd l).find? (λp=>decide (p.1=z))=some v/\_;unfold pN.m7 at ht;cases e:l.group z with
  | none=>rw[e]at ht;exact absurd ht (by decide)
  | some g=>
   rw[e]at ht;have hg:=gk e;have hn:g.1=z:=by simpa using my e
   have hm:((g.1,0):Str×Int)∈vd l:=dE.mpr ⟨g,fL.mpr ⟨hg,ht⟩,rfl⟩;cases q:(vd l).find? (λp=>decide (p.1=z))with
   | none=>exact absurd (g9.mp q _ hm) (by simp[hn])
   | some v=>refine⟨v,rfl,?_⟩;obtain⟨g',_,rfl⟩:=dE.mp (gk q);exact⟨Int.le_refl _,Int.natCast_nonneg _⟩
noncomputable def Cq(c:pI):D:=.tup [.str c.st,.str c.cr,.tup (c.way.map D.str),.tup (c.at_.map D.str),.tup (c.ms.map D.str),CU c.hd,.int c.si,CU c.wd]
noncomputable def Uu(V:qC):D:=.tup [.int V.t,.tup (V.calls.map Cq),.tup ((sW V.ps).map yy),.tup (V.on.map D.bl)]
def O1(a:Ad):rC:=λds M Q=>CT λL k c=>ds=[.ref k.p]/\rX a M L k c/\Q (Cq c) M
def CQ(a:Ad):rC:=λds M Q=>AC λA V=>ds=[.ref A.b]/\pT a M A V/\V.calls.length<=10000/\V.ps.length<=3/\Q (Uu V) M
def D9{l:pN}(ok:r6 l):(vd l).length<=3:=by unfold vd;rw[cX];exact d9 (gH _ _) ok.g3
def Ql:Fq P w K mg base 1 a.aQ (O1 a):=by
 refine fq G.aQ.toDG xm (λr u=>⟨_,(pC (pR 1 xm (pS (rB (qa rh rfl G.l qY (qr (pH v0))) (qa rh rfl G.l qY (qr (pH v0))) (qa rh rfl G.l qY (qr (pH v0))))))
 (pE (pJ (qc (qc (pS (so (pH v0) (pH v0))) U1) (pS (rB (pH v0) (pH v0) (pH v0))))))),?_⟩)
 rintro ds M Q ⟨L,k,c,rfl,⟨ad,md,h1,h2,h3,h4,_⟩,q⟩
 have hz:=dN;refine pD h1 (i' rfl (i' h2 (pD h1 (i' rfl (i' h3 (pD h1 (i' rfl (i' h4 ⟨pA rfl,?_⟩))))))));refine pD h1 (i' rfl (pD h1 (i' rfl ⟨pA rfl,eX _ _,by show 2+3<=sizeLine;omega,?_⟩)));exact pD h1 (i' rfl (pD h1 (i' rfl (pD h1 (i' rfl ⟨pA rfl,eX _ _,by show 5+3<=sizeLine;omega,M,.refl,q⟩)))))
def HL:Fq P w K mg base 2 a.aR (CQ a):=by
 refine fq G.aR.toDG By (λr u=>⟨_,(pC (pR 1 By (qa rh rfl G.l qY (qr (qK rfl (xt (ix:=[none]) (N':=["call"])) (qI (pH v0)) (qJ 0) rN (pO (Ql G) r G.aQ (qr v0))))))
 (pE (pJ (pS (qg (pH v0) (rB U1 (qa rh rfl G.l qY (qr (zB rfl (pH v0) rfl G.b0))) (qa rh rfl G.l qY (qr (pH v0))))))))),?_⟩)
 rintro ds M Q ⟨A,V,rfl,bd,Xu,h3,q⟩
 have hz:=dN;refine pD bd.at_ (i' rfl (i' bd.ca ?_));refine zA (A.cs.map λk=>D.ref k.p) (λpre acc δ M'=>M=M'/\acc=(V.calls.take pre.length).map Cq/\∃y,δ=[y]) (λ_ _ _ M' j=>by rw[<-j.1];exact bd.ca) _ [] [] _ _ rfl ?_ ⟨rfl,rfl,none,rfl⟩ ?_ ?_
 .rw[cX,bd.len];simp only[dM];omega
 .rintro pre d post e acc δ M' ⟨rfl,rfl,y,rfl⟩ k hk
  obtain⟨ka,c,e1,e2,rfl,hc,et⟩:=Bq bd e;refine⟨_,ka,c,rfl,hc,hk _ _ _ ⟨rfl,?_,_,rfl⟩⟩;rw[de,dS,et,dQ];rfl
 .rintro acc δ M' ⟨rfl,rfl,y,rfl⟩ p1 X0
  rw[cX,bd.len,fu];refine i' pK ?_;have s1:=qz.new (c:=.lst (V.calls.map Cq)) X0;generalize pL M p1 (.lst (V.calls.map Cq))=M1 at s1 ⊢;refine pD (s1 _ _ bd.at_) (i' rfl (pD (s1 _ _ bd.at_) (i' rfl ⟨V.ps,s1.dk bd.nx,h3,λS hS=>i' pK ?_⟩)));have s2:=s1.trans (qz.new (c:=.lst ((sW V.ps).map yy)) hS);generalize pL M1 S (.lst ((sW V.ps).map yy))=M2 at s2 ⊢;exact pD (s2 _ _ bd.at_) (i' rfl (i' (s2.lst bd.on) ⟨pA rfl,M,s2,q⟩))
def Ev.noT:Ev->Prop
 | .turn=>False
 | _=>True
def Ev.noN:Ev->Prop
 | .next _ _=>False
 | _=>True
theorem Fz:∀{es:List Ev} {V:qC},(∀e∈es,e.noN)->(qL V es).ps=V.ps
 | [],_,_=>rfl
 | e::r,V,h=>(Fz (es:=r) (V:=qo V e) λx hx=>h x (dH _ hx)).trans (by have:=h e dU;cases e<;>first|rfl|cases this)
theorem B0(i:Nat):∀(st:tJ) (q:Option Str),∀e∈rS i q st,e.noT/\e.noN
 | [],_,e,h=>by unfold rS at h;cases h
 | (y,gs)::r,none,e,h=>by
  rcases dv.mp (show e∈Ev.asks i y gs::rS i (some y) r from h)with rfl|h
  .exact⟨trivial,trivial⟩
  .exact B0 i r _ e h
 | (y,gs)::r,some u,e,h=>by
  rcases dv.mp (show e∈Ev.leg ⟨i,u,y,u⟩::Ev.asks i y gs::rS i (some y) r from h)with rfl|h
  .exact⟨trivial,trivial⟩
  rcases dv.mp h with rfl|h
  .exact⟨trivial,trivial⟩
  .exact B0 i r _ e h
def Qm{i:Nat}{st:tJ}{en:vR}:∀e∈ud i st en,e.noT/\e.noN:=λe h=>by
 unfold ud at h;cases en with
 | ring ns=>
  dsimp only at h;cases q:st.getLast? with
  | none=>rw[q]at h;cases h
  | some s0=>rw[q]at h;rw[dD.mp h];exact⟨trivial,trivial⟩
 | _=>cases h
def OW{ps:List (Str×Int)}{z:Str}{n:Int}(h:ps.any (λp=>decide (p.1=z))=true):(Cp ps z n).length=ps.length:=by unfold Cp;rw[dh h,cX]
def Ry{l:pN}{V V1:qC}{i:Nat}{en:vR}(nx:ur l V1)(he:Gn l V i en):(qL V1 (tH l V i en)).ps.length=V1.ps.length:=by
 cases en with
 | rings z ps=>
  show(qL V1 ((if (l.m7 z=="turns")=true then[Ev.next z (QQ (l.mQ z) (ps.headD Str.empty))]else[])++[.rings i ps])).ps.length=_;rw[rP];by_cases ht:(l.m7 z=="turns")=true
  .rw[dh ht];refine OW ?_;obtain⟨v,e,_⟩:=nx z he.1 ht;exact gA.mpr ⟨v,gk e,by simpa using my e⟩
  .rw[df ht];rfl
 | breaks z=>
  unfold tH;dsimp only;split
  .rfl
  .rfl
 | waits z=>rfl
 | engaged z=>rfl
 | barred=>rfl
 | ring ns=>rfl
def QU{l:pN}{V:qC}{i:Nat}{k:pI}(ok:r6 l)(wf:zR l V (some i))(hk:V.calls[i]?=some k):(qL V (xn l V i)).ps.length=V.ps.length:=by
 have Ya:=wf.ok i k hk;unfold xn;rw[hk];dsimp only[Option.elim];obtain⟨z,hz⟩:∃z,k.way.getLast?=some z:=by
  cases e:k.way.getLast? with
  | none=>exact absurd (gO.mp e) Ya.wy.1
  | some z=>exact⟨z,rfl⟩
 rw[show k.way.getLastD Str.empty=z by rw[io,hz];rfl];have ro:ya l V k.cr (l.nm.length+1) [] (vb l V k.cr z k.way.dropLast):=zh ok _ _ _ _ (Ya.wy.2 z (jd hz)) λx hx=>Ya.wy.2 x (je _ hx);have eo:=LL ok wf hk ro.e;generalize vb l V k.cr z k.way.dropLast=R at eo;obtain⟨e,st⟩:=R;have e1:(qL (qL V (rS i none st)) (ud i st e)).ps=V.ps:=(Fz λx hx=>(Qm x hx).2).trans (Fz λx hx=>(B0 i st none x hx).2);rw[rP,rP];refine(Ry (λz hz ht=>?_) eo).trans (eV List.length e1);rw[e1];exact wf.nx z hz ht
theorem Jw{l:pN}(ok:r6 l):∀(is:List Nat) {V:qC},WF l V->(qL V (rZ l is V)).ps.length=V.ps.length
 | [],V,_=>by unfold rZ;rfl
 | i::r,V,wf=>by
  unfold rZ;rw[rP];refine(Jw ok r (Jr ok wf)).trans ?_;have d:=Hx (V:=V) (i:=i) ok;generalize zb l V i=fs at d;cases d with
  | no=>rfl
  | on c k r b x y n hc hs hk hw hy=>rw[Ao hk,rP];exact QU ok (Eu wf hc hs hy) (FL hc)
def UY{l:pN}{V:qC}{e:um}(ok:r6 l)(wf:WF l V)(f:e.nK)(h:xu l V e=none):(qL V (va l V e)).ps.length=V.ps.length:=by
 cases e with
 | call y z=>obtain⟨h1,h2,h3,h4⟩:=FQ h;obtain⟨k,hk⟩:=ME (V:=V) (y:=y) (z:=z);show(qL V (_++xn l _ _)).ps.length=_;rw[rP];exact QU ok (HX wf h1 h2 h3 h4) hk
 | turn=>exact Jw ok _ (E2 wf)
 | sw b i=>rfl
 | num w x ns=>
  refine eV List.length (Fz λev hev=>?_);obtain⟨_,n⟩:=Ho f h;cases n with
  | answer i c hi hc h1 h2 h3=>rw[dD.mp (show ev∈[EL V "answer" x i.toNat]from hev),zO hc];trivial
  | hang i c hi hc h1=>
   have hev:ev∈wG V x i.toNat:=hev;unfold wG at hev;rw[hc]at hev;dsimp only[Option.elim]at hev;split at hev
   .rw[dD.mp hev];trivial
   split at hev
   .rcases dv.mp hev with rfl|hev
    .trivial
    split at hev
    .rw[dD.mp hev];trivial
    .cases hev
   split at hev
   .rw[dD.mp hev];trivial
   .rw[dD.mp hev];trivial
  | hold i c hi hc h1=>rw[dD.mp (show ev∈[EL V "hold" x i.toNat]from hev),zO hc];trivial
  | back i c hi hc h1 h2=>rw[dD.mp (show ev∈[EL V "back" x i.toNat]from hev),zO hc];trivial
  | two _ i j c d hi hj hw hc hd h1 h2=>rw[dD.mp (show ev∈[F8 V w x i.toNat j.toNat]from hev),HP hc hd];trivial
theorem zZ(n:Nat):∀ss:QQQ,(ss.map D.str).all (sL n)=true
 | []=>rfl
 | s::r=>by rw[dY,e9,zZ n r];cases n<;>rfl
theorem DI(n:Nat):∀ss:List Nat,(ss.map λi=>D.int (i:Nat)).all (sL n)=true
 | []=>rfl
 | s::r=>by rw[dY,e9,DI n r];cases n<;>rfl
theorem Gv(n:Nat):∀ss:List Bool,(ss.map D.bl).all (sL n)=true
 | []=>rfl
 | s::r=>by rw[dY,e9,Gv n r];cases n<;>rfl
def PK(e:Ev):sL 6 e.d=true:=by
 have t:∀ss:QQQ,sL 5 (names ss)=true:=λss=>zZ 4 ss;have u:∀ss:List Nat,sL 5 (wm ss)=true:=λss=>DI 4 ss;cases e with
 | asks i z ns=>show([D.str "asks",.int (i:Nat),.str z,wm ns].all (sL 5))=true;simp only[e9,u];rfl
 | merge i j ms=>show([D.str "merge",.int (i:Nat),.int (j:Nat),names ms].all (sL 5))=true;simp only[e9,t];rfl
 | rings i ps=>show([D.str "rings",.int (i:Nat),names ps].all (sL 5))=true;simp only[e9,t];rfl
 | talks i ps=>show([D.str "talks",.int (i:Nat),names ps].all (sL 5))=true;simp only[e9,t];rfl
 | _=>rfl
def Me{n:Nat}(V:qC):sL (n+4) (Uu V)=true:=by
 have c1:∀c∈V.calls,sL (n+2) (Cq c)=true:=λc hc=>by
  have h0:∀o:Option Str,sL (n+1) (CU o)=true:=λo=>by cases o<;>rfl
  have t:∀ss:QQQ,sL (n+1) (.tup (ss.map D.str))=true:=λss=>zZ n ss;show([D.str c.st,.str c.cr,.tup (c.way.map D.str),.tup (c.at_.map D.str),.tup (c.ms.map D.str),CU c.hd,.int c.si,CU c.wd].all (sL (n+1)))=true;simp only[e9,t,h0];rfl
 have c2:sL (n+3) (.tup (V.calls.map Cq))=true:=by show(V.calls.map Cq).all (sL (n+2))=true;rw[iV,eG];exact c1
 have c3:sL (n+3) (.tup ((sW V.ps).map L3.yy))=true:=by show((sW V.ps).map L3.yy).all (sL (n+2))=true;rw[iV,eG];exact λx _=>rfl
 have c4:sL (n+3) (.tup (V.on.map D.bl))=true:=Gv (n+2) _;show([D.int V.t,.tup (V.calls.map Cq),.tup ((sW V.ps).map L3.yy),.tup (V.on.map D.bl)].all (sL (n+3)))=true;simp only[e9,c2,c3,c4];rfl
noncomputable def Bp(c:pI):QQQ:=if (c.st=="talks"||c.st=="held")=true then c.ms else c.cr::c.at_
def JP(a:Ad):rC:=λds M Q=>CT λL k c=>ds=[.ref (rJ.p k)]/\rX a M L k c/\c.at_.length<=100/\∀r M',qz M M'->pf M' r=some ((Bp c).map D.str)->Q (.ref r) M'
noncomputable def K1(V:qC)(Yd:QQQ):List Nat:=(List.range V.calls.length).filter λi=>(V.calls[i]?).elim false λc=>hasS Yd c.st
def O0(a:Ad):rC:=λds M Q=>BU λA V l Yd=>ds=[.ref A.b,.tup (List.map D.str Yd)]/\Rd a M A V l/\∀r M',qz M M'->pf M' r=some ((K1 V Yd).map λn=>D.int (n:Nat))->Q (.ref r) M'
noncomputable def Re(V:qC)(Yd:QQQ):D->Bool
 | .int n=>(V.calls[n.toNat]?).elim false λc=>hasS Yd c.st
 | _=>false
def Kl:Fq P w K mg base 1 a.bo (JP a):=by
 refine fq G.bo.toDG C0 (λr u=>⟨_,(pC (pV (W3.b3 (x8 (pM u (pH v0) pG) (wJ (pM u (pH v0) pG))))
 (pE (pJ (qa ue rfl G.z tO (qr (pH v0)))))
 pP)
 (pE (pJ (qc (qP (qr (pH v0))) (qa ue rfl G.z tO (qr (pH v0))))))),?_⟩)
 rintro ds M Q ⟨L,k,c,rfl,⟨ad,md,h1,h2,h3,h4,_⟩,ha,q⟩
 have hz:=dN;unfold Bp at q;refine pD h1 (i' rfl (qM (c:=c.st=="talks") (λg=>?_) (λg=>?_)))
 .rw[g,hZ,dh rfl]at q;exact pD h1 (i' rfl (i' h4 λr hr=>⟨_,.refl,q r _ (.new hr) pK⟩))
 rw[dO.mpr g,fP]at q;refine pD h1 (i' rfl (qM (c:=c.st=="held") (λg=>?_) (λg=>?_)))
 .rw[dh g]at q;exact pD h1 (i' rfl (i' h4 λr hr=>⟨_,.refl,q r _ (.new hr) pK⟩))
 rw[df g]at q;refine pD h1 (i' rfl ⟨pA rfl,λr1 XO=>?_⟩);have t1:=qz.new (c:=.lst [D.str c.cr]) XO;have l1:=@pK M r1 [D.str c.cr];show Ak (pL M r1 (.lst [D.str c.cr]) k.p) _;generalize pL M r1 (.lst [D.str c.cr])=M1 at t1 l1 ⊢;refine pD (t1 _ _ h1) (i' rfl (i' (t1.lst h3) λr2 Zp=>?_));have t2:=qz.new (c:=.lst (c.at_.map D.str)) Zp;refine i' (t2.lst l1) (i' pK ⟨?_,λr3 YX=>⟨_,.refl,q r3 _ (t1.trans (t2.trans (.new YX))) pK⟩⟩);rw[cX];show 1+c.at_.length<=sizeLine;omega
def PM:Fq P w K mg base 1 a.bp (O0 a):=by
 refine fq G.bp.toDG AX (λr u=>⟨_,(pE (pJ (qK rfl (xt (ix:=[none,some 0,some 1]) (N':=["_law_k","_law_board","_law_states"])) (wu rfl G.aN (qr (pY qH rfl G.g qG (qr (pH v0))))) (qJ 0) (vV (pM u (pH (pQ (pH U1) v0)) U2)) v0))),?_⟩)
 rintro ds M Q ⟨A,V,l,Yd,rfl,rd,q⟩
 have hz:=dN;have lc:((A.cs.map λk=>D.ref k.p).length:Int)=(V.calls.length:Nat):=by rw[cX,rd.bd.len]
 have hb:=rd.k;refine pD rd.bd.at_ (i' rfl (i' rd.bd.ca ?_));rw[lc];refine⟨rfl,⟨by omega,by omega⟩,?_⟩;refine tK (f:=id) (t:=Re V Yd) trivial _ [] _ (by rw[cX,eI];simp only[dM];omega) (λd hd k hk=>?_) (λd hd _ k hk=>?_) λr hr=>?_
 .obtain⟨i,hi,rfl⟩:=dE.mp hd;rw[gi]at hi;have hi:i<V.calls.length:=by omega
  obtain⟨k',ek,⟨ad,md,h1,_⟩⟩:=rd.call (cZ hi);have ea:wC (A.cs.map λk=>D.ref k.p) (0+(i:Nat))=some (.ref k'.p):=by rw[mK];exact rE ek
  refine pD rd.bd.at_ (i' rfl (i' rfl (i' rd.bd.ca (i' ea (pD h1 (i' rfl (i' rfl ⟨rfl,qA _,?_⟩)))))));show k (inD (.str V.calls[i].st) (Yd.map D.str)) M;rw[sI];have e1:Re V Yd (.int (0+(i:Nat)))=hasS Yd V.calls[i].st:=by show(V.calls[(0+(i:Int)).toNat]?).elim false _=_;rw[show(0+(i:Int)).toNat=i by omega,cZ hi];rfl
  show k (hasS Yd V.calls[i].st) M;rw[<-e1];exact hk
 .exact hk
 .refine⟨_,.refl,q r _ (.new hr) (pK.trans (eV some ?_))⟩;rw[d6,jq,gZ,show(((V.calls.length:Nat):Int)).toNat=V.calls.length from rfl];unfold K1;have e1:(Re V Yd∘λi:Nat=>D.int (0+(i:Nat)))=λi=>(V.calls[i]?).elim false λc=>hasS Yd c.st:=funext λi=>by show(V.calls[(0+(i:Int)).toNat]?).elim false _=_;rw[show(0+(i:Int)).toNat=i by omega]
  rw[e1];exact gy λi _=>by rw[mK]
noncomputable def F1:Str->QQQ:=λw=>if (w=="answer")=true then["rings","waits"]else if (w=="hold")=true then["talks"]else if (w=="hang")=true then["rings","waits","talks","held"]else["held"]
def SW(w:Str):Prop:=w="answer"\/w="hang"\/w="hold"\/w="back"\/w="hand"\/w="join"
def J4(a:Ad):rC:=λds M Q=>Ha λA V l c w=>ds=[.ref A.b,.int c,.str w,.tup ((F1 w).map D.str)]/\Rd a M A V l/\WF l V/\(∀k∈V.calls,k.at_.length<=100)/\SW w/\∀M',qz M M'->Q .mW M'/\∀e:um,e.nK->Q e.d M'
def SK{M:Mp}{n:Nat}{a b:Addr}{ds:List D}(ha:pf M a=some ds)(hb:pf M b=some []):yY M (n+1) (.ref a) (.ref b)=some ds.isEmpty:=by
 show(pf M a).bind (λi=>(pf M b).bind λj=>if i.length=j.length then sP (yY M n) i j else some false)=_;rw[ha,hb];cases ds with
 | nil=>rfl
 | cons x r=>rfl
def uQ{α:Type}(f:α->D){xs:List α}(h:xs≠[])(c k:Int):(0:Int)<((xs.map f).length:Nat)/\∃x∈xs,wC (xs.map f) (draw c k ((xs.map f).length:Nat))=some (f x):=by
 have hp:(0:Int)<((xs.map f).length:Nat):=by have:=fF.mpr h;rw[cX];omega
 have d0:=rb (c:=c) (f:=k) hp;have d1:=qQ (c:=c) (f:=k) hp;obtain⟨n,e⟩:=eF d0;rw[e]at d1 ⊢;have hn:n<xs.length:=by rw[cX]at d1;omega
 exact⟨hp,xs[n],ig hn,vf (by rw[dF,cZ hn];rfl)⟩
def Q8{V:qC}{Yd:QQQ}{i:Nat}(h:i∈K1 V Yd):∃c,V.calls[i]?=some c/\c.st∈Yd:=by
 have h:=(fL.mp h).2;cases e:V.calls[i]? with
 | none=>rw[e]at h;cases h
 | some c=>rw[e]at h;exact⟨c,rfl,qU.mp h⟩
def D5{l:pN}{c:pI}(k:vU l false c)(h:c.st≠"over"):Bp c≠[]:=by
 unfold Bp;split
 .rename_i g;rcases k.sh with z|⟨_,z|z|⟨_,z⟩|z⟩
  .rw[z.1]at g;exact absurd g (by decide)
  .rw[z.1]at g;exact absurd g (by decide)
  .intro y;rw[y]at z;rcases z.2.1 with u|u<;>cases u
  .intro y;rw[y]at z;cases z.2.1
  .exact absurd z.1 h
 .exact eX _ _
def UF{l:pN}{c:pI}(k:vU l false c)(h:c.st∈F1 "answer"):c.at_≠[]:=by
 have h:c.st="rings"\/c.st="waits":=by
  rcases dv.mp h with g|g
  .exact .inl g
  .exact .inr (dD.mp g)
 rcases k.sh with z|⟨_,z|z|⟨_,z⟩|z⟩
 .exact z.2.2.2.2.2 rfl
 .intro y;rw[y]at z;cases z.2.2.2.2
 all_goals(rw[z.1]at h;exact absurd h (by decide))
def Jm{l:pN}{c:pI}(k:vU l false c)(h:c.st="held"):∃x,c.hd=some x:=by
 rcases k.sh with z|⟨_,z|z|⟨x,z⟩|z⟩
 .rw[h]at z;exact absurd z.1 (by decide)
 .rw[h]at z;exact absurd z.1 (by decide)
 .rw[h]at z;exact absurd z.1 (by decide)
 .exact⟨x,z.2.2.1⟩
 .rw[h]at z;exact absurd z.1 (by decide)
def KO:Fq P w K mg base 4 a.bq (J4 a):=by
 refine fq G.bq.toDG rK (λr u=>⟨_,(pC (pR 4 rK (pO (PM G) r G.bp (so v0 U3)))
 (pC (pV (pM u v4 (qP sG))
 (pE (pJ sr))
 pP)
 (pC (pR 5 rK (pQ v4 (pO (qO G) r G.i (rB U1 pF (pY qH rfl G.g qG (qr v4))))))
 (pC (pR 6 rK (pO (Kl G) r G.bo (qr (pQ (pH v0) v5))))
 (pC (pV (pM u U2 pG)
 (pE (pR 6 rK (qa ue rfl G.z tO (qr (pH (pQ (pH v0) v5))))))
 pP)
 (pC (pV (W3.b3 (x8 (pM u U2 pG) (x8 (pM u U2 pG) (wJ (pM u U2 pG)))))
 (pE (pR 6 rK (qP (qr (pH (pQ (pH v0) v5))))))
 pP)
 (pC (pR 7 rK (pQ v6 (pO (qO G) r G.i (rB U1 pF (pY qH rfl G.g qG (qr v6))))))
 (pC (pV (W3.b3 (x8 (pM u U2 pG) (wJ (pM u U2 pG))))
 (pC (pR 8 rK (qe v0 G.c.toCls G.Q (yR G) r (qr v7)))
 (pE (pJ (pS (qg U2 (rB v7 v5 (L' (pM u v8 sr) pF v8)))))))
 pP)
 (pE (pJ (pS (rB U2 v7 v5)))))))))))),?_⟩)
 rintro ds M Q ⟨A,V,l,c,wd,rfl,rd,wf,ha,ho,q⟩
 have hz:=dN;refine⟨A,V,l,F1 wd,rfl,rd,λr M1 s1 lr=>?_⟩;refine⟨pA rfl,λr0 hr0=>?_⟩;have t2:=qz.new (c:=.lst []) hr0;have ZM:=t2.lst lr;refine i' (SK ZM pK) ?_;have s2:=s1.trans t2;generalize pL M1 r0 (.lst [])=M2 at s2 ZM ⊢;clear t2 lr hr0 s1;refine qM (c:=((K1 V (F1 wd)).map λn=>D.int (n:Nat)).isEmpty) (λ_=>⟨M2,.refl,(q M2 s2).1⟩) (λg=>?_);have gne:K1 V (F1 wd)≠[]:=λz=>g (by rw[z];rfl);obtain⟨hp,i,hi,ei⟩:=uQ (λn:Nat=>D.int (n:Nat)) gne c 40692;obtain⟨cv,hc,hs⟩:=Q8 hi;have Zb:=rd.sub s2;obtain⟨k,ek,ca⟩:=Zb.call hc;have ca0:=ca;obtain⟨ad,md,h1,h2,h3,h4,_⟩:=ca0;have Ya:=wf.ok i cv hc;refine i' ZM ⟨c,_,_,rfl,hp,i' ZM (i' ei ?_)⟩;refine pD Zb.bd.at_ (i' rfl (i' rfl (i' Zb.bd.ca (i' (rE ek) ?_))));refine⟨_,k,cv,rfl,ca,ha cv (rm hc),λr3 M3 s3 lr3=>?_⟩;have XN:=s3 _ _ h1;have q3:=λM' (s:qz M3 M')=>q M' (s2.trans (s3.trans s));have Zs:=Zb.sub s3;have ZH:=s3.lst h3;clear q ZM s2 h1 h2 h3 h4 ca;rcases ho with rfl|rfl|rfl|rfl|rfl|rfl
 .
  refine pD Zs.bd.at_ (i' rfl (i' rfl (i' Zs.bd.ca (i' (rE ek) (pD XN (i' rfl (i' ZH λr4 hr4=>?_)))))));obtain⟨Xd,x,hx,ex⟩:=uQ D.str (UF Ya hs) c 742938285;refine i' pK ⟨c,_,_,rfl,Xd,i' pK (i' ex ?_)⟩;exact⟨pA rfl,_,.refl,(q3 _ (.new hr4)).2 (.num "answer" x [(i:Nat)]) (.inl ⟨.inl rfl,rfl⟩)⟩
 .
  obtain⟨Xd,x,hx,ex⟩:=uQ D.str (D5 Ya (λz=>by rw[z]at hs;exact absurd hs (by decide))) c 742938285;refine i' lr3 ⟨c,_,_,rfl,Xd,i' lr3 (i' ex ?_)⟩;exact⟨pA rfl,_,.refl,(q3 _ .refl).2 (.num "hang" x [(i:Nat)]) (.inl ⟨.inr (.inl rfl),rfl⟩)⟩
 .
  obtain⟨Xd,x,hx,ex⟩:=uQ D.str (D5 Ya (λz=>by rw[z]at hs;exact absurd hs (by decide))) c 742938285;refine i' lr3 ⟨c,_,_,rfl,Xd,i' lr3 (i' ex ?_)⟩;exact⟨pA rfl,_,.refl,(q3 _ .refl).2 (.num "hold" x [(i:Nat)]) (.inl ⟨.inr (.inr (.inl rfl)),rfl⟩)⟩
 .
  obtain⟨y,hy⟩:=Jm Ya (dD.mp hs);refine pD Zs.bd.at_ (i' rfl (i' rfl (i' Zs.bd.ca (i' (rE ek) (pD XN (i' rfl ⟨pA rfl,λr4 hr4=>?_⟩))))));rw[show CU cv.hd=.str y by rw[hy];rfl];obtain⟨Xd,x,hx,ex⟩:=uQ D.str (eX y []) c 742938285;refine i' pK ⟨c,_,_,rfl,Xd,i' pK (i' ex ?_)⟩;exact⟨pA rfl,_,.refl,(q3 _ (.new hr4)).2 (.num "back" x [(i:Nat)]) (.inl ⟨.inr (.inr (.inr rfl)),rfl⟩)⟩
 all_goals
  obtain⟨y,hy⟩:=Jm Ya (dD.mp hs);refine pD Zs.bd.at_ (i' rfl (i' rfl (i' Zs.bd.ca (i' (rE ek) (pD XN (i' rfl ⟨pA rfl,λr4 hr4=>?_⟩))))));rw[show CU cv.hd=.str y by rw[hy];rfl];obtain⟨Xd,x,hx,ex⟩:=uQ D.str (eX y []) c 742938285;refine i' pK ⟨c,_,_,rfl,Xd,i' pK (i' ex ?_)⟩;have t4:=qz.new (c:=.lst [D.str y]) hr4;refine pD (t4 _ _ Zs.bd.at_) ⟨rfl,_,⟨rfl,rfl⟩,A,V,x,rfl,Zs.bd.sub t4,Zs.k,?_⟩;unfold AE;cases vF V x with
  | none=>first|exact⟨pA rfl,_,.refl,(q3 _ t4).2 (.num "hand" x [(i:Nat),(0:Nat)]) (.inr ⟨.inl rfl,rfl⟩)⟩|exact⟨pA rfl,_,.refl,(q3 _ t4).2 (.num "join" x [(i:Nat),(0:Nat)]) (.inr ⟨.inr rfl,rfl⟩)⟩
  | some j=>first|exact⟨pA rfl,_,.refl,(q3 _ t4).2 (.num "hand" x [(i:Nat),(j:Nat)]) (.inr ⟨.inl rfl,rfl⟩)⟩|exact⟨pA rfl,_,.refl,(q3 _ t4).2 (.num "join" x [(i:Nat),(j:Nat)]) (.inr ⟨.inr rfl,rfl⟩)⟩
def Jy:rC:=λds M Q=>Kt λc o n own nm m=>ds=[.int c,.ref o,.ref n,.int ((m:Nat):Int)]/\pf M o=some (List.map D.str own)/\pf M n=some (List.map D.str nm)/\own.length<=100/\nm.length<=100/\m<=1000000/\∀M' (e:um),qz M M'->e.nK->Q e.d M'
def LH(a:Ad):rC:=λds M Q=>Tb λA V l c o n own nm=>ds=[.ref A.b,.int c,.ref o,.ref n]/\Rd a M A V l/\WF l V/\(∀k∈V.calls,k.at_.length<=100)/\pf M o=some (List.map D.str own)/\pf M n=some (List.map D.str nm)/\own≠[]/\nm≠[]/\own.length<=100/\nm.length<=100/\∀M' (e:um),qz M M'->e.nK->Q e.d M'
def IR{α:Type}(f:α->D){xs:List α}(h:xs≠[]){m:Int}(hm:m=(xs.length:Nat))(c k:Int):(0:Int)<m/\∃x∈xs,wC (xs.map f) (draw c k m)=some (f x):=by have:=uQ f h c k;rw[cX,<-hm]at this;exact this
def Qz{α:Type}(xs:List α)(x:α):xs++[x]≠[]:=by simp
noncomputable def Ii:QQQ:=["call","call","call","call","call","answer","answer","answer","answer","answer","hang","hang","hold","hold","hold","back","hand","join","turn","turn","turn"]
theorem Ed(d:D):∀n:Nat,(List.replicate n [d]).flatten=List.replicate n d
 | 0=>rfl
 | n+1=>by rw[eL,fQ,Ed d n,eL];rfl
noncomputable def zz:Str:="zzzzzz"
noncomputable def Lh(a b:Str)(k m:Int):List um:=[.call a b,.num "answer" a [k],.num "hang" a [k],.num "hold" a [k],.num "back" a [k],.num "hand" a [k,m],.num "join" a [k,m],.turn,.sw true k,.sw false k]
def K2{a b:Str}{k m:Int}{e:um}(h:e∈Lh a b k m):e.nK:=by
 unfold Lh at h;simp only[dv,dJ,fg]at h;rcases h with rfl|rfl|rfl|rfl|rfl|rfl|rfl|rfl|rfl|rfl
 .trivial
 .exact .inl ⟨.inl rfl,rfl⟩
 .exact .inl ⟨.inr (.inl rfl),rfl⟩
 .exact .inl ⟨.inr (.inr (.inl rfl)),rfl⟩
 .exact .inl ⟨.inr (.inr (.inr rfl)),rfl⟩
 .exact .inr ⟨.inl rfl,rfl⟩
 .exact .inr ⟨.inr rfl,rfl⟩
 .trivial
 .trivial
 .trivial
def P0:Fq P w K mg base 2 a.br Jy:=by
 refine fq G.br.toDG uI (λr u=>⟨_,(pC (pR 4 uI (pQ (qc U2 (qP (qr pG))) (pO (qO G) r G.i (rB v0 pF (qc (pY qH rfl G.g qG (qr U2)) pF)))))
 (pC (pR 5 uI (pQ (qc U2 (qP (qr pG))) (pO (qO G) r G.i (rB v0 pF (qc (pY qH rfl G.g qG (qr U2)) pF)))))
 (pC (pR 6 uI (qc (pO (qO G) r G.i (rB v0 pF (qc U3 pF))) pF))
 (pC (pR 7 uI (qc (pO (qO G) r G.i (rB v0 pF (qc U3 pF))) pF))
 (pC (pR 8 uI (qP (qg (pS (rB pG v4 v5)) (qg (pS (rB pG v4 v6)) (qg (pS (rB pG v4 v6)) (rB (pS (rB pG v4 v6)) (pS (rB pG v4 v6)) (pS (qg pG (rB v4 v6 v7)))))))))
 (pE (pJ (pQ (qc v8 (qP (qg (pS (qg pG (rB v4 v6 v7))) (rB (pS (qr pG)) (pS (so pG v6)) (pS (so pG v6)))))) (pO (qO G) r G.i (rB v0 pF pF)))))))))),?_⟩)
 rintro ds M Q ⟨c,o,n,own,nm,m,rfl,ho,hn,ol,nl,ml,q⟩
 have hz:=dN;have add:∀{M1:Mp} {p:Addr} {xs:QQQ} (f:Int) (nx:DK),qz M M1->pf M1 p=some (xs.map D.str)->xs.length<=100->(∀x M',qz M M'->nx (.str x) M')->∀r1,M1 r1=none->(pf (pL M1 r1 (.lst [D.str zz])) p).elim False λi=>(pf (pL M1 r1 (.lst [D.str zz])) r1).elim False λj=>i.length+j.length<=sizeLine/\∀r2,pL M1 r1 (.lst [D.str zz]) r2=none->(pf (pL (pL M1 r1 (.lst [D.str zz])) r2 (.lst (i++j))) p).elim False λys=>Jl [.int c,.int f,.int ((ys.length:Nat)+1)] (pL (pL M1 r1 (.lst [D.str zz])) r2 (.lst (i++j))) λy M2=>match y with
  | .int n=>(pf M2 r2).elim False λzs=>(wC zs n).elim False λd=>nx d M2
  | _=>False:=λ{M1 p xs} f nx s hx lx Xg r1 XO=>by
  have t1:=qz.new (c:=.lst [D.str zz]) XO;refine i' (t1.lst hx) (i' pK ⟨by rw[cX];show xs.length+1<=sizeLine;omega,λr2 Zp=>?_⟩);have t2:=qz.new (c:=.lst (xs.map D.str++[D.str zz])) Zp;obtain⟨hp,x,_,ex⟩:=IR D.str (Qz xs zz) (m:=((xs.map D.str).length:Nat)+1) (by rw[cX,de];rfl) c f;rw[dQ]at ex;exact i' ((t1.trans t2).lst hx) ⟨c,f,_,rfl,hp,i' pK (i' ex (Xg x _ (s.trans (t1.trans t2))))⟩
 refine⟨pA rfl,add 16807 _ .refl hn nl λx M1 s1=>⟨pA rfl,add 39373 _ s1 (s1.lst hn) nl λy M2 s2=>?_⟩⟩;refine⟨c,_,_,rfl,by show(0:Int)<(m:Nat)+2;omega,⟨c,_,_,rfl,by show(0:Int)<(m:Nat)+2;omega,?_⟩⟩;generalize draw c 69621 ((m:Nat)+2) - 1=k0;refine⟨pA rfl,pA rfl,pA rfl,pA rfl,pA rfl,pA rfl,pA rfl,λr8 hr8=>⟨pA rfl,pA rfl,pA rfl,pA rfl,pA rfl,λr9 hr9=>?_⟩⟩;have t8:=qz.new (c:=.lst (((Lh x y k0 (draw c 22695477 ((m:Nat)+2) - 1)).take 6).map um.d)) hr8;have t9:=qz.new (c:=.lst (((Lh x y k0 (draw c 22695477 ((m:Nat)+2) - 1)).drop 6).map um.d)) hr9;refine i' (t9.lst pK) (i' pK ⟨by show 6+4<=sizeLine;omega,λr10 hr10=>?_⟩);obtain⟨hp,e,he,ee⟩:=IR um.d (xs:=Lh x y k0 (draw c 22695477 ((m:Nat)+2) - 1)) (eX _ _) (m:=10) rfl c 1664525;exact⟨c,_,_,rfl,hp,i' pK (i' ee ⟨_,.refl,q _ e (s2.trans (t8.trans (t9.trans (.new hr10)))) (K2 he)⟩)⟩
def MP:Fq P w K mg base 5 a.bs (LH a):=by
 refine fq G.bs.toDG rM (λr u=>⟨_,(pC (pR 4 rM (qc (qc (qc (qc (qc (Ca (qP (qr pG)) pF) (Ca (qP (qr pG)) pF)) (Ca (qP (qr pG)) pF)) (Ca (qP (qr pG)) pF)) (qP (rB pG pG pG))) (Ca (qP (qr pG)) pF)))
 (pC (pR 4 rM (pQ v4 (pO (qO G) r G.i (rB U1 pF (pY qH rfl G.g qG (qr v4))))))
 (pC (pR 5 rM (pS (qg pG (rB pG pG pG))))
 (pC (pV (pM u v4 pG)
 (pE (pR 5 rM (pS (so pG pG))))
 pP)
 (pC (pV (pM u v4 pG)
 (pE (pR 5 rM (pS (qr pG))))
 pP)
 (pC (pV (W3.b3 (x8 (pM u v4 pG) (x8 (pM u v4 pG) (wJ (pM u v4 pG)))))
 (pE (pR 5 rM (pS (qr pG))))
 pP)
 (pC (pV (pM u v4 pG)
 (pE (pJ (pS (qr pG))))
 pP)
 (pC (pV (pM u (pO (qO G) r G.i (rB U1 pF pF)) pF)
 (pE (pJ (pO (P0 G) r G.br (qg U1 (rB U2 U3 (pY qH rfl G.g qG (qr (pH v0))))))))
 pP)
 (pC (pR 6 rM sr)
 (pC (pV (pM u v4 pG)
 (pE (pR 6 rM (pO (KO G) r G.bq (qg v0 (rB U1 v4 v5)))))
 pP)
 (pC (pV (pM u v6 sr)
 (pC (pR 7 rM (pQ U2 (pO (qO G) r G.i (rB U1 pF (pY qH rfl G.g qG (qr U2))))))
 (pE (pR 6 rM (pS (rB pG v7 (pQ U3 (pO (qO G) r G.i (rB U1 pF (pY qH rfl G.g qG (qr U3))))))))))
 pP)
 (pE (pJ v6))))))))))))),?_⟩)
 rintro ds M Q ⟨A,V,l,c,o,n,own,nm,rfl,rd,wf,ha,ho,hn,one,nne,ol,nl,q⟩
 have hz:=dN;refine Tf (t:=Gm _ _) (λδ M'=>qz M M'/\∃r,pf M' r=some (Ii.map D.str)/\δ=[some (.ref A.b),some (.int c),some (.ref o),some (.ref n),some (.ref r),none,none,none]) (λnx h=>?_) ?_
 .have Y0:∀{N:Mp} {δ:vg} (w0:Str) (m:Int) (nx:DK),qz M N->(0<=m/\m<=10)->(∀r N',qz M N'->qz N N'->pf N' r=some ((List.replicate m.toNat w0).map D.str)->nx (.ref r) N')->Tp (UA (vw (L3.c3 (.str w0)) xC)) (L3.c3 (.int m)) δ N nx:=λ{N δ} w0 m nx sn hm Xg=>by refine⟨pA rfl,λr1 XO=>?_⟩;refine i' pK ⟨⟨by omega,by omega,by show 1<=1000;decide⟩,λr2 Zp=>?_⟩;have t:=(qz.new (c:=.lst [D.str w0]) XO).trans (qz.new (c:=.lst (List.replicate m.toNat [D.str w0]).flatten) Zp);refine Xg r2 _ (sn.trans t) t (pK.trans (eV some ?_));rw[List.map_replicate];exact Ed _ _
  have Ye:∀{N:Mp} {p r:Addr} {xs ys:QQQ} (nx:DK),qz M N->pf N p=some (xs.map D.str)->pf N r=some (ys.map D.str)->xs.length+ys.length<=100->(∀r N',qz M N'->pf N' r=some ((xs++ys).map D.str)->nx (.ref r) N')->Vf .Add (.ref p) (.ref r) N nx:=λ{N p r xs ys} nx sn hx hy hl Xg=>by refine i' hx (i' hy ⟨by rw[cX,cX];omega,λr2 Zp=>?_⟩);refine Xg r2 _ (sn.trans (.new Zp)) (pK.trans (eV some ?_));rw[dQ]
  dsimp only[Gm,o3];refine Y0 "call" 5 _ .refl (by decide) λp1 N1 s1 _ l1=>Y0 "answer" 5 _ s1 (by decide) λq2 N2 s2 t2 l2=>Ye _ s2 (t2.lst l1) l2 (by decide) λp2 N3 s3 l3=>Y0 "hang" 2 _ s3 (by decide) λq4 N4 s4 t4 l4=>Ye _ s4 (t4.lst l3) l4 (by decide) λp5 N5 s5 l5=>Y0 "hold" 3 _ s5 (by decide) λq6 N6 s6 t6 l6=>Ye _ s6 (t6.lst l5) l6 (by decide) λp7 N7 s7 l7=>⟨pA rfl,λr8 hr8=>?_⟩;have t8:=qz.new (c:=.lst ((["back","hand","join"]:QQQ).map D.str)) hr8;exact Ye (ys:=["back","hand","join"]) _ (s7.trans t8) (t8.lst l7) pK (by decide) λp9 N9 s9 l9=>Y0 "turn" 3 _ s9 (by decide) λq10 N10 s10 t10 l10=>Ye _ s10 (t10.lst l9) l10 (by decide) λp11 N11 s11 l11=>h _ _ ⟨s11,p11,l11,rfl⟩
 rintro δ M1 ⟨s1,r,lr,rfl⟩
 have s1n:=s1.lst hn;have s1o:=s1.lst ho;obtain⟨hp,w0,hw,ew⟩:=uQ D.str (show Ii≠[]from eX _ _) c 48271;refine i' lr ⟨c,_,_,rfl,hp,i' lr (i' ew ?_)⟩;obtain⟨X0,x1,hx1,ex1⟩:=uQ D.str one c 16807;obtain⟨Xd,x2,hx2,ex2⟩:=uQ D.str nne c 39373;have YY:=rd.sub s1;have lc:((A.cs.map λk=>D.ref k.p).length:Int)=(V.calls.length:Nat):=by rw[cX,rd.bd.len]
 clear lr hp ew;have hw:w0="call"\/w0="turn"\/SW w0:=by unfold Ii at hw;simp only[dv,dJ,fg]at hw;unfold SW;rcases hw with h|h|h|h|h|h|h|h|h|h|h|h|h|h|h|h|h|h|h|h|h<;>simp[h]
 have W7:∀M' (e:um),qz M1 M'->e.nK->∃W8,qz W8 M'/\Q e.d W8:=λM' e s f=>⟨M',.refl,q M' e (s1.trans s) f⟩;rcases hw with rfl|rfl|hw
 .refine⟨pA rfl,c,_,_,rfl,by decide,qM (c:=draw c 950706376 9==0) (λ_=>pD YY.bd.at_ (i' rfl (i' YY.bd.ca ?_))) (λ_=>?_)⟩
  .rw[lc];exact⟨c,o,n,own,nm,V.calls.length,rfl,s1o,s1n,ol,nl,rd.k,W7⟩
  exact i' s1o ⟨c,_,_,rfl,X0,i' s1o (i' ex1 (i' s1n ⟨c,_,_,rfl,Xd,i' s1n (i' ex2 ⟨pA rfl,W7 M1 (.call x1 x2) .refl trivial⟩)⟩))⟩
 .exact⟨pA rfl,pA rfl,W7 M1 .turn .refl trivial⟩
 have lany:Jy [.int c,.ref o,.ref n,.int ((V.calls.length:Nat):Int)] M1 λd M'=>∃W8,qz W8 M'/\Q d W8:=⟨c,o,n,own,nm,V.calls.length,rfl,s1o,s1n,ol,nl,rd.k,W7⟩;have hw':=hw;rcases hw with rfl|rfl|rfl|rfl|rfl|rfl
 all_goals
  first
   | refine⟨pA rfl,pA rfl,c,_,_,rfl,by decide,qM (c:=draw c 950706376 9==0) (λ_=>pD YY.bd.at_ (i' rfl (i' YY.bd.ca ?_))) (λ_=>⟨A,V,l,c,_,rfl,YY,wf,ha,hw',λM' s=>⟨?_,λe f=>?_⟩⟩)⟩
   | refine⟨pA rfl,c,_,_,rfl,by decide,qM (c:=draw c 950706376 9==0) (λ_=>pD YY.bd.at_ (i' rfl (i' YY.bd.ca ?_))) (λ_=>⟨A,V,l,c,_,rfl,YY,wf,ha,hw',λM' s=>⟨?_,λe f=>?_⟩⟩)⟩
  .rw[lc];exact lany
  .exact i' (s.lst s1o) ⟨c,_,_,rfl,X0,i' (s.lst s1o) (i' ex1 (i' (s.lst s1n) ⟨c,_,_,rfl,Xd,i' (s.lst s1n) (i' ex2 ⟨pA rfl,W7 M' (.call x1 x2) s trivial⟩)⟩))⟩
  .cases e with
   | call y z=>exact W7 M' (.call y z) s f
   | num v y ns=>exact W7 M' (.num v y ns) s f
   | turn=>exact W7 M' .turn s f
   | sw b i=>exact W7 M' (.sw b i) s f
def DX{A A':tX}{M M':Mp}{x:Addr}{c:uT}(st:qW A M A' M')(h:x∉A.foot)(hx:M x=some c):x∉A'.foot:=λz=>by
 rcases st.2.1 x z with y|y
 .exact h y
 .rw[hx]at y;cases y
theorem Ja:∀(n:Nat) (d:D),sL n d=true->sL (n+1) d=true
 | 0,d,h=>by
  cases d with
  | tup ds=>cases h
  | ref _=>cases h
  | ty _=>cases h
  | rl _=>cases h
  | _=>rfl
 | n+1,d,h=>by
  cases d with
  | tup ds=>exact eG.mpr λd hd=>Ja n d (eG.mp (show ds.all (sL n)=true from h) d hd)
  | ref _=>cases h
  | ty _=>cases h
  | rl _=>cases h
  | _=>rfl
noncomputable def Ms(A:tX)(M:Mp):Mp:=λx=>if x∈A.foot then none else M x
def Et{A:tX}{M:Mp}{x:Addr}{ds:List D}(h:pf M x=some ds)(n:x∉A.foot):pf (Ms A M) x=some ds:=sF (by unfold Ms;rw[df n];exact qm h)
structure Lp(a:Ad)(M0 N M:Mp)(b:Addr)(A:tX)(V:qC)(l:pN)(m:Nat):Prop where
 cu:uE a M0 M b A V l (1+m) (3+2200*m)
 wf:WF l V
 ps:V.ps.length<=3
 own:∀x c,N x=some c->M x=some c/\x∉A.foot
variable {N:Mp}{m:Nat}
def Lp.s(g:Lp a M0 N M b A V l m):qz N M:=λx c e=>(g.own x c e).1
def Lp.sub(g:Lp a M0 N M b A V l m)(s:qz M M'):Lp a M0 N M' b A V l m:=⟨g.cu.sub s,g.wf,g.ps,λx c e=>⟨s x c (g.own x c e).1,(g.own x c e).2⟩⟩
def Lp.nE(g:Lp a M0 N M b A V l m):Lp a M0 N M b A V l (m+1):=⟨g.cu.mono (by omega) (by omega),g.wf,g.ps,g.own⟩
def Lp.after{e:um}(g:Lp a M0 N M b A V l m)(hm:m<=63)(f:e.nK)(hr:xu l V e=none)(cu:uE a M0 M' b A' (qL V (va l V e)) l (1+m+1) (3+2200*m+40+33*(1+m)))(st:qW A M A' M'):Lp a M0 N M' b A' (qL V (va l V e)) l (m+1):=⟨cu.mono (by omega) (by omega),UI g.cu.ok g.wf f hr,by rw[UY g.cu.ok g.wf f hr];exact g.ps,λx c h=>⟨st.1 x c (g.own x c h).2 (g.own x c h).1,DX st (g.own x c h).2 (g.own x c h).1⟩⟩
def Lp.rd(g:Lp a M0 N M b A V l m)(hm:m<=64):Rd a M A V l:=g.cu.rd (by omega) g.wf
def Lp.mk0(cu:uE a M0 M b A V l 1 3)(wf:WF l V)(ps:V.ps.length<=3):Lp a M0 (Ms A M) M b A V l 0:=⟨cu,wf,ps,λx c e=>by
 unfold Ms at e;split at e
 .cases e
 .rename_i h;exact⟨e,h⟩⟩
def Lp.start{a:Ad}{M0 M:Mp}{b p:Addr}{A:tX}{h:Int}{l:pN}(ok:r6 l)(pl:tz a M0 p l)(hb:M0 b=none)(eb:A.b=b)(kp:sf b (pL M0 b (.ins a.c [])) M)(fr:∀x∈A.foot,x=b\/pL M0 b (.ins a.c []) x=none)(bd:pT a M A (V0 p h l [])):uE a M0 M b A (V0 p h l []) l 1 3/\WF l (V0 p h l [])/\(V0 p h l []).ps.length<=3:=by
 have t:=qz.new (c:=.ins a.c []) hb;refine⟨⟨bd,pl,λx c e=>kp x c (Qi e hb) (t x c e),λx hx=>?_,eb,⟨eP _,eP _,eP _,D9 ok,λk hk=>by cases hk⟩,ok,cX ..⟩,VY ok,D9 ok⟩;rcases fr x hx with z|z
 .rw[z];exact hb
 .exact t.none z
def Hc{ns:List Int}{m:Int}(h2:2<=m)(h:m<=100):2<=(vp ns m).mT.length:=by have:=(wV (s:=cell ns 0) h2 h).2;show 2<=((List.range (rQ (cell ns 0) m)).map _).length;rw[cX,eI];exact this
def RU(a:Ad):rC:=λds M Q=>AC λns m=>ds=[.rl (List.map D.int ns),.int m]/\2<=m/\m<=8/\∀M0 M' A p h,qz M M0->uE a M0 M' A.b A (V0 p h (vp ns m) []) (vp ns m) 1 3->WF (vp ns m) (V0 p h (vp ns m) [])->(V0 p h (vp ns m) []).ps.length<=3->Q (.ref A.b) M'
def JS(a:Ad):rC:=λds M Q=>CT λA V l=>ds=[.ref (tX.b A)]/\Rd a M A V l/\∀M' r ro rn,qz M M'->M ro=none->M rn=none->pf M' r=some [.ref ro,.ref rn]->pf M' ro=some (l.pn.map D.str)->pf M' rn=some (l.nm.map D.str)->Q (.ref r) M'
def R6:Fq P w K mg base 10 a.bt (RU a):=by
 refine fq G.bt.toDG vM (λr u=>⟨_,(pC (Hk (pO (NC G) r G.bn (so v0 U1)) (vi (n:=3) rfl (qF (rL 2 vM) (qF (rL 3 vM) (qF (rL 4 vM) ub)))))
 (pE (pJ (vq (Mi G) r G.c G.b8 G.ag.toDG (so (vq (O7 G) r G.h G.b9 G.ah.toDG (rB U2 U3 v4)) (pO (qO G) r G.i (rB (pO (Lb G) r G.O (so v0 pF)) pF pF))))))),?_⟩)
 rintro ds M Q ⟨ns,m,rfl,h2,h8,q⟩
 have ok:r6 (vp ns m):=Oa h2 h8;refine⟨ns,m,rfl,h2,h8,λr1 r2 r3 M1 s1 e1 e2 e3=>⟨rfl,?_⟩⟩;generalize vp ns m=l at e1 e2 e3 ok q;refine λp hp=>?_;have t2:=qz.new (c:=.ins a.h []) hp;refine⟨p,r1,r2,r3,l,rfl,pX,t2.lst e1,t2.lst e2,t2.lst e3,ok,λM2 kp pa _=>⟨rfl,?_⟩⟩;have s2:qz M1 M2:=λx c e=>kp x c (Qi e hp) (t2 x c e);refine⟨ns,0,rfl,_,_,_,rfl,by decide,λb hb=>?_⟩;have t5:=qz.new (c:=.ins a.c []) hb;have npb:p≠b:=λz=>by obtain⟨ph,gr,ws,Yz,pr,gd,rs,i1,_⟩:=pa;rw[z,hb]at i1;cases i1
 refine⟨b,p,_,[],l,rfl,pX,pa.sub t5,ok,npb,(λx hx=>by cases hx),λM5 A eb kp fr bd=>⟨rfl,M5,.refl,?_⟩⟩;obtain⟨cu,wf,ps⟩:=Lp.start ok pa hb eb kp fr bd;subst eb;exact q M2 M5 A p _ (s1.trans s2) cu wf ps
def Kb:Fq P w K mg base 1 a.bu (JS a):=by
 refine fq G.bu.toDG zJ (λr u=>⟨_,(pC (uM (i:=1) zJ.nd rfl (Or.inl rfl) rfl (xt (ix:=[none]) (N':=["_law_phone"])) (qI (pH (pH v0))) (qJ 0) rN (pQ v0 pF))
 (pE (pJ (qP (so U1 (qc U1 (qK rfl (xt (ix:=[none]) (N':=["_law_group"])) (qI (pH (pH v0))) (qJ 0) rN (pQ v0 pF)))))))),?_⟩)
 rintro ds M Q ⟨A,V,l,rfl,rd,q⟩
 have hz:=dN;have p8:=rd.ok.p8;have g3:=rd.ok.g3;have pl:l.pn.length=l.mT.length:=cX ..;obtain⟨ph,gr,ws,Yz,pr,gd,rs,i1,i2,i3,_⟩:=rd.pl;refine pD rd.bd.at_ (i' rfl (pD i1 (i' rfl (i' i2 (qV (f:=AS) i2 _ [] _ (by rw[cX];simp only[dM];omega) (λd hd k hk=>?_) λro hro=>?_)))))
 .obtain⟨x,_,rfl⟩:=dE.mp hd;exact hk
 rw[d6,wM];have t3:=qz.new (c:=.lst ((l.mT.map (·.1)).map D.str)) hro;have lo:pf (pL M ro (.lst ((l.mT.map (·.1)).map D.str))) ro=some (l.pn.map D.str):=pK;show Ak (pL M ro (.lst ((l.mT.map (·.1)).map D.str)) A.b) _;generalize pL M ro (.lst ((l.mT.map (·.1)).map D.str))=M3 at lo t3 ⊢;refine pD (t3 _ _ rd.bd.at_) (i' rfl (pD (t3 _ _ i1) (i' rfl (i' (t3.lst i3) (qV (f:=AS) (t3.lst i3) _ [] _ (by rw[cX];simp only[dM];omega) (λd hd k hk=>?_) λp hp=>?_)))))
 .obtain⟨x,_,rfl⟩:=dE.mp hd;exact hk
 rw[d6,wR];have t:=qz.new (c:=.lst ((l.groups.map (·.1)).map D.str)) hp;refine i' (t.lst lo) (i' pK ⟨by rw[cX,cX,cX];omega,λrn hrn=>⟨pA rfl,λr hr=>?_⟩⟩);have t2:=t.trans (.new (c:=.lst (l.pn.map D.str++(l.groups.map (·.1)).map D.str)) hrn);have t3':=t2.trans (.new (c:=.lst [D.ref ro,.ref rn]) hr);refine⟨_,.refl,q _ r ro rn (t3.trans t3') hro ((t3.trans t).none hrn) pK (t3'.lst lo) ((qz.new hr).lst ?_)⟩;rw[pK,<-dQ];rfl
noncomputable def Dn(ls:List rA):Ev->List rA
 | .leg v=>ls++[v]
 | .merge i j _=>ls.map (rA.to i j)
 | _=>ls
noncomputable def ut(es:List Ev):List rA:=es.foldl Dn []
theorem G0:∀(es:List Ev) (V:qC),(qL V es).m8=es.foldl Dn V.m8
 | [],_=>rfl
 | e::r,V=>by
  have h:(qo V e).m8=Dn V.m8 e:=by cases e<;>rfl
  show(qL (qo V e) r).m8=_;rw[G0 r,h];rfl
def NK{V:qC}{es:List Ev}(h:V.m8=ut V.log):(qL V es).m8=ut (qL V es).log:=by rw[G0,Bg,h];unfold ut;rw[iI]
theorem Jz:∀(es:List Ev) (ls:List rA),(es.foldl Dn ls).length<=ls.length+es.length
 | [],_=>dz _
 | e::r,ls=>by
  have h:(Dn ls e).length<=ls.length+1:=by
   cases e<;>first
    | exact gB _
    | (show(ls++_).length<=_;rw[de];exact dz _)
    | (show(ls.map _).length<=_;rw[cX];exact gB _)
  have:=Jz r (Dn ls e);show(r.foldl Dn (Dn ls e)).length<=ls.length+(r.length+1);omega
def E5{M M':Mp}{p:Addr}{c:uT}(hp:M p=none)(s:qz M M'):qz M (pL M' p c):=λx d e=>sf.put x d (Qi e hp) (s x d e)
def Nt{α:Type}{f:α->D}{xs:List α}{pre post:List D}{d:D}(e:pre++d::post=xs.map f):∃x,xs[pre.length]?=some x/\d=f x/\xs.take (pre.length+1)=xs.take pre.length++[x]:=by
 have h:(xs.map f)[pre.length]?=some d:=by rw[<-e];simp
 rw[dF]at h;cases hx:xs[pre.length]? with
 | none=>rw[hx]at h;cases h
 | some x=>rw[hx]at h;refine⟨x,rfl,(dw h).symm,?_⟩;rw[gK,hx];rfl
def Nl:rC:=λds M Q=>AC λr es=>ds=[.ref r]/\pf M r=some (es.map Ev.d)/\es.length<=900000/\∀q M',qz M M'->pf M' q=some ((ut es).map rA.d)->Q (.ref q) M'
def Qk:Fq P w K mg base 2 a.bw (CQ a):=by
 refine fq G.bw.toDG uf (λr u=>⟨_,(pC (pR 1 uf (qP sG))
 (pC (uN fm rfl (qI (pH v0)) (rL 2 uf)
 (pC (pR 3 uf (pS (rB (qa rh rfl G.l qY (qr (pH U2))) (qa rh rfl G.l qY (qr (pH U2))) (qa rh rfl G.l qY (qr (pH U2))))))
 (pE (pU (ra U1 (qr (qc (qc (pS (so (pH U2) (pH U2))) U3) (pS (rB (pH U2) (pH U2) (pH U2))))))))))
 (pE (pJ (pS (qg (pH v0) (rB (qa rh rfl G.l qY (qr U1)) (qa rh rfl G.l qY (qr (zB rfl (pH v0) rfl G.b0))) (qa rh rfl G.l qY (qr (pH v0)))))))))),?_⟩)
 rintro ds M Q ⟨A,V,rfl,bd,Xu,h3,q⟩
 have hz:=dN;refine⟨pA rfl,λrr hrr=>?_⟩;have s0:=qz.new (c:=.lst []) hrr;dsimp only[tD];refine Tf (t:=Q7 _ _ _) (λδ M'=>qz M M'/\pf M' rr=some (V.calls.map Cq)/\∃y3 y4,δ=[some (.ref A.b),some (.ref rr),y3,y4]) (λnx Xg=>?_) ?_
 .refine pD (s0 _ _ bd.at_) (i' rfl (i' (s0.lst bd.ca) (vT (A.cs.map λk=>D.ref k.p) (λpre δ M'=>(qz M M'/\pf M' rr=some ((V.calls.take pre.length).map Cq))/\∃y3 y4,δ=[some (.ref A.b),some (.ref rr),y3,y4]) (λ_ _ M' j=>j.1.1.lst bd.ca) _ [] _ _ rfl ⟨⟨s0,pK⟩,none,none,rfl⟩ ?_ ?_)))
  .rintro pre d post e δ M' ⟨⟨s1,l1⟩,y3,y4,rfl⟩ nx2 Yf
   obtain⟨ka,c,e1,e2,rfl,hc,et⟩:=Bq bd e;obtain⟨ad,md,h1,h2,h3,h4,_⟩:=hc;rw[de,dS,et]at Yf;have hp:pre.length<V.calls.length:=(c9.mp e2).1;have g1:=s1 _ _ h1;refine pD g1 (i' rfl (i' (s1.lst h2) (pD g1 (i' rfl (i' (s1.lst h3) (pD g1 (i' rfl (i' (s1.lst h4) ⟨pA rfl,?_⟩))))))));refine⟨by show(pf M' rr).isSome=true;rw[l1];rfl,?_⟩;refine pD g1 (i' rfl (pD g1 (i' rfl ⟨pA rfl,eX _ _,by show 2+3<=sizeLine;omega,?_⟩)));refine pD g1 (i' rfl (pD g1 (i' rfl (pD g1 (i' rfl ⟨pA rfl,eX _ _,by show 5+3<=sizeLine;omega,?_⟩)))));refine i' l1 ⟨by rw[cX,fC];omega,Yf _ _ ⟨⟨E5 hrr s1,?_⟩,_,_,rfl⟩⟩;rw[dQ];exact pK
  .rintro δ M' ⟨⟨s1,l1⟩,y3,y4,rfl⟩
   rw[cX,bd.len,fu]at l1;exact Xg _ _ ⟨s1,l1,_,_,rfl⟩
 .rintro δ M1 ⟨s1,l1,y3,y4,rfl⟩
  refine pD (s1 _ _ bd.at_) (i' rfl (i' l1 (pD (s1 _ _ bd.at_) (i' rfl ⟨V.ps,s1.dk bd.nx,h3,λS hS=>i' pK ?_⟩))));have s2:=s1.trans (qz.new (c:=.lst ((sW V.ps).map yy)) hS);generalize pL M1 S (.lst ((sW V.ps).map yy))=M2 at s2 ⊢;exact pD (s2 _ _ bd.at_) (i' rfl (i' (s2.lst bd.on) ⟨pA rfl,M,s2,q⟩))
def Ld:Fq P w K mg base 2 a.bx Nl:=by
 refine fq G.bx.toDG vI (λr u=>⟨_,(pC (pR 1 vI (qP sG))
 (pC (uN fm rfl (qI v0) (rL 2 vI)
 (pC (pV (pM u (pQ U2 pF) pG)
 (pE (pU (ra U1 (qr (rW U2 (sD pF) sS)))))
 pP)
 (pE (pV (pM u (pQ U2 pF) pG)
 (pE (uM (i:=1) vI.nd rfl (Or.inl rfl) rfl (xt (ix:=[none,some 2]) (N':=["_law_leg","_law_event"])) (qI U1) (qJ 0) rN (L' (pM u (pQ v0 pF) (pQ U1 pF)) (qc (pS (qr (pQ U1 pF))) (rW v0 (sD pF) sS)) v0)))
 pP))))
 (pE (pJ U1)))),?_⟩)
 .rintro ds M Q ⟨r,es,rfl,lr,hes,q⟩
  have hz:=dN;refine⟨pA rfl,λrr hrr=>?_⟩;have s0:=qz.new (c:=.lst []) hrr;dsimp only[tD];refine Tf (t:=Q7 _ _ _) (λδ M'=>(∃q,qz M M'/\pf M' q=some ((ut es).map rA.d)/\∃y3,δ=[some (.ref r),some (.ref q),y3])) (λnx Xg=>?_) ?_
  .refine i' (s0.lst lr) (vT (es.map Ev.d) (λpre δ M'=>∃q,(qz M M'/\M q=none/\pf M' q=some ((ut (es.take pre.length)).map rA.d))/\∃y3,δ=[some (.ref r),some (.ref q),y3]) (λ_ _ M' j=>by obtain⟨q,j,_⟩:=j;exact j.1.lst lr) _ [] _ _ rfl ⟨rr,⟨s0,hrr,pK⟩,none,rfl⟩ ?_ ?_)
   .rintro pre d post e δ M' ⟨q,⟨s1,nq,l1⟩,y3,rfl⟩ nx2 Yf
    obtain⟨ev,e1,rfl,e2⟩:=Nt e;have hp:pre.length<es.length:=(c9.mp e1).1;have ll:(ut (es.take pre.length)).length<=pre.length:=by have:=Jz (es.take pre.length) [];rw[fC,dM]at this;unfold ut;omega
    have ef:ut (es.take (pre.length+1))=Dn (ut (es.take pre.length)) ev:=by rw[e2];unfold ut;rw[iI];rfl
    rw[de,dS,ef]at Yf;generalize ut (es.take pre.length)=ls at l1 ll Yf;have skip:∀M2,M'=M2->Dn ls ev=ls->∀y,nx2 [some (.ref r),some (.ref q),y] M2:=λM2 h1 h2 y=>h1 ▸ Yf _ _ ⟨q,⟨s1,nq,by rw[h2];exact l1⟩,_,rfl⟩;cases ev with
    | leg v=>refine i' rfl ⟨by show(pf M' q).isSome=true;rw[l1];rfl,i' l1 ⟨by rw[cX];omega,i' rfl (Yf _ _ ⟨q,⟨E5 nq s1,nq,?_⟩,_,rfl⟩)⟩⟩;rw[pK];show _=some ((ls++[v]).map rA.d);rw[dQ];rfl
    | merge i j ms=>
     refine i' l1 (zA (ls.map rA.d) (λpre acc δ M2=>M'=M2/\acc=(ls.take pre.length).map (λv=>(v.to i j).d)/\∃y,δ=[y,some (Ev.merge i j ms).d]) (λ_ _ _ M2 jj=>by rw[<-jj.1];exact l1) _ [] [] _ _ rfl (by rw[cX,dM];omega) ⟨rfl,rfl,none,rfl⟩ ?_ ?_)
     .rintro pre d post e acc δ M2 ⟨rfl,rfl,y,rfl⟩ k hk
      obtain⟨v,e1,rfl,e2⟩:=Nt e;rw[de,dS,e2,dQ]at hk;refine i' rfl (i' rfl (qM (c:=((v.i:Nat):Int)==(i:Nat)) (λg=>?_) (λg=>?_)))
      .have g:v.i=i:=Int.ofNat.inj (eq_of_beq g);refine⟨pA rfl,eX _ _,by show 1+3<=sizeLine;omega,hk _ _ _ ⟨rfl,?_,_,rfl⟩⟩;show _++[_]=_++[(v.to i j).d];unfold rA.to;rw[dh g];rfl
      .have g:v.i≠i:=λz=>g (by rw[z];exact fE _);refine hk _ _ _ ⟨rfl,?_,_,rfl⟩;show _++[_]=_++[(v.to i j).d];unfold rA.to;rw[df g]
     .rintro acc δ M2 ⟨rfl,rfl,y,rfl⟩ p1 X0
      rw[cX,fu];exact Yf _ _ ⟨p1,⟨s1.trans (.new X0),s1.none X0,by rw[pK];show _=some ((ls.map (rA.to i j)).map rA.d);rw[eA];rfl⟩,_,rfl⟩
    | sw b i=>
     cases b with
     | true=>exact i' rfl (i' rfl (skip M' rfl rfl _))
     | false=>exact i' rfl (i' rfl (skip M' rfl rfl _))
    | _=>exact i' rfl (i' rfl (skip M' rfl rfl _))
   .rintro δ M' ⟨q,⟨s1,nq,l1⟩,y3,rfl⟩
    rw[cX,fu]at l1;exact Xg _ _ ⟨q,s1,l1,_,rfl⟩
  .rintro δ M1 ⟨q1,s1,l1,y3,rfl⟩
   exact⟨M1,.refl,q q1 M1 s1 l1⟩
seal L3.E3 L3.B3 L3.A3 L3.S3 L3.Hn
def Ll:rC:=λds M Q=>∃ns:List Int,ds=[.rl (ns.map D.int)]/\ns.length<=63/\Q (.bl true) M
def Ln{M:Mp}{x:Addr}{ds:List D}(h:pf M x=some ds):Wr M (.ref x)=some (.type "list"):=by show Io (M x)=_;rw[qm h];rfl
def SS{M:Mp}{x y:Addr}{es:List Ev}(h1:pf M x=some (es.map Ev.d))(h2:pf M y=some (es.map Ev.d)):yY M 9 (.ref x) (.ref y)=some true:=DF h1 h2 λd hd=>by obtain⟨v,_,rfl⟩:=dE.mp hd;exact zx 7 _ (Ja 6 _ (PK v))
def UN(M:Mp)(e:Ev):Wr M e.d=some (.type "tuple"):=by cases e<;>rfl
def Ri:Fq P w K mg base 17 a.af Ll:=by
 refine fq G.af.toDG xN (λr u=>⟨_,(pC (pR 1 xN (pO (R6 G) r G.bt (so v0 pF)))
 (pC (Hk (pO (Kb G) r G.bu (qr U1)) (Pq (n:=2) rfl (qF (rL 2 xN) (qF (rL 3 xN) ub))))
 (pC (pR 4 xN (qP sG))
 (pC (uN fm rfl (qI (rW v0 (sD pF) (sD pF))) (rL 5 xN)
 (pC (pR 6 xN (pO (OV G) r G.bv (so U1 (pO (MP G) r G.bs (qg U1 (rB v5 U2 U3))))))
 (pC (pV (uR (pY zX rfl G.bT vX (so v6 (Nr rfl G.cG RX))))
 (pE GZ)
 pP)
 (pC (pV (W3.b3 (x8 (wU (uR (pY zX rfl G.bT vX (so v6 (Nr rfl G.z tO))))) (wJ (wU (uR (pY (BK rfl) rfl G.aM Cf (qr (qK rfl (xt (ix:=[none]) (N':=["_law_event"])) (qI v6) (qJ 0) rN (pY (HF (K:=K) rfl) rfl G.bT vX (so v0 (Nr rfl G.l qY)))))))))))
 (pE (pJ yt))
 pP)
 (pC (pR 4 xN (qc v4 v6))
 (pC (pU (ra v6 (qr (pS (qr pG)))))
 (pE (pV (W3.b3 (x8 (pM u (pH U1) v4) (wJ (pM u (pO (HL G) r G.aR (qr U1)) (pO (Qk G) r G.bw (qr U1))))))
 (pE (pJ yt))
 pP))))))))
 (pE (pJ (qv u (pH U1) (pO (Ld G) r G.bx (qr v4))))))))),?_⟩)
 rintro ds M Q ⟨ns,rfl,hns,q⟩
 have hz:=dN;refine⟨ns,6,rfl,by decide,by decide,λM0 M1 A p h s0 cu wf ps=>?_⟩;have p2:2<=(vp ns 6).mT.length:=Hc (by decide) (by decide);generalize vp ns 6=l at cu wf ps p2;have p8:=cu.ok.p8;have g3:=cu.ok.g3;have pl:l.pn.length=l.mT.length:=cX ..;have nl:l.nm.length=l.mT.length+l.groups.length:=by unfold pN.nm pN.pn pN.gn;rw[de,cX,cX]
 have e0:(V0 p h l []).log=[]/\(V0 p h l []).m8=ut (V0 p h l []).log:=⟨rfl,rfl⟩;generalize V0 p h l []=V at cu wf ps e0;obtain⟨e0,e1⟩:=e0;refine⟨A,V,l,rfl,cu.rd (by decide) wf,λM2 r ro rn s2 hro hrn lr lo ln=>i' lr ⟨rfl,?_⟩⟩;dsimp only[tD,zS,G7];have nro:=cu.bd.nU hro;have nrn:=cu.bd.nU hrn;refine⟨pA rfl,λlg ZN=>?_⟩;have t6:=qz.new (c:=.lst []) ZN;have l6:pf (pL M2 lg (.lst [])) lg=some (V.log.map Ev.d):=by rw[e0];exact pK
 have n6:lg∉A.foot:=(cu.sub s2).bd.nU ZN;have lo:=t6.lst lo;have ln:=t6.lst ln;have s2:=s2.trans t6;generalize pL M2 lg (.lst [])=M2 at lo ln s2 l6 ⊢;refine λsl Y3=>i' pK ?_;have t7:=qz.new (c:=.lst (L3.tZ (ns.map D.int) (some 1) (some 64))) Y3;have l7:=@pK M2 sl (L3.tZ (ns.map D.int) (some 1) (some 64));have hL:(L3.tZ (ns.map D.int) (some 1) (some 64)).length<=63:=by unfold L3.tZ;rw[fC,gh,cX];omega
 have hLi:∀d∈L3.tZ (ns.map D.int) (some 1) (some 64),∃c,d=.int c:=λd hd=>by unfold L3.tZ at hd;obtain⟨c,_,rfl⟩:=dE.mp (jc (jb hd));exact⟨c,rfl⟩
 generalize L3.tZ (ns.map D.int) (some 1) (some 64)=L at t7 l7 hL hLi ⊢;have n7:sl∉A.foot:=(cu.sub s2).bd.nU Y3;have lo:=t7.lst lo;have ln:=t7.lst ln;have l6:=t7.lst l6;have s7:=s2.trans t7;generalize pL M2 sl (.lst L)=M3 at l7 lo ln s7 l6 ⊢;have i9:=Lp.mk0 (cu.sub s7) wf ps;have l7:=Et l7 n7;have lo:=Et lo nro;have ln:=Et ln nrn;generalize Ms A M3=N at i9 l7 lo ln;generalize hb:A.b=b at i9 ⊢;refine vT L (λpre δ M'=>(∃A V lg,Lp a M0 N M' b A V l pre.length/\V.m8=ut V.log/\pf M' lg=some (V.log.map Ev.d)/\lg∉A.foot/\∃y5 y6,δ=[some (.rl (ns.map D.int)),some (.ref b),some (.ref ro),some (.ref rn),some (.ref lg),y5,y6])) (λ_ _ M' j=>by obtain⟨A,V,lg,g,_⟩:=j;exact g.s.lst l7) _ [] _ _ rfl ⟨A,V,lg,i9,e1,l6,n6,none,none,rfl⟩ ?_ ?_
 .clear i9 n7 n6 l6 s7 t7 Y3 cu wf ps hb lr nro nrn hro hrn e0 e1
  rintro pre d post e δ M' ⟨A,V,lg,g,el,l6,n6,y5,y6,rfl⟩ nx2 Xg
  have hx:L[pre.length]?=some d:=by rw[<-e];simp
  have pl5:pre.length<63:=dP (c9.mp hx).1 hL;obtain⟨c0,rfl⟩:=hLi d (rm hx);rw[de,dS]at Xg;generalize pre.length=m at g pl5 Xg;dsimp only[tD,zS,G7];have eb:=g.cu.b;subst eb;refine⟨A,V,l,_,ro,rn,l.pn,l.nm,rfl,g.rd (by omega),g.wf,λk hk=>(g.cu.sz.cs k hk).2.1,g.s.lst lo,g.s.lst ln,λz=>by rw[z]at pl;simp only[dM]at pl;omega,λz=>by rw[z]at nl;simp only[dM]at nl;omega,by omega,by omega,λM2 e s f=>?_⟩;have g:=g.sub s;have l6:=s.lst l6;refine⟨M0,A.b,A,V,l,_,_,e,rfl,g.cu,by omega,by omega,g.wf,f,λhr M3 A3 r c3 XC YX=>?_,λw0 _=>?_⟩
  rotate_left
  .exact i' rfl ⟨λC z=>(by cases z),i' G.cC (Xg _ _ ⟨A,V,lg,g.nE,el,l6,n6,_,_,rfl⟩)⟩
  have g3:=g.after (by omega) f hr c3 XC;have lg3:=sF (XC.1 lg _ n6 (qm l6));have n3:=DX XC n6 (qm l6);have el3:=NK (es:=va l V e) el;have er:(qL V (va l V e)).log=V.log++va l V e:=Bg _ _;have W9:=c3.sz.lo;have hca:=c3.sz.ca;generalize qL V (va l V e)=V3 at g3 el3 er W9 hca c3;generalize va l V e=es at er ⊢;clear c3 XC g l6 n6 f;have ZC:V3.log.length=V.log.length+es.length:=by rw[er,de]
  have t4:=qz.new (c:=.lst (es.map Ev.d)) YX;have lr:=@pK M3 r (es.map Ev.d);have lg4:=t4.lst lg3;generalize pL M3 r (.lst (es.map Ev.d))=M4 at t4 lr lg4 ⊢;refine i' (Ln lr) ⟨λC z=>(by cases z),i' G.cD ?_⟩;refine i' (Ln lr) ⟨λC z=>(by cases z),i' G.cE ?_⟩;refine i' lr (qV (f:=λ_=>.bl true) lr _ [] _ (by rw[cX];simp only[dM];omega) (λd hd k hk=>?_) λp1 X0=>?_)
  .obtain⟨ev,_,rfl⟩:=dE.mp hd;exact i' (UN _ ev) ⟨λC z=>(by cases z),i' G.cF hk⟩
  rw[d6];have all1:((es.map Ev.d).map λ_=>true).all id=true:=by rw[iV];exact eG.mpr λ_ _=>rfl
  refine i' pK (i' (wI (λ_=>true) (es.map Ev.d)) ?_);rw[all1];have t5:=t4.trans (qz.new (c:=.lst ((es.map Ev.d).map λ_=>D.bl true)) X0);have lr:=(qz.new (c:=.lst ((es.map Ev.d).map λ_=>D.bl true)) X0).lst lr;have lg5:=(qz.new (c:=.lst ((es.map Ev.d).map λ_=>D.bl true)) X0).lst lg4;generalize pL M4 p1 (.lst ((es.map Ev.d).map λ_=>D.bl true))=M5 at t5 lr lg5 ⊢;refine JO ?_;dsimp only[Vs];refine i' lg5 (i' lr ⟨by rw[cX,cX];omega,λp2 Xd=>?_⟩);dsimp only[tD];have ne:p2≠r:=λz=>by have:=qm lr;rw[<-z,Xd]at this;cases this
  have l6:pf (pL M5 p2 (.lst (V.log.map Ev.d++es.map Ev.d))) p2=some (V3.log.map Ev.d):=by rw[er,dQ];exact pK
  have t6:=t5.trans (qz.new (c:=.lst (V.log.map Ev.d++es.map Ev.d)) Xd);have lr:=(qz.new (c:=.lst (V.log.map Ev.d++es.map Ev.d)) Xd).lst lr;have n6:=g3.cu.bd.nU (t5.none Xd);generalize pL M5 p2 (.lst (V.log.map Ev.d++es.map Ev.d))=M6 at t6 lr l6 ⊢;refine⟨by show(pf M6 r).isSome=true;rw[lr];rfl,pA rfl,i' lr ⟨by rw[cX];omega,?_⟩⟩;have t7:qz M3 (pL M6 r (.lst (es.map Ev.d++[.tup [.str "turn"]]))):=E5 YX t6;have l7:pf (pL M6 r (.lst (es.map Ev.d++[.tup [.str "turn"]]))) p2=some (V3.log.map Ev.d):=sF (sf.put _ _ ne (qm l6));generalize pL M6 r (.lst (es.map Ev.d++[.tup [.str "turn"]]))=M7 at t7 l7 ⊢;have g7:=g3.sub t7;have eb:=g7.cu.b;refine pD g7.cu.at_ (i' rfl (i' rfl (i' (SS g7.cu.bd.lo l7) (JO ?_))));refine⟨A3,V3,by rw[eb],g7.cu.bd,by omega,g7.ps,A3,V3,by rw[eb],g7.cu.bd,by omega,g7.ps,?_⟩;exact i' (zx 8 _ (Me V3)) (JO (Xg _ _ ⟨A3,V3,p2,g7,el3,l7,n6,_,_,rfl⟩))
 .rintro δ M' ⟨A,V,lg,g,el,l6,n6,y5,y6,rfl⟩
  have hl:=g.cu.sz.lo;refine pD g.cu.at_ (i' rfl ?_);refine⟨lg,V.log,rfl,l6,by omega,λq1 M2 s2 l2=>?_⟩;have g2:=g.sub s2;refine i' (DF g2.cu.bd.le (el ▸ l2) λd hd=>?_) ⟨M,s0.trans g2.cu.s0,q⟩;obtain⟨v,_,rfl⟩:=dE.mp hd;exact zx 7 _ rfl
end Z
end
structure PySem.W.Fast:Prop where(tw958806710458020372 tw9380967611774384173 tw920494536645874115 tw6882186619061527915 tw6754356360398315403 tw5903347890530648212 tw5744200146378192953 tw5655052705223939140 tw5512755300844564715 tw4444012629598190155 tw1839667787592676113 tw18079227111644374548 tw17638415967946126570 tw1710899366264036596 tw15654727053483253769 tw15445276541020925700 tw15367321310613170852 tw14413482794120717009 tw14126442741117571609 tw13781617338459353215 tw13610880623179833889 tw13567714887162325903 tw13200469392895695708 tw12230064147943115618 tw11477855038595462540 tw11320202462779886426 tw1086186527404002714 tw10731756499439482980 tw10390904559289439000 tw10369560111597310523 tw17480114881495785004 tw15915388375555737699 tw259839668581237447 tw15065173281621021799 tw9984934361409080622 tw5812346507381898157 tw5821124259539294492 tw15841584651623513686 tw8718283674817958410 tw5718556683615676329 tw10610154883008190240 tw9335991257721752565 tw2371598036416545652 tw14838426095971824200 tw1657755918054999571 tw3087401962715200423 tw30651423339706907 tw9321800944589478921 tw9910196115254392274 tw7478458444613307243 tw5303748641090143551 tw9038205489031098475 tw1520960735991636712 tw16191667725026897452 tw10192741745421563923 tw1521429417500226733 tw3199425694478427425 tw15764518985378241125 tw4129609860924440742 tw13817276671910309643 tw1568261071669863273 tw7265687709821070678 tw10709771150489973408 tw4176794265430846769 tw10981697954197162128 tw112385100207509530 tw6033955457355638521 tw14737195416758868808 tw8520337253685223960 tw7533030580809605251 tw10259963091572423194 tw11228678278054205951 tw13675623776886846609 tw16789434301572593684 tw11455457755349519581 tw17211478924148858500 tw6801990581028762219 tw10091957695119676047 tw5640295847090295132 tw16289692971550853376 tw5235044025775432807 tw5929037494977673228 tw10596328871741074196 tw4000229173801129891 tw15661189278858265403 tw15299164163067905882 tw14914020016669349757 tw3142921270829218094 tw11729062082293287109 tw2384663846948976665 tw3745047543697732427 tw8486823532779165039 tw6747433601064993797 tw7672301712146027871 tw10715856397016946027 tw10980510423473936740 tw7116035678247577775 tw7674487673413764378 tw17706458462726325913 tw2978637949567893532 tw1657904826465773990 tw8941947124238738894 tw9512467448669661362 tw13180650173957926919 tw15766925641454430506 tw3341514290606171028 tw14773268339191610048 tw14772294837488578146 tw18119487649992649018 tw2995803072817468321 tw6981237925065045320 tw9211082222534490723 tw12995250288949682051 tw1922559758878382352 tw10999531631220912103 tw299096798755003699 tw14870169805507856933 tw7442935385627265935 tw16692203637850975626 tw10666675441737927701 tw8460734743566251944 tw28594869515354894 tw13509178694663782587 tw15978452077356348374 tw2169763795863965941 tw15634397721198492225 tw13649106743813251606 tw6877857147579620331 tw1234826485369574409 tw2192171773105966436 tw13075022242847430482 tw11797508994356896578 tw15234921381918249446 tw3324222733766238618 tw8228972709353399431 tw13493189190723080484 tw5890402843466231930 tw7734784677608328210 tw3548261496979972574 tw6408204470320345167 tw4960840293471598875 tw17612891463456016989 tw16236616765583144137 tw17525572672559930492 tw17130669403880852383 tw14377926881987204570 tw15345490290299501102 tw1812094255510769485 tw9945906101734180330 tw5891783381471723264 tw10383038593150897316 tw11278949915939755197 tw10533242138929650689 tw17748895088579720065 tw11953933756359522116 tw5438940481673957163 tw5779656352358496612 tw2143955358602595725 tw7674067110091733709 tw2859439439632942446 tw3589754052373039289 tw10875072105285119073 tw3151476416933418615 tw7048873802607250930 tw2738484296386368962 tw16863654798975893114 tw15771572922740813099 tw11747672081349915118 tw11792492785035737588 tw17877376872675245212 tw230081411316453071 tw15473076618877825099 tw18429085278312407771 tw18405166705381784806 tw10479542950336876108 tw950728017256372562 tw282019341171320438 tw4301393096505648822 tw569397343082828890 tw13679783689059142235 tw11056153091932408969 tw15234999312603409615 tw15530607586842400871 tw16794100006576902169 tw9263729737269074257 tw4818274999326396442 tw1022455618269679012 tw3570411515384531194 tw16706161041260971555 tw7420039414345662117 tw13376735883234602492 tw9607967535318163262 tw10312302080507773263 tw9846263489594720262 tw16446705858928917309 tw17949811584044527595 tw16836993893176949742 tw16913390977058143562 tw5036615567370204351 tw373197332420627660 tw11230640262738937840 tw2587665963313992665 tw2711427407122079952 tw7617910536128401434 tw11143323482129620520 tw1675191845583550913 tw10231075614767072410 tw7987308951683283127 tw4567981685067331855 tw5232923156575982465 tw2106268823876400323 tw1085213773734198248 tw17039946637372651404 tw15002350826375713209 tw402455363713415526 tw8716349698605562094 tw3976055997391022191 tw6475327092713419070 tw11989252783281641582 tw4445345917157997542 tw10948849644721039394 tw10843016301990117477 tw17112854263298891844 tw15312208659518436616 tw13350441919894461687 tw6317227649418719966 tw18194267292373437037 tw14742871715274535445 tw12224426577128587822 tw1528153963009391766 tw11580496581996118390 tw8573675189354270572 tw14403993813686821272 tw14411627286369586431 tw7677576142851142322 tw14461559074922528021 tw2994661157522824028 tw12167100605344204793 tw16860124463131725833 tw5687815194759734152 tw2672019841561990065 tw5504941599702248010 tw7902635443233636418 tw16701092350357212852 tw17067884801117106795 tw1606190260812596355 tw12744308521470630391 tw379215578396678035 tw6650920944838379548 tw14113234555722164681 tw13110695894079680372 tw17520040278257516996 tw2954284464020147582 tw4144142024801290116 tw10227796324388172175 tw1525653692101265926 tw4313461329809687682 tw12403164587672560000 tw14199556115023078756 tw18030774674294102602 tw763466258968976327 tw6297071776333228675 tw9320713826704426846 tw18400855643261848320 tw10505117509734717542 tw3196845845839549847 tw16112166988700172877 tw8805027521647597166 tw14741762804330252027 tw6916051315360768997 tw307916351979886618 tw12125677724186437666 tw4520765945455597535 tw8986784501007803632 tw17244478369441290201 tw11978892640263508464 tw1408636152267612416 tw14657550966795241577 tw3488730421824510054 tw14175504673135894988 tw5388527064506134076 tw18116583846530966467 tw9026459159402723238 tw9458144463710023179 tw1314517915687279886 tw3651497068259533239 tw4178468079938512252 tw16614024089059363446 tw17830797557268919534 tw14835549081378305744 tw15188348004066581349 tw9398336094030934222 tw3576265826584752012 tw9060067843863724584 tw8784685838458415234 tw1124373644604788246 tw13818617791325928937 tw9856870815935424345 tw1912291751118477732 tw8338520768044470046 tw8269579535101116242 tw8133864425592238685 tw11772408717460194596 tw10100958247383514061 tw931314587071618265 tw13533514824581868575 tw4388676096331914262 tw12132904453240097553 tw8689304324453676854 tw5495354925452839791 tw17621989590459346760 tw8180688329935888572 tw6083310332354636077 tw5523163231267496065 tw8897576672310907642 tw5997174156164139452 tw15110813410982334079 tw2899413101097128305 tw14206877052765845636 tw1037797701876841151 tw7085348613271213831 tw5906376077127673063 tw701450986523033631 tw2302506134626354005 tw7202163607829679952 tw857858308618612441 tw1243858751107407637 tw3897522666595502165 tw9316842036746336478 tw1927998237991229113 tw6448015570807072805 tw929682053725462525 tw3208295943960897667 tw2271792938517079519 tw15803957567125085059 tw14555946498059664347 tw6587046287219673305 tw171863083414983848 tw11900150490425334875 tw1511808428003053661 tw17096782352106311403 tw10718314570302093066 tw2422876768349650835 tw2029138862475915685 tw8459941433901558617 tw15072321219504444518 tw9152028794379039835 tw3510606627434913057 tw12519786342596216742 tw17649293937242718218 tw13617463024656164604 tw12550316407065379839 tw5019406525277531536 tw16840183633126936424 tw18033421324957304150 tw9666312184727758198 tw5657055271111371891 tw5839297258816420236 tw17434312145300679941 tw7494773261016148729 tw2148233687562384736 tw1854365387054337389 tw11823870338499021010 tw518080164918197307 tw4583313590490897356 tw3267243460047299611 tw15802064285356727809 tw5411354819212056633 tw8842648840901185316 tw8056137265610276449 tw6185281580072182706 tw8200474375568352121 tw4275043168126097220 tw2258602373545589433 tw12953738957118873371 tw3079611984892846632 tw8967315165190967216 tw8845343707694802840 tw745043959530627867 tw1988562555368000215 tw7918295815117328122 tw8461958864769576384 tw2248884461409574233 tw5545987329670589072 tw15681185248982232351 tw11704977664825824165 tw4380505609160176904 tw4635935849372665949 tw5095577857622187563 tw2323689574288889328 tw16500554802430702442 tw16442941722215457031 tw15705142176536929074 tw11016639099504333950 tw10570015644476674783 tw12598642684210163120 tw8685734395386487637 tw6167298056276704385 tw7604553902332319197 tw8468590141910633817 tw836443229567723461 tw4113566010059507145 tw1936637890976335916 tw14181315987933798895 tw11902283257597289639 tw17289892467332058163 tw12250990157499002406 tw8405186973263333806 tw7637546126270819451 tw6349438008155618450 tw6058487393647199125 tw5892026362831637206 tw12812352413317117927 tw9181145063774802078 tw8106517370619574709 tw15292289112729560356 tw12083060581873928819 tw5796401335308339760 tw305694012166270431 tw1948762937378949103 tw17265461717271873379 tw4051661234685336014 tw14768132204814804904 tw2968250353972112082 tw15172320000746530694 tw10806464722964950325 tw3577724976732937485 tw11641713410054596130 tw2087877663738709354 tw11911493110704628922 tw2172739899842113101 tw5691590581119115349 tw11640389987040148079 tw10869817521854217589 tw10713480691315109957 tw14281174149714075155 tw4318133711227314398 tw14297339762919383948 tw5168482898171784464 tw17383587133831366981 tw18263702035177585452 tw17312159888329676354 tw16312821308977982239 tw14072836539343400985 tw12400827700453364294 tw6638001314684520809 tw12380440963413507828 tw6114539102349784177 tw16030219421156725044 tw15513992835834450375 tw1075923290758540845:True)
open PySem PySem.W PyProof.Rows L2 L3
def xZqN:Option Obj->Option Obj
|some ⟨_,_,.freed,_⟩=>none
|o=>o
def xZqP (h:Heap):List Nat->Nat->List Obj->List (Option Obj)
|[],_,_=>[]
|a::l,i,r=>bif i.ble a then xZqN (r.drop (a-i)).head?::xZqP h l a (r.drop (a-i)) else h.get? a::xZqP h l i r
theorem xZqQ (h:Heap):∀l i r,r=h.objs.toList.drop i->xZqP h l i r=l.map h.get?
|[],_,_,_=>rfl
|a::l,i,r,e=>by
 unfold xZqP;cases z:i.ble a with
 |false=>exact congrArg (h.get? a::·) (xZqQ h l i r e)
 |true=>
  have d:r.drop (a-i)=h.objs.toList.drop a:=by have:=Nat.le_of_ble_eq_true z;rw [e,List.drop_drop];congr 1;omega
  show xZqN (r.drop (a-i)).head?::xZqP h l a (r.drop (a-i))=_;rw [xZqQ h l a _ d,d,List.head?_drop,Array.getElem?_toList];rfl
def xZqH (K:Params->Frag) (as:List Addr) (e:∀P,as=(K P).map (·.1)) (_:Unit):Hook:=⟨_,λs=>xZqP s.heap as 0 s.heap.objs.toList,λw=>(K w.params).map λp=>some p.2,InK K,λw s x=>InK.of e w s ((xZqQ s.heap as 0 s.heap.objs.toList rfl).symm.trans x),InK.keeps⟩
local macro_rules|`(tactic|o_head ($f $k $a $e))=>`(tactic|o_head (xZqH $k $a $e ()))
set_option maxRecDepth 100000 in
set_option maxHeartbeats 0 in
theorem PySem.Challenge.cw_callboard_k25_the_log_is_told_holds : PySem.Challenge.rw_callboard_k25_the_log_is_told.Holds := by
 w_on;o_law;k_head;(case hw=>w_witness2)
 k_fill
 refine L3.K0 (l:=PySem.Challenge.rw_callboard_k25_the_log_is_told) (sp:=Z.Ll) (k:=17) (x:="_law_script") rfl rfl ⟨rfl,by decide,by decide⟩ (λ_ _ Y=>Y) (λns hl=>⟨ns,rfl,hl,rfl⟩) ?F;case F=>
  intro w mg fa h KX G hmg;suffices h:∃a:Z.Ad,Z.Gl _ mg a/\∀(s:Shared) (u:Value),BindsTo s a.af.d ⟨[u],[]⟩ [("_law_script",u)]by obtain⟨a,g,hb⟩:=h;have e:=hmg.symm.trans g.af.mg;cases e;exact⟨a.af.d,hb,λbase _ _=>g.af.pe ▸ Z.Ri g⟩
  refine'⟨⟨_,_,_,_,_,_,_,_,_,_,_,_,_,_,_,_,_,_,_,_,_,_,_,_,_,_,_,_,_,_,_,_,_,_,_,_,_,_,_,_,_,_,_,_,_,_,_,_,_,_,_,_,_,_,_,_,_,_,_,_,_,_,_,_,_,_,_,_,_,_,_,_,_,_,_,_,_,_,_,_,_,_,_,_,_,_,_,_,_,_,_,_,_,_,_,_,_,_,_,_,_,_,_,_,_,_,_,_,_,_,_,_,_,_,_,_,_,_,_,_,_,_,_,_,_,_,_,_,_,_,_,_⟩,⟨ww KX G ..,ww KX G ..,ww KX G ..,ww KX G ..,ww KX G ..,ww KX G ..,ww KX G ..,ww KX G ..,ww KX G ..,ww KX G ..,ww KX G ..,ww KX G ..,ww KX G ..,PySem.W.mg_of KX G ?_,PySem.W.mg_of KX G ?_,qx KX G ..,qx KX G ..,qx KX G ..,qx KX G ..,qx KX G ..,qx KX G ..,qx KX G ..,qx KX G ..,qx KX G ..,qx KX G ..,qx KX G ..,qx KX G ..,qx KX G ..,qx KX G ..,qx KX G ..,qx KX G ..,qx KX G ..,qx KX G ..,qx KX G ..,qx KX G ..,qx KX G ..,qx KX G ..,qx KX G ..,qx KX G ..,qx KX G ..,qx KX G ..,qx KX G ..,qx KX G ..,qx KX G ..,qx KX G ..,qx KX G ..,qx KX G ..,qx KX G ..,qx KX G ..,qx KX G ..,qx KX G ..,qx KX G ..,qx KX G ..,qx KX G ..,qx KX G ..,qx KX G ..,qx KX G ..,qx KX G ..,qx KX G ..,qx KX G ..,qx KX G ..,qx KX G ..,qx KX G ..,qx KX G ..,qx KX G ..,qx KX G ..,qx KX G ..,qx KX G ..,qx KX G ..,qx KX G ..,qx KX G ..,qx KX G ..,qx KX G ..,qx KX G ..,qx KX G ..,qx KX G ..,qh ..,qh ..,qh ..,qh ..,qh ..,qh ..,qh ..,qh ..,qh ..,qh ..,qh ..,qh ..,qh ..,qh ..,qh ..,qh ..,qh ..,qh ..,qh ..,qh ..,qh ..,qh ..,qh ..,qh ..,qh ..,qh ..,qh ..,qh ..,qh ..,qh ..,qh ..,qh ..,qh ..,qh ..,qh ..,qh ..,qh ..,qh ..,qh ..,qh ..,qh ..,qh ..,qh ..,qh ..,qh ..,qh ..,qh ..,qh ..,qh ..,qh ..,qh ..,qh ..,qh ..,qh ..,qh ..,qh ..,Nm ?_ ?_ ?_ ?_ ?_ ?_ ?_ ?_ ?_ ?_,KP ?_ ?_ ?_,⟨UO ?_ ?_ ?_ ?_ ?_ ?_ ?_ ?_,?_,?_⟩,P6 ?_ ?_ ?_ ?_,⟨?_,?_,?_,?_⟩,⟨?_,?_,?_,?_⟩,⟨?_,?_,?_,?_⟩,⟨?_,?_,?_,?_⟩,⟨?_,?_,?_,?_⟩,⟨?_,?_,?_,?_⟩,⟨?_,?_,?_,?_⟩,⟨?_,?_,?_,?_⟩,⟨?_,?_,?_,?_⟩,⟨?_,?_,?_,?_⟩,⟨?_,?_,?_,?_⟩,⟨?_,?_,?_⟩,⟨?_,?_,?_⟩,⟨?_,?_,?_⟩,⟨?_,?_,?_⟩,⟨?_,?_,?_⟩,⟨?_,?_,?_⟩,⟨?_,?_,?_⟩,⟨?_,?_,?_⟩,⟨?_,?_,?_⟩,⟨?_,?_,?_⟩,⟨?_,?_,?_⟩,⟨?_,?_,?_⟩,⟨?_,?_,?_⟩,⟨?_,?_,?_⟩,⟨?_,?_,?_⟩,⟨?_,?_,?_⟩,⟨?_,?_,?_⟩,⟨?_,?_,?_⟩,⟨?_,?_,?_⟩,⟨?_,?_,?_⟩,⟨?_,?_,?_⟩,(pW ?_ (pW ?_ (pW ?_ (pW ?_ (pW ?_ (pW ?_ (pW ?_ (pW ?_ tG)))))))),(pW ?_ (pW ?_ (pW ?_ (pW ?_ (pW ?_ (pW ?_ tG)))))),(pW ?_ (pW ?_ (pW ?_ tG))),(pW ?_ (pW ?_ (pW ?_ tG))),(pW ?_ (pW ?_ (pW ?_ tG))),(pW ?_ (pW ?_ (pW ?_ (pW ?_ (pW ?_ tG))))),(pW ?_ (pW ?_ (pW ?_ tG))),(pW ?_ (pW ?_ (pW ?_ (pW ?_ tG)))),(pW ?_ (pW ?_ tG)),(pW ?_ (pW ?_ tG)),(pW ?_ (pW ?_ (pW ?_ (pW ?_ (pW ?_ (pW ?_ (pW ?_ (pW ?_ tG)))))))),Cs,Q6 S0 ?_ (λ_=>rfl),Cs,Cs,PySem.W.mg_none_of KX G ?_,PySem.W.mg_none_of KX G ?_,PySem.W.mg_none_of KX G ?_,PySem.W.mg_none_of KX G ?_,PySem.W.mg_none_of KX G ?_,PySem.W.mg_none_of KX G ?_,PySem.W.mg_none_of KX G ?_,PySem.W.mg_none_of KX G ?_,PySem.W.mg_none_of KX G ?_,PySem.W.mg_none_of KX G ?_,PySem.W.mg_none_of KX G ?_,PySem.W.mg_none_of KX G ?_,PySem.W.mg_none_of KX G ?_,PySem.W.mg_none_of KX G ?_,vS (PySem.W.mg_of KX G ?_),vS (PySem.W.mg_of KX G ?_),vS (PySem.W.mg_of KX G ?_),vS (PySem.W.mg_of KX G ?_),Oz (PySem.W.mg_of KX G ?_) (ux (ss:=["all","turns"]) ?_ (.cons ⟨_,rfl⟩ (.cons ⟨_,rfl⟩ .nil)) (Nat.le_of_ble_eq_true rfl)),vS (PySem.W.mg_of KX G ?_),vS (PySem.W.mg_of KX G ?_),vS (PySem.W.mg_of KX G ?_),RT (PySem.W.mg_of KX G ?_),OD (es:=[⟨_,.str "bar" _,.ref _⟩,⟨_,.str "shut" _,.ref _⟩,⟨_,.str "always" _,.ref _⟩,⟨_,.str "night" _,.ref _⟩,⟨_,.str "busy" _,.ref _⟩,⟨_,.str "silent" _,.ref _⟩,⟨_,.str "wait" _,.ref _⟩,⟨_,.str "breaks" _,.ref _⟩]) (PySem.W.mg_of KX G ?_) ?_ ?_ (.cons rfl ⟨_,rfl,(ux (ss:=["phone","names"]) ?_ (.cons ⟨_,rfl⟩ (.cons ⟨_,rfl⟩ .nil)) (Nat.le_of_ble_eq_true rfl))⟩ (.cons rfl ⟨_,rfl,(ux (ss:=["name","phones"]) ?_ (.cons ⟨_,rfl⟩ (.cons ⟨_,rfl⟩ .nil)) (Nat.le_of_ble_eq_true rfl))⟩ (.cons rfl ⟨_,rfl,(ux (ss:=["name","name"]) ?_ (.cons ⟨_,rfl⟩ (.cons ⟨_,rfl⟩ .nil)) (Nat.le_of_ble_eq_true rfl))⟩ (.cons rfl ⟨_,rfl,(ux (ss:=["name","name","hour","hour"]) ?_ (.cons ⟨_,rfl⟩ (.cons ⟨_,rfl⟩ (.cons ⟨_,rfl⟩ (.cons ⟨_,rfl⟩ .nil)))) (Nat.le_of_ble_eq_true rfl))⟩ (.cons rfl ⟨_,rfl,(ux (ss:=["name","name"]) ?_ (.cons ⟨_,rfl⟩ (.cons ⟨_,rfl⟩ .nil)) (Nat.le_of_ble_eq_true rfl))⟩ (.cons rfl ⟨_,rfl,(ux (ss:=["name","name","turns"]) ?_ (.cons ⟨_,rfl⟩ (.cons ⟨_,rfl⟩ (.cons ⟨_,rfl⟩ .nil))) (Nat.le_of_ble_eq_true rfl))⟩ (.cons rfl ⟨_,rfl,(ux (ss:=["phone"]) ?_ (.cons ⟨_,rfl⟩ .nil) (Nat.le_of_ble_eq_true rfl))⟩ (.cons rfl ⟨_,rfl,(ux (ss:=["phone"]) ?_ (.cons ⟨_,rfl⟩ .nil) (Nat.le_of_ble_eq_true rfl))⟩ .nil)))))))),vS (PySem.W.mg_of KX G ?_),vS (PySem.W.mg_of KX G ?_),vS (PySem.W.mg_of KX G ?_)⟩,λs u=>.of_eq rfl⟩
  all_goals try first|k_is|(intro _ _ _ _ _ _ us hl;rcases us with _|⟨_,_|⟨_,_|⟨_,_|⟨_,_|⟨_,_|⟨_,us⟩⟩⟩⟩⟩⟩<;>first|rfl|(exfalso;revert hl;simp;done))|rfl
