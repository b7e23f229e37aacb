import PyProof.Rows.All
import Wide.All
import OpenK.AllK
import Wide.FinOn
import PyProof.EqAt
import PyProof.EqKinds
import PyProof.TupleCall
import KE.BitLaws
import KE.OsHead
import KE.OsGo
import Open.SpecLaws
import KE.KSortTupG
import KE.KSortTupUse
import PySem.Challenge.RW_squaretrees_s01_answers
set_option compiler.extract_closed false
set_option bootstrap.genMatcherCode false
set_option Elab.async false
set_option linter.all false
set_option maxRecDepth 100000
open Array renaming forIn_toList->WK,getD_eq_getD_getElem?->fT,getElem?_eq_getElem->kf,getElem?_eq_none->Gy,getElem?_eq_some_iff->xX,getElem?_map->WL,getElem?_toList->de,isEmpty_iff_size_eq_zero->QP,length_toList->wr,mem_toList_iff->Hf,replicate->Ak,toList->K8,toList_append->Vn,toList_filterMap->T9,toList_inj->zy,toList_map->zA,toList_push->WW
open Array.Perm renaming refl->Vh
open Bool renaming and_eq_true->cQ,and_eq_true_iff->Vo,and_false->J_,decide_and->Jv,eq_false_iff->Yc,eq_iff_iff->kF,false_and->Ka,false_eq_true->gG,false_ne_true->bI,noConfusion->fm,or_eq_true->uo
open Classical renaming byContradiction->fV,choose->Vj,choose_spec->RR,propDecidable->Rg
open False renaming elim->bR
open ForInStep renaming yield->tX
open Function renaming comp->Yd
open Int renaming fdiv_eq_ediv_of_nonneg->SM,le_refl->Cu,lt_add_one_of_le->WM,natAbs_zero->uK,natCast_add->mY,natCast_emod->Ag,natCast_nonneg->Yf,sub_self->qD,toNat_natCast->fk
open Int.ofNat renaming inj->Ar
open List renaming all_eq_true->kC,all_map->BW,any_cons->uX,any_eq_true->mR,append_assoc->mM,append_eq_nil_iff->Ue,append_nil->iL,cons_append->ui,drop_eq_getElem_cons->SN,eraseIdx_cons_succ->Gw,eraseIdx_eq_take_drop_succ->QQ,eraseIdx_sublist->GW,ext_getElem->uj,ext_getElem?->Yg,filterMap_cons->yB,filter_append->mG,filter_congr->Yh,filter_cons->eK,filter_cons_of_neg->Gx,filter_cons_of_pos->T',filter_eq_nil_iff->GR,filter_eq_self->yC,filter_nil->Aq,find?_cons->kG,find?_cons_of_neg->Ug,flatMap_append->yD,flatMap_cons->iH,flatMap_map->Jp,foldl_append->IA,foldl_cons->kH,getD_eq_getElem?_getD->Sc,getElem?_append_left->mz,getElem?_append_right->pJ,getElem?_cons_succ->x3,getElem?_cons_zero->Ua,getElem?_drop->WZ,getElem?_eq_getElem->wS,getElem?_eq_none->GX,getElem?_eq_none_iff->xY,getElem?_eq_some_iff->P4,getElem?_eraseIdx->Uh,getElem?_map->wP,getElem?_range->ku,getElem?_replicate->Ub,getElem?_reverse->GY,getElem?_set->Yi,getElem?_set_ne->Hh,getElem?_set_self->GS,getElem?_take_of_lt->Gj,getElem?_toArray->kn,getElem_map->zC,getElem_mem->f6,getElem_range->tL,isEmpty_iff->mS,length->dm,length_append->Rs,length_cons->Os,length_drop->pZ,length_eq_zero_iff->cC,length_eraseIdx->pM,length_eraseIdx_le->Uc,length_erase_of_mem->SU,length_filter_le->iC,length_map->dL,length_nil->mX,length_pos_iff->pP,length_pos_of_mem->GU,length_range->aI,length_range'->ju,length_reverse->HR,length_set->uq,length_singleton->fW,length_take->dG,lookup->kQ,lookup_cons->kD,map_append->GM,map_congr_left->fY,map_cons->FS,map_drop->uY,map_eq_nil_iff->iF,map_map->P6,map_nil->gO,map_singleton->HU,map_take->uZ,mem_append->NE,mem_append_left->pN,mem_append_right->iD,mem_cons->wl,mem_cons_of_mem->AT,mem_cons_self->Go,mem_eraseIdx_iff_getElem?->sU,mem_erase_of_ne->Vp,mem_filter->dh,mem_filterMap->HV,mem_flatMap->mT,mem_iff_getElem?->fX,mem_map->nw,mem_of_find?_eq_some->SO,mem_of_getElem?->Tk,mem_of_mem_drop->Hi,mem_of_mem_eraseIdx->kg,mem_of_mem_take->Hj,mem_range->Pi,mem_range'_1->kx,mem_reverse->zD,mem_singleton->zn,ne_nil_of_mem->W0,nodup_append->Yj,nodup_cons->gJ,of_mem_zip->ur,pairwise_append->Vq,pairwise_cons->be,pairwise_flatMap->Vk,pairwise_iff_getElem->sW,pairwise_lt_range->iB,pairwise_map->ee,perm_ext_iff_of_nodup->RT,perm_middle->zE,range->sw,range'->bP,range'_concat->WV,range_succ->kI,range_succ_eq_map->x9,rel_of_pairwise_cons->xZ,reverse_append->WN,size_toArray->XV,sublist_append_left->SV,sublist_append_right->SQ,sum_cons->K7,take_append_drop->yk,take_length->iK,take_of_length_le->ki,take_succ->Kb,zip_cons_cons->W1
open List.Pairwise renaming filter->Gh,imp_of_mem->QD
open List.Perm renaming cons_inv->T_
open List.cons renaming inj->WY,injEq->jy
open Nat renaming add_comm->L8,add_le_add->Kc,add_zero->ft,div_add_mod'->Af,div_eq_of_lt->p8,div_lt_of_lt_mul->WO,eq_zero_or_pos->jw,gcd->oA,le_mul_of_pos_left->GV,le_mul_of_pos_right->Ui,le_of_eq->nz,le_of_lt->TW,le_of_lt_succ->zu,le_of_succ_le->zx,le_refl->nn,le_succ->gg,le_total->qE,le_trans->Ch,lt_irrefl->f9,lt_of_le_of_lt->gH,lt_of_lt_of_le->b7,lt_or_eq_of_le->mH,lt_or_ge->jE,lt_succ_of_lt->iI,lt_succ_self->uk,lt_trichotomy->IB,min_eq_left->kJ,min_eq_right->Js,min_le_left->J6,mod_eq_of_lt->p9,mod_lt->jI,mul_add_div->As,mul_add_mod->uL,mul_comm->gP,mul_div_cancel->Yk,mul_le_mul->eh,mul_le_mul_right->gF,ne_of_gt->nA,ne_of_lt->Ps,one_lt_two_pow->yX,pow_le_pow_right->bM,pow_lt_pow_right->yA,pow_pos->kR,sub_le->M8,sub_mul->Cv,succ_le_succ->Ah,succ_mul->jF,succ_pos->vw,zero_add->gQ,zero_le->SC
open Ne renaming symm->dS
open Option renaming getD_none->W2,getD_some->W3,isSome_iff_exists->RU,isSome_map->WQ,isSome_none->Vr,isSome_some->yE,map_eq_some_iff->kh,map_some->Ai,none->Cr
open Option.some renaming inj->TD,injEq->SW
open Or renaming inl->rJ,inr->hU
open Prod renaming fst->DY
open PyFlat renaming calls->jD
open PyProof renaming noPylong_small->SR
open PyProof.Rows renaming AllBare->oC,IntsAre->dU,callWith_type1->mw,lexLt->s_,sortedAll_at->QE,sortedAll_old->Qv,boot_range->DV,get?_update_seq->A9,listUpdate_at->Cs,size_push'->wa,subscriptTail_builtinR->Yn
open PyProof.Rows.F renaming entry_set_update_loop->Qk,plain_set_update_loop->F2
open PyProof.Rows.G renaming tupKeyC->qN,tupKindC->nU
open PySem renaming Addr->ac,Arguments->qY,Around->ww,BindsTo->oF,CmpOp->lV,DictEntry->gY,Expr->lv,FuncData->on,Heap->io,IsRangeIter->Dc,Keyword->oG,NameKind->dO,Params->lI,Program->lw,PyData->lK,Fin->Dd,Within->K9,mem_of_lookup->d_,Result->lL,Scope->aK,SetTable->GT,Shared->ap,Stmt->nl,TriplesOk->Ej,Value->al,World->li,call_meets->DW,codeAny_builtin->jA,codeAny_mono->nL,entryFor_alias->L9,intKind_is->jJ,isSubtype_type->L_,nums_intItems->Mb,plainId_quiet->qv,pushCells_keeps->A_,sizeLine_eq->bu,sub_set_self->M9,tupleKind_room_in1->zB,wpAny_Call_Name_kw->mL,wpAny_askSetting->Kd,wpAny_attempt->vy,wpAny_bind->bd,wpAny_call->DX,wpAny_callSpecial?_slot->x_,wpAny_call_entry->jz,wpAny_dictEntries->J8,wpAny_dictEpoch->K',wpAny_execs_nil->Ba,wpAny_fieldsOf->BU,wpAny_holding->b_,wpAny_isInstance->mU,wpAny_ite_split->dj,wpAny_letGo->v_,wpAny_mono->cE,wpAny_newFunctionEnv_cells->Vm,wpAny_newList->Ct,wpAny_newObj_type->kz,wpAny_of_eq->Df,wpAny_passesOwn->m7,wpAny_pure->eg,wpAny_pyIter_list->An,wpAny_pyIter_rangeiter->Yo,wpAny_pyIter_slot->J9,wpAny_pyNext_range_end->Yp,wpAny_seqItems->u0,wpAny_setEntries_of->yZ,wpAny_setEpoch_of->Ao,wpAny_setField->u5,wpAny_specialOf->La,wpAny_standAt->Mc,wpAny_truthy_bool->iJ,wpAny_tryCatch->BV,wpAny_typeNameOfWhole_keyiter->xW,wpAny_typeNameOf_keyiter->x8,wpAny_typeOf->C_,wpAny_updateSeq->Lb
open PySem.Around renaming under->K6,under_plainId->mF
open PySem.Builtin renaming bitAnd->Ap
open PySem.Builtin.Builtins renaming bindParams->Qo
open PySem.Builtin.Dict renaming showsAll->Rc
open PySem.Builtin.Dict_items renaming ownsTuple->Ql
open PySem.Builtin.Frozenset renaming baseOf->Qq,copyOf->Qr,difference->Qm,differenceUpdate->Qj,isAnySet->pI,newClass->Qp,sizeOf->F4,unchanged->F3,updateFrom->Qn
open PySem.Builtin.List renaming listLengthHint->Qu,listTooLong->F5
open PySem.Builtin.Range renaming rangeSize->pK,small->Rf
open PySem.Calls renaming Name_function_global->RP,callWith_builtin->Gz,evalArgs_plain->Vi,spliced_cons->yW,spliced_nil->Iz
open PySem.Code renaming isFrame->Lc,quiet_builtin->WX
open PySem.F renaming args_dict_keyiterator_next_1->RQ,entry_dict_keyiterator_next->RS,slot_dict_keyiterator_next->sV,args_dict_get_3->RV,entry_dict_get->SS,entry_min_loop->Gu,plainAttrs_list->cB,plain_min_loop->mD,plain_set_new->SX,slot_dict_get->GA,slot_dict_getitem->Rh,slot_list_append->js,slot_list_extend->mB,slot_list_index->Gi,slot_set_iter->SY,slot_set_sub->Ud,type_list_append->jt,type_list_extend->mC,type_list_index->RW
open PySem.Heap renaming SameBut->aC,get?_none_of_le->Hg,get?_push_ne->Ye,get?_push_of_some->P5,get?_push_size->Tl,get?_update_other->mE,get?_update_self->kl,lt_size->FB,size_push->eL
open PySem.Heap.SameBut renaming refl->jv,update->iE
open PySem.MeetsSeq2 renaming wpAny_forIn_array->xV
open PySem.NameKind renaming cell->Jw,free->qh
open PySem.Obj renaming data_mapFields->mI,isFreed_of_fields->yl,mapFields->nj,mapSeq->aX
open PySem.Paired renaming length->ng
open PySem.PassesOwn renaming never->br
open PySem.PyData renaming canLayAll0->WR,depthAll->Aj,int->fx
open PySem.SeqAt renaming EqAt->Ma
open PySem.SetTable renaming below->kK,fill->uN,freeSlot->Vl,fresh->cR,grown->mZ,insertAt->iG,laid->Ym,put->A8,sizeAbove->df,toList_insertAt->Ri,tooFull->Vt,turns->Al,toList_insertAt->K_
open PySem.SetTable.below renaming go->DU
open PySem.SetTable.layClean renaming free->A7
open PySem.Str renaming empty->DS,ofString->kO
open PySem.Value renaming bool->nT,int->eO,isInt_shape->W5,none->iP,ref->im,str->De,type->jH
open PySem.Value.ref renaming inj->W6
open PySem.Value.type renaming inj->Vu
open PySem.W renaming CodeHd->m6,Frag->ge,KdlSrc->Yl,WRecords->WS,callWith_K->Hk,cellsFrom_some->Gv,codeIn->uM,emptyDict->jx,findIn->aR,fnOf->iM,handedIn->WT,hasDictIn->pT,instObj->kE,isFn->nu,kdl_call->WU,keepIn->fq,kla_fn->Jt,kla_obj->gI,length_le_weightAllW->QR,lookIn->Ju,makesIn->um,methodObj->HS,mg_none_of->fZ,mg_of->AC,nsIn->ZB,plainGet->pY,plainOver->tM,specialIn->Vs,takerIn->IC,WData->aT,WellAll->lx
open PySem.W.Codec renaming app->M7,denoteAll->Jr,encAll->vt
open PySem.W.WData renaming weightAll->Am
open PySem.Walks renaming list->C9
open PySem.pickOrder renaming go->J7
open PyVbpcar renaming answers->yY,answers_asked->Gk,calls->W4,shape->ef,whole->Jq
open Sum renaming inl->EQ,inr->oB
open Sum.inl renaming inj->BX
open True renaming intro->qI
open Vbpcar renaming Call->gc,MOST->vz,Pt->fz,R->DT,State->qp,before->gK,bends->ny,chain->qr,coordinates->pQ,dist->aj,ends->gd,firstLeast->b8,firsts->b9,inRange->aq,joints->nh,leastAt->Au,lines->qt,maxI->cD,median->qi,meeting->kL,minI->cf,minN->fw,must->bO,nodes->f_,onWay->BR,orders->dk,pairsOf->jB,putIn->gM,putPair->Jx,ring->qF,rowOf->iN,solved->qj,sorted->ni,span->qG,spanning->fo,splits->P9,starAt->uV,steiner->bN,step->au,sumN->gf,swapped->jC,taken->BS,tree->SB,trunk->qu,trunkAt->qb,turned->qk,walkOf->uW,ways->Ld,xsOf->wn,ysOf->Db
open Vbpcar.Table renaming get->S0
open VbpcarNeutral renaming step->pO
namespace L2
open PySem PySem.Spec PyProof.Rows
abbrev Key:=Sum Int Str
noncomputable def oN:Key->al->Bool
 |.inl k,v=>Value.isInt k v
 |.inr x,v=>Value.isStrOf x v
noncomputable def adn(w:li):Key->Int
 |.inl k=>hashInt k
 |.inr x=>hashStr w x
theorem gN:∀{k:Key}{v:al},oN k v=true->(∃i t,k=EQ i/\v=eO i t)\/(∃x t,k=oB x/\v=De x t)
 |.inl i,v,h=>by
  obtain⟨t,e⟩:=W5 (k:=i) (v:=v) h
  exact .inl ⟨i,t,rfl,e⟩
 |.inr x,v,h=>by
  obtain⟨t,e⟩:=Value.isStrOf_shape (x:=x) (v:=v) h
  exact .inr ⟨x,t,rfl,e⟩
theorem Xu(i:Int)(t:Tok):oN (.inl i) (.int i t)=true:=by simp[oN,Value.isInt]
theorem Xv(x:Str)(t:Tok):oN (.inr x) (.str x t)=true:=by simp[oN,Value.isStrOf]
theorem abn(a b:Int):decide ((EQ a:Key)=EQ b)=(a==b):=by
 by_cases e:a=b
 .subst e;simp
 .have h:¬(EQ a:Key)=EQ b:=λq=>e (BX q)
  rw[decide_eq_false h]
  exact(beq_eq_false_iff_ne.mpr e).symm
theorem abq(a b:Str):decide ((oB a:Key)=oB b)=decide (a=b):=by
 by_cases e:a=b
 .subst e;simp
 .have h:¬(oB a:Key)=oB b:=λq=>e (Sum.inr.inj q)
  rw[decide_eq_false h,decide_eq_false e]
theorem abo(a:Int)(b:Str):decide ((EQ a:Key)=oB b)=false:=decide_eq_false (λq=>nomatch q)
theorem abp(a:Str)(b:Int):decide ((oB a:Key)=EQ b)=false:=decide_eq_false (λq=>nomatch q)
noncomputable def cG(prog:lw)(w:li):PySem.KeyKind prog w Key where
 is:=oN
 hash:=adn w
 inj:=λv a b ha hb=>by
  rcases gN ha with⟨i,t,rfl,rfl⟩|⟨x,t,rfl,rfl⟩
  .rcases gN hb with⟨j,u,rfl,e⟩|⟨y,u,rfl,e⟩
   .injection e with e1 _;rw[e1]
   .exact nomatch e
  .rcases gN hb with⟨j,u,rfl,e⟩|⟨y,u,rfl,e⟩
   .exact nomatch e
   .injection e with e1 _;rw[e1]
 byValue:=λk v h=>by
  rcases gN h with⟨i,t,rfl,rfl⟩|⟨x,t,rfl,rfl⟩<;>rfl
 pyHash:=λhv h=>by
  rcases gN hv with⟨i,t,rfl,rfl⟩|⟨x,t,rfl,rfl⟩
  .exact wpAny_pyHash_int h
  .exact wpAny_pyHash_str h
 eqBool:=λhu hv h=>by
  rcases gN hu with⟨i,t,rfl,rfl⟩|⟨x,t,rfl,rfl⟩
  .rcases gN hv with⟨j,u,rfl,rfl⟩|⟨y,u,rfl,rfl⟩
   .rw[abn]at h;exact wpAny_eqBool_int h
   .rw[abo]at h;exact SeqAt.EqAt.int_str i t y u _ _ _ _ h
  .rcases gN hv with⟨j,u,rfl,rfl⟩|⟨y,u,rfl,rfl⟩
   .rw[abp]at h;exact SeqAt.EqAt.str_int x t j u _ _ _ _ h
   .rw[abq]at h;exact wpAny_eqBool_str h
 «strs»:=λk x t v h=>by
  rcases gN h with⟨i,u,rfl,e⟩|⟨y,u,rfl,e⟩
  .exact nomatch e
  .injection e with e1 _
   subst e1
   cases v<;>rfl
theorem UD(prog:lw)(w:li)(i:Int)(t:Tok):(cG prog w).is (.inl i) (.int i t)=true:=Xu i t
theorem UE(prog:lw)(w:li)(x:Str)(t:Tok):(cG prog w).is (.inr x) (.str x t)=true:=Xv x t
end L2
namespace L2
open PySem PySem.Spec PyProof.Rows
inductive V where
 |ag|bl (b:Bool)|int (i:Int)|str (x:Str)|bV (b:Array UInt8)|pj (b:UInt64)|ref (a:ac)|ty (n:String)
 deriving DecidableEq
def RelV:V->al->Prop
 |.ag,u=>u=iP
 |.bl b,u=>u=nT b
 |.int i,u=>∃t,u=eO i t
 |.str x,u=>∃t,u=De x t
 |.bV b,u=>∃t,u=Value.bytes b t
 |.pj b,u=>∃t,u=Value.float b t
 |.ref a,u=>u=im a
 |.ty n,u=>u=jH n
abbrev Vals:List V->List al->Prop:=Paired RelV
theorem Vals.length{xs:List V}{us:List al}(r:Vals xs us):xs.length=us.length:=ng r
theorem Vals.get:∀{xs:List V}{us:List al}{i:Nat}{x:V},Vals xs us->xs[i]? =some x->∃u,us[i]? =some u/\RelV x u
 |_,_,_,_,.nil,e=>by simp at e
 |_,_,0,_,.cons r _,e=>by simp at e;subst e;exact⟨_,rfl,r⟩
 |_,_,i+1,x,.cons _ t,e=>by
  obtain⟨u,h1,h2⟩:=Vals.get (i:=i) (x:=x) t (by simpa using e)
  exact⟨u,by simpa using h1,h2⟩
theorem Vals.set{x:V}{u:al}(r:RelV x u):∀{xs:List V}{us:List al}(i:Nat),Vals xs us->Vals (xs.set i x) (us.set i u)
 |_,_,_,.nil=>.nil
 |_,_,0,.cons _ t=>.cons r t
 |_,_,i+1,.cons q t=>.cons q (Vals.set r i t)
theorem Vals.append:∀{xs ys:List V}{us ws:List al},Vals xs us->Vals ys ws->Vals (xs++ys) (us++ws)
 |_,_,_,_,.nil,s=>s
 |_,_,_,_,.cons r t,s=>.cons r (Vals.append t s)
theorem Vals.take:∀{xs:List V}{us:List al}(n:Nat),Vals xs us->Vals (xs.take n) (us.take n)
 |_,_,0,_=>.nil
 |_,_,_+1,.nil=>.nil
 |_,_,n+1,.cons r t=>.cons r (Vals.take n t)
theorem Vals.drop:∀{xs:List V}{us:List al}(n:Nat),Vals xs us->Vals (xs.drop n) (us.drop n)
 |_,_,0,r=>r
 |_,_,_+1,.nil=>.nil
 |_,_,n+1,.cons _ t=>Vals.drop n t
def dw:Option V->Option al->Prop
 |some v,some u=>RelV v u
 |none,none=>True
 |_,_=>False
def KV{κ:Type}:List (κ×V)->List (κ×al)->Prop:=Paired λ(p:κ×V)(q:κ×al)=>p.1=q.1/\RelV p.2 q.2
noncomputable def kV:Key->V
 |.inl i=>.int i
 |.inr x=>.str x
inductive HO where
 |lst (xs:List V)
 |tup (xs:List V)
 |dK (kvs:List (Key×V))|dT (kvs:List (List Key×V))
 |set (S:Int->Bool) (n:Nat)
 |ins (C dx:ac) (fs:List (Str×V))
 |own (x:ac)
 |xd (fs:List (Str×V))
 |met (f x:ac)
 |dc (lo hi:Int)
 |ai (o:Obj) (u:HO)
 |bb (ps:Array al)
 |lam (pos:Pos) (q:Str)
 |ext (φ:io->Prop)
abbrev Hp:=ac->Option HO
noncomputable def upd(H:Hp)(a:ac)(o:HO):Hp:=λb=>if b=a then some o else H b
theorem bv{H:Hp}{a:ac}{o:HO}:upd H a o a=some o:=by unfold upd;rw[if_pos rfl]
theorem gl{H:Hp}{a b:ac}{o:HO}(h:b≠a):upd H a o b=H b:=by unfold upd;rw[if_neg h]
theorem P8{H:Hp}{a b:ac}{o u:HO}(h:H a=some o)(h':H b=some u)(d:o≠u):a≠b:=by
 intro e;subst e;rw[h]at h';exact d (TD h')
theorem wT{H:Hp}{a b:ac}{o:HO}(h:H a=some o)(h':H b=none):a≠b:=by
 intro e;subst e;rw[h]at h';cases h'
section
variable(P:lw)(w:li)
def aA(H:Hp)(h:io)(a:ac):HO->Prop
 |.lst xs=>xs.length<=sizeLine/\∃(ci:List al)(n:Nat),Vals xs ci/\h.get? a=some {cls:=.type "list",data:=.seq ci.toArray n}
 |.tup xs=>xs.length<=sizeLine/\∃ci:List al,Vals xs ci/\IsTup h a ci.toArray
 |.dK kvs=>kvs.length<=sizeLine/\(a==sysModules)=false/\∃vs,KV kvs vs/\h.DictOf (cG P w) a vs
 |.dT kvs=>kvs.length<=sizeLine/\(a==sysModules)=false/\∃xs:List (List Key×ac×al),
   Paired (λ(p:List Key×V)(q:List Key×ac×al)=>p.1=q.1/\H q.2.1=some (.tup (p.1.map kV))/\RelV p.2 q.2.2) kvs xs/\
   ∃o es ep,h.get? a=some o/\o.ExactDict/\o.data=.dict es ep/\es.toList=xs.map (entryOfKey (tupleKind (cG P w)))/\(xs.map (·.1)).Nodup
 |.set S n=>h.SetOf (intKind P w) a S n
 |.ins C dx fs=>H dx=some (.own a)/\fs.length<=1000/\dx≠a/\h.get? a=some (kE C dx)/\
   ∃mA,h.Ns1 dx mA/\(∀f,dw (fs.lookup f) (mA f))/\K9 mA (fs.map (·.1))
 |.own _=>∃o,h.get? a=some o
 |.xd fs=>∃mA,h.Ns1 a mA/\∀f,dw (fs.lookup f) (mA f)
 |.dc lo hi=>∃t u v,h.get? a=some {cls:=.type "range",data:=.fields #[.int lo t,.int hi u,.int 1 v]}
 |.ai o u=>h.get? a=some o/\aA H h a u
 |.bb ps=>h.get? a=some {cls:=.none,data:=.fields ps}
 |.lam pos q=>∃ps:Array al,h.get? a=some {cls:=.none,data:=.fields ps}/\Ej ps.toList/\(codeAmong pos ps.toList=none\/∃c,codeAmong pos ps.toList=some (.ref c)/\H c=some (.own a)/\h.CodeRec (.ref c) q)
 |.met f x=>h.get? a=some (HS (.ref f) (.ref x))
 |.ext φ=>φ h/\(∃o,h.get? a=some o)/\∀h1 h2:io,φ h1->(∀o,h1.get? a=some o->h2.get? a=some o)->φ h2
def SL(H:Hp)(h:io):Prop:=∀a o,H a=some o->aA P w H h a o
end
section
variable{P:lw}{w:li}{H H':Hp}{h h':io}{a:ac}{o:HO}
theorem aA.lt(x:aA P w H h a o):a<h.objs.size:=by
 cases o with
 |lst xs=>obtain⟨_,_,_,_,e⟩:=x;exact FB e
 |tup xs=>obtain⟨_,_,_,p⟩:=x;exact p.lt
 |dK kvs=>obtain⟨_,_,_,_,o,_,_,e,_⟩:=x;exact FB e
 |dT kvs=>obtain⟨_,_,_,_,o,_,_,e,_⟩:=x;exact FB e
 |set S n=>obtain⟨o,_,_,_,e,_⟩:=x;exact FB e
 |ins C dx fs=>obtain⟨_,_,_,e,_⟩:=x;exact FB e
 |own y=>obtain⟨_,e⟩:=x;exact FB e
 |xd fs=>obtain⟨_,⟨_,_,_,e,_⟩,_⟩:=x;exact FB e
 |dc lo hi=>obtain⟨_,_,_,e⟩:=x;exact FB e
 |ai ob u=>obtain⟨e,_⟩:=x;exact FB e
 |bb ps=>exact FB (show h.get? a=some _ from x)
 |lam pos q=>obtain⟨_,e,_⟩:=x;exact FB e
 |met f y=>exact FB (show h.get? a=some _ from x)
 |ext φ=>obtain⟨_,⟨_,e⟩,_⟩:=x;exact FB e
theorem Paired.jY{α β:Type}{F G:α->β->Prop}:∀{l₁:List α}{l₂:List β},Paired F l₁ l₂->(∀a b,F a b->G a b)->Paired G l₁ l₂
 |_,_,.nil,_=>.nil
 |_,_,.cons r t,f=>.cons (f _ _ r) (Paired.jY t f)
theorem aA.gq(x:aA P w H h a o)(k:∀b u,(b=a\/H b=some (.own a))->h.get? b=some u->h'.get? b=some u)
 (ho:∀b,H b=some (.own a)->H' b=some (.own a))(ht:∀b xs,H b=some (.tup xs)->H' b=some (.tup xs)):aA P w H' h' a o:=by
 induction o with
 |lst xs=>obtain⟨z,ci,n,r,e⟩:=x;exact⟨z,ci,n,r,k _ _ (.inl rfl) e⟩
 |tup xs=>obtain⟨z,ci,r,ob,e,c⟩:=x;exact⟨z,ci,r,ob,k _ _ (.inl rfl) e,c⟩
 |dK kvs=>obtain⟨z,y,vs,r,ob,es,ep,e,c⟩:=x;exact⟨z,y,vs,r,ob,es,ep,k _ _ (.inl rfl) e,c⟩
 |dT kvs=>
  obtain⟨z,y,xs,r,ob,es,ep,e,c⟩:=x
  exact⟨z,y,xs,Paired.jY r λp q z=>⟨z.1,ht _ _ z.2.1,z.2.2⟩,ob,es,ep,k _ _ (.inl rfl) e,c⟩
 |set S n=>obtain⟨ob,es,ep,t,e,c⟩:=x;exact⟨ob,es,ep,t,k _ _ (.inl rfl) e,c⟩
 |ins C dx fs=>
  obtain⟨d,z,ne,e,mA,⟨od,es,ep,e2,c⟩,r⟩:=x
  exact⟨ho _ d,z,ne,k _ _ (.inl rfl) e,mA,⟨od,es,ep,k _ _ (.inr d) e2,c⟩,r⟩
 |own y=>obtain⟨ob,e⟩:=x;exact⟨ob,k _ _ (.inl rfl) e⟩
 |xd fs=>obtain⟨mA,⟨od,es,ep,e,c⟩,r⟩:=x;exact⟨mA,⟨od,es,ep,k _ _ (.inl rfl) e,c⟩,r⟩
 |dc lo hi=>obtain⟨t,u,v,e⟩:=x;exact⟨t,u,v,k _ _ (.inl rfl) e⟩
 |ai ob u ih=>obtain⟨e,q⟩:=x;exact⟨k _ _ (.inl rfl) e,ih q⟩
 |lam pos q=>
  obtain⟨ps,e,t,r⟩:=x
  refine⟨ps,k _ _ (.inl rfl) e,t,?_⟩
  rcases r with r|⟨c,r1,r2,c',ob,vs,tk,r3,r4,r5⟩
  .exact .inl r
  .cases r3
   exact .inr ⟨c,r1,ho _ r2,c,ob,vs,tk,rfl,k _ _ (.inr r2) r4,r5⟩
 |bb ps=>
  have e:h.get? a=some {cls:=.none,data:=.fields ps}:=x
  show h'.get? a=some {cls:=.none,data:=.fields ps}
  exact k a _ (.inl rfl) e
 |met f y=>
  have e:h.get? a=some (HS (.ref f) (.ref y)):=x
  show h'.get? a=some (HS (.ref f) (.ref y))
  exact k a _ (.inl rfl) e
 |ext φ=>obtain⟨p,⟨o,e⟩,st⟩:=x;exact⟨st _ _ p λo q=>k _ _ (.inl rfl) q,⟨o,k _ _ (.inl rfl) e⟩,st⟩
theorem SL.lt(x:SL P w H h)(e:H a=some o):a<h.objs.size:=(x a o e).lt
theorem SL.fresh(x:SL P w H h)(e:h.objs.size<=a):H a=none:=by
 cases q:H a with
 |none=>rfl
 |some u=>exact absurd (b7 (x.lt q) e) (f9 _)
theorem SL.kept(x:SL P w H h)(k:∀b u,h.get? b=some u->h'.get? b=some u):SL P w H h':=λa o e=>
 (x a o e).gq (λb u _ q=>k b u q) (λ_ q=>q) λ_ _ q=>q
theorem SL.laid(x:SL P w H h)(k:∀b u,h.get? b=some u->h'.get? b=some u)(hp:h.objs.size<=a)(new:aA P w (upd H a o) h' a o):SL P w (upd H a o) h':=λb u e=>by
 have hn:=x.fresh hp
 by_cases hb:b=a
 .subst hb;rw[bv]at e;cases e;exact new
 .rw[gl hb]at e
  exact(x b u e).gq (λc v _ q=>k c v q) (λc q=>by rw[gl (wT q hn)];exact q) λc xs q=>by rw[gl (wT q hn)];exact q
end
def Rd(H:Hp)(a:ac)(u:HO):Prop:=H a=some u\/∃o,H a=some (.ai o u)
theorem Rd.ok{P:lw}{w:li}{H:Hp}{h:io}{a:ac}{u:HO}(r:Rd H a u)(x:SL P w H h):aA P w H h a u:=by
 rcases r with r|⟨o,r⟩
 .exact x a u r
 .obtain⟨_,q⟩:=x a _ r
  exact q
def lZ:Option HO->Prop
 |some (.lst _)=>True
 |some (.dK _)=>True
 |some (.dT _)=>True
 |some (.set _ _)=>True
 |some (.ins _ _ _)=>True
 |some (.ext _)=>True
 |some (.lam _ _)=>True
 |_=>False
section
variable{P:lw}{w:li}{H:Hp}{h h':io}{x e:ac}{o':HO}
theorem SL.write(ok:SL P w H h)(mu:lZ (H x))(he:e=x\/H e=some (.own x))(k:∀b u,b≠e->h.get? b=some u->h'.get? b=some u)(pz:∃u,h'.get? e=some u)
 (new:aA P w (upd H x o') h' x o'):SL P w (upd H x o') h':=λb u q=>by
 have OK:∀c y,H c=some (.own y)->c≠x:=λc y r z=>by subst z;rw[r]at mu;exact mu
 have xr:∀c xs,H c=some (.tup xs)->c≠x:=λc xs r z=>by subst z;rw[r]at mu;exact mu
 by_cases hb:b=x
 .subst hb;rw[bv]at q;cases q;exact new
 .rw[gl hb]at q
  by_cases l_:b=e
  .have q':H b=some (.own x):=by
    rcases he with z|z
    .exact absurd (l_.trans z) hb
    .rw[l_];exact z
   rw[q]at q';cases q'
   obtain⟨v,hv⟩:=pz
   exact⟨v,by rw[l_];exact hv⟩
  .refine(ok b u q).gq (λc v hc r=>k c v ?_ r) (λc r=>by rw[gl (OK c b r)];exact r) λc xs r=>by rw[gl (xr c xs r)];exact r
   rcases hc with rfl|hc
   .exact l_
   .rintro rfl
    rcases he with z|z
    .exact OK c b hc z
    .rw[hc]at z;cases z;exact hb rfl
end
structure Un (fs ex:List ac) (H H':Hp) (h h':io):Prop where
 keep:∀b o,h.get? b=some o->H b=none->b∉fs->b∉ex->h'.get? b=some o
 slot:∀b o,h.get? b=some o->H b=none->b∈fs->b∉ex->∃sl,h'.get? b=some {o with slots:=sl}
 free:∀b o,h.get? b=some o->H b=none->b∉ex->H' b=none
 there:∀b o,h.get? b=some o->b∉ex->∃o',h'.get? b=some o'
 je:∀b xs,H b=some (.tup xs)->H' b=some (.tup xs)
 gp:∀b o u,H b=some (.ai o u)->H' b=some (.ai o u)
 jc:∀b ps,H b=some (.bb ps)->∃more,H' b=some (.bb (ps++more))
section
variable{fs fs' ex ex':List ac}{H H1 H2:Hp}{h h1 h2 h':io}{a x e:ac}{o:HO}
theorem Un.any(u:Un fs ex H H1 h h1){b:ac}{ob:Obj}(q:h.get? b=some ob)(n:H b=none)(hx:b∉ex):∃sl,h1.get? b=some {ob with slots:=sl}:=by
 by_cases hb:b∈fs
 .exact u.slot b ob q n hb hx
 .exact⟨ob.slots,u.keep b ob q n hb hx⟩
theorem Un.kept(k:∀b u,h.get? b=some u->h'.get? b=some u):Un fs ex H H h h':=
 ⟨λb ob q _ _ _=>k b ob q,λb ob q _ _ _=>⟨ob.slots,k b ob q⟩,λ_ _ _ n _=>n,λb ob q _=>⟨ob,k b ob q⟩,λ_ _ q=>q,λ_ _ _ q=>q,λ_ ps q=>⟨#[],by rw[q];simp⟩⟩
theorem Un.refl:Un fs ex H H h h:=Un.kept λ_ _ q=>q
theorem Un.laid(k:∀b u,h.get? b=some u->h'.get? b=some u)(hp:h.objs.size<=a)(hn:H a=none):Un fs ex H (upd H a o) h h' where
 keep:=λb u q _ _ _=>k b u q
 slot:=λb u q _ _ _=>⟨u.slots,k b u q⟩
 free:=λb u q n _=>by rw[gl (Ps (b7 (FB q) hp))];exact n
 there:=λb u q _=>⟨u,k b u q⟩
 je:=λb xs q=>by rw[gl (wT q hn)];exact q
 gp:=λb u xs q=>by rw[gl (wT q hn)];exact q
 jc:=λb ps q=>⟨#[],by rw[gl (wT q hn),q];simp⟩
theorem Un.write(mu:lZ (H x))(he:e=x\/H e=some (.own x))(k:∀b u,b≠e->h.get? b=some u->h'.get? b=some u)(pz:∃u,h'.get? e=some u):Un fs ex H (upd H x o) h h':=by
 have hx:∀b,H b=none->b≠x:=λb n z=>by subst z;rw[n]at mu;exact mu
 have hb:∀b,H b=none->b≠e:=λb n z=>by
  subst z
  rcases he with r|r
  .exact hx b n r
  .rw[n]at r;cases r
 have hm:∀b u,H b=some u->¬lZ (some u)->b≠x:=λb u q nm z=>by subst z;rw[q]at mu;exact nm mu
 refine⟨λb u q n _ _=>k b u (hb b n) q,λb u q n _ _=>⟨u.slots,k b u (hb b n) q⟩,λb u q n _=>by rw[gl (hx b n)];exact n,λb u q _=> ?_,
  λb xs q=>by rw[gl (hm b _ q λz=>z)];exact q,λb u xs q=>by rw[gl (hm b _ q λz=>z)];exact q,λb ps q=>⟨#[],by rw[gl (hm b _ q λz=>z),q];simp⟩⟩
 by_cases l_:b=e
 .subst l_;exact pz
 .exact⟨u,k b u l_ q⟩
end
noncomputable def xU(h:io)(H:Hp):List ac:=(sw h.objs.size).filter λa=>(H a).isSome
noncomputable def ib(h:io)(H:Hp):io:=PySem.W.hideAll h (xU h H)
theorem Xp(h:io)(H:Hp):(ib h H).objs.size=h.objs.size:=PySem.W.hideAll_size _ _
theorem YL{h:io}{H:Hp}{b:ac}{o:Obj}(e:h.get? b=some o)(n:H b=none):(ib h H).get? b=some o:=
 PySem.W.hideAll_get _ e λhm=>by
  have q:(H b).isSome=true:=(dh.mp hm).2
  rw[n]at q;simp at q
theorem aas{h:io}{H:Hp}{b:ac}{o:Obj}(e:(ib h H).get? b=some o):h.get? b=some o/\H b=none:=by
 have e':h.get? b=some o:=PySem.W.of_hideAll (xU h H) e
 refine⟨e',?_⟩
 cases q:H b with
 |none=>rfl
 |some x=>
  have hm:b∈xU h H:=dh.mpr ⟨Pi.mpr (FB e'),by simp[q]⟩
  have z:(ib h H).get? b=none:=PySem.W.hideAll_none (xU h H) hm
  rw[z]at e;cases e
noncomputable def ZO(g h:io)(L:ac):List (ac×Obj):=(sw h.objs.size).filterMap λa=>if a=L\/(g.get? a).isSome=true then none else(h.get? a).map λo=>(a,o)
noncomputable def rest(g h:io)(L d:ac):List (ac×Obj):=(ZO g h L).filter λp=>decide (p.1≠d)
end L2
namespace L2
open PySem PySem.Spec PyProof.Rows
structure Mod (K:ge) (mg:Str->Option al) (base:io):Prop where
 sD:K.In base
 glob:base.Ns mainGlobals mg
 blt:∃mb,base.Ns builtinsNs mb/\∀x:Str,x≠"__name__"->mb x=bootBuiltins x
 nolimit:base.NoLimit
structure Cx where
 prog:lw
 w:li
 K:ge
 mg:Str->Option al
 base:io
 A:ww
 N:List Str
 bY:ap
 lY:Hp
 env:Env
 outer:List Env
 stack:List Env
 ex:List ac
 fn:Str->Bool
 calm:Bool
 pn:List (ac×Obj)
 xe:al->ap->Prop
noncomputable def gv(l:List Env):List ac:=l.filterMap (·.frame)
noncomputable abbrev Cx.fs(X:Cx):List ac:=gv X.outer
def pf(sc:aK)(x:Str):Prop:=sc.names.lookup x=some .local\/sc.names.lookup x=some .cell\/sc.names.lookup x=some .free
def Loc(sc:aK)(x:Str):Prop:=sc.names.lookup x=some .local\/sc.names.lookup x=some .cell
def Look(env:Env)(h:io)(m:Str->Option al)(x:Str)(u:al):Prop:=
 (env.kindOf x=some .local/\m x=some u)\/((env.kindOf x=some .cell\/env.kindOf x=some .free)/\∃c,env.cells.lookup x=some c/\h.IsCell c (some u))
structure Cx.Ok (X:Cx):Prop where
 mod:Mod X.K X.mg X.base
 kind:X.env.scope.kind=.function
 glob:X.env.globals=mainGlobals
 blt:X.env.builtins=builtinsNs
 above:X.bY.heap.objs.size<=X.env.locals
 inj:∀x y c,X.env.cells.lookup x=some c->X.env.cells.lookup y=some c->x=y
 has:∀x,(X.env.kindOf x=some .cell\/X.env.kindOf x=some .free)->∃c,X.env.cells.lookup x=some c
 r9:∀x c,X.fn x=true->X.env.cells.lookup x=some c->X.bY.heap.objs.size<=c
 hd:X.calm=true->X.A.handled=none
 frames:X.A.frames=some X.stack
 xT:X.stack=X.outer\/(X.stack=X.env::X.outer/\X.env.frame=some X.env.locals)
 xC:∀b∈X.ex,b≠X.env.locals/\∀x c,X.env.cells.lookup x=some c->c≠b
 bs:∀b o,X.base.get? b=some o->X.bY.heap.get? b=some o/\X.lY b=none
 ip:X.base.objs.size<=X.bY.heap.objs.size
 rV:∀b o,X.base.get? b=some o->b∉X.ex
 rN:∀b∈X.ex,b∉X.fs
 fH:X.bY.heap.FunFrames X.base X.outer
 l9:∀b∈X.fs,X.lY b=none
structure Inv (X:Cx) (pins:List (ac×Obj)) (σ:List (Option V)) (H:Hp) (s:ap):Prop where
 ok:X.Ok
 os:s.os=X.bY.os
 bare:oC s.gens
 base:Un X.fs X.ex X.lY H X.bY.heap s.heap
 loc:∃m,s.heap.Ns X.env.locals m/\∀(i:Nat)(x:Str)(v:V),X.N[i]? =some x->σ[i]? =some (some v)->pf X.env.scope x->∃u,RelV v u/\Look X.env s.heap m x u
 cell:∀x c,X.env.cells.lookup x=some c->∃v,s.heap.IsCell c v
 free:H X.env.locals=none
 freeC:∀x c,X.env.cells.lookup x=some c->H c=none
 pin:∀p∈X.pn++pins,s.heap.get? p.1=some p.2/\H p.1=none/\p.1≠X.env.locals/\p.1∉X.fs/\∀v,p.2.data≠.cell v
 ab:SL X.prog X.w H s.heap
 len:σ.length=X.N.length
section
variable{X:Cx}{pins:List (ac×Obj)}{σ:List (Option V)}{H H':Hp}{s:ap}{h':io}
theorem Cx.Ok.adp(ok:X.Ok){b:ac}{o:Obj}(e:X.base.get? b=some o):b∉X.fs:=λhb=>by
 have:=(ok.fH.mem hb).1
 rw[e]at this;cases this
theorem Inv.bs(I:Inv X pins σ H s):∀b o,X.base.get? b=some o->s.heap.get? b=some o/\H b=none:=λb o e=>
 ⟨I.base.keep b o (I.ok.bs b o e).1 (I.ok.bs b o e).2 (I.ok.adp e) (I.ok.rV b o e),I.base.free b o (I.ok.bs b o e).1 (I.ok.bs b o e).2 (I.ok.rV b o e)⟩
theorem Inv.bk(I:Inv X pins σ H s):∀b o,X.base.get? b=some o->s.heap.get? b=some o:=λb o e=>(I.bs b o e).1
theorem Inv.mod(I:Inv X pins σ H s):Mod X.K X.mg X.base:=I.ok.mod
theorem Inv.eG(I:Inv X pins σ H s):X.K.In s.heap:=I.ok.mod.sD.keeps I.bk
theorem Inv.nolimit(I:Inv X pins σ H s):s.heap.NoLimit:=I.ok.mod.nolimit.keeps I.bk
theorem Inv.fr(I:Inv X pins σ H s):∃m,Fr X.base X.env.locals s.heap m:=
 let⟨m,hn,_⟩:=I.loc
 ⟨m,hn,I.bk,Ch I.ok.ip I.ok.above⟩
theorem Inv.lt(I:Inv X pins σ H s):X.env.locals<s.heap.objs.size:=let⟨_,hn,_⟩:=I.loc;hn.lt
theorem Inv.sz(I:Inv X pins σ H s):X.bY.heap.objs.size<=s.heap.objs.size:=Ch I.ok.above (TW I.lt)
theorem Inv.adq(I:Inv X pins σ H s){a:ac}(h:s.heap.objs.size<=a):a∉X.fs:=λhb=>by
 obtain⟨_,o,ho,_⟩:=I.ok.fH.mem hb
 exact absurd (b7 (FB ho) (Ch I.sz h)) (f9 _)
theorem Inv.l8(I:Inv X pins σ H s):∀x c,X.env.cells.lookup x=some c->c≠X.env.locals:=λx c e z=>by
 obtain⟨v,o,ho,hd⟩:=I.cell x c e
 obtain⟨m,⟨o',es,ep,ho',hd',_⟩,_⟩:=I.loc
 rw[z,ho']at ho;cases ho;rw[hd']at hd;cases hd
theorem Inv.fH(I:Inv X pins σ H s):s.heap.FunFrames X.base X.outer:=by
 have all:∀(l:List Env),(∀b∈gv l,b∈X.fs)->X.bY.heap.FunFrames X.base l->s.heap.FunFrames X.base l:=by
  intro l
  induction l with
  |nil=>intro _ _;trivial
  |cons env r ih=>
   intro hs hl
   obtain⟨hk,⟨L,o,hf,hn,ho,hd⟩,hr⟩:=hl
   have hL:L∈X.fs:=hs L (by unfold gv;rw[yB,hf];exact Go)
   obtain⟨sl,e⟩:=I.base.slot L o ho (I.ok.l9 L hL) hL λz=>I.ok.rN L z hL
   exact⟨hk,⟨L,_,hf,hn,e,hd⟩,ih (λb hb=>hs b (by unfold gv;rw[yB,hf];exact AT _ hb)) hr⟩
 exact all X.outer (λ_ hb=>hb) I.ok.fH
theorem Inv.stack(I:Inv X pins σ H s):s.heap.FunFrames X.base X.stack:=by
 rcases I.ok.xT with e|⟨e,hf⟩
 .rw[e];exact I.fH
 .rw[e]
  obtain⟨m,hn,_⟩:=I.loc
  refine .cons (by rw[I.ok.kind];decide) hf hn ?_ I.fH
  exact Hg (Ch I.ok.ip I.ok.above)
theorem Inv.Eh(I:Inv X pins σ H s):∀b∈gv X.stack,b∈X.env.locals::X.fs:=λb hb=>by
 rcases I.ok.xT with e|⟨e,hf⟩
 .rw[e]at hb;exact AT _ hb
 .rw[e]at hb
  unfold gv at hb
  rw[yB,hf]at hb
  exact hb
theorem Inv.MX(I:Inv X pins σ H s):∀b∈gv X.stack,H b=none:=λb hb=>by
 rcases wl.mp (I.Eh b hb)with e|hb
 .rw[e];exact I.free
 .obtain⟨_,o,ho,_⟩:=I.ok.fH.mem hb
  exact I.base.free b o ho (I.ok.l9 b hb) λz=>I.ok.rN b z hb
theorem Inv.step{g':Array GenState}{t':Nat}{d':Drawn}{ch:List ac}(I:Inv X pins σ H s)
 (iq:∀b∈ch,(b∈X.ex\/X.bY.heap.objs.size<=b)/\b≠X.env.locals/\(∀x c,X.env.cells.lookup x=some c->c≠b)/\∀p∈X.pn++pins,p.1≠b)
 (keep:∀b o,b≠X.env.locals->b∉X.fs->b∉ch->s.heap.get? b=some o->H b=none->h'.get? b=some o)
 (slot:∀b o,b≠X.env.locals->b∈X.fs->b∉ch->s.heap.get? b=some o->H b=none->∃sl,h'.get? b=some {o with slots:=sl})(free:∀b o,b∉ch->s.heap.get? b=some o->H b=none->H' b=none)
 (there:∀b o,b∉ch->s.heap.get? b=some o->∃o',h'.get? b=some o')
 (je:∀b xs,H b=some (.tup xs)->H' b=some (.tup xs))(gp:∀b o u,H b=some (.ai o u)->H' b=some (.ai o u))(jc:∀b ps,H b=some (.bb ps)->∃more,H' b=some (.bb (ps++more)))
 (ns:∀m,s.heap.Ns X.env.locals m->h'.Ns X.env.locals m)(ab:SL X.prog X.w H' h')(hg:oC g'):
 Inv X pins σ H' {s with heap:=h',gens:=g',drawn:=d',toks:=t'}:=by
 have neL:∀b o,X.bY.heap.get? b=some o->b≠X.env.locals:=λb o e=>Ps (b7 (FB e) I.ok.above)
 have neC:∀b o,X.bY.heap.get? b=some o->b∉X.ex->b∉ch:=λb o e hx hb=>by
  rcases(iq b hb).1 with z|z
  .exact hx z
  .exact absurd (b7 (FB e) z) (f9 _)
 have cellK:∀x c,X.env.cells.lookup x=some c->∀v,s.heap.IsCell c v->h'.IsCell c v:=λx c e v⟨o,ho,hd⟩=>by
  have sF:c∉ch:=λz=>(iq c z).2.2.1 x c e rfl
  by_cases hc:c∈X.fs
  .obtain⟨sl,q⟩:=slot c o (I.l8 x c e) hc sF ho (I.freeC x c e)
   exact⟨_,q,hd⟩
  .exact⟨o,keep c o (I.l8 x c e) hc sF ho (I.freeC x c e),hd⟩
 refine⟨I.ok,I.os,hg,⟨λb o e n hb hx=> ?_,λb o e n hb hx=> ?_,λb o e n hx=> ?_,λb o e hx=> ?_,λb xs e=>je b xs (I.base.je b xs e),λb o xs e=>gp b o xs (I.base.gp b o xs e),λb ps e=> ?_⟩,?_,λx c e=> ?_,?_,λx c e=> ?_,λp hp=> ?_,ab,I.len⟩
 .exact keep b o (neL b o e) hb (neC b o e hx) (I.base.keep b o e n hb hx) (I.base.free b o e n hx)
 .obtain⟨sl,e1⟩:=I.base.slot b o e n hb hx
  obtain⟨sl',e2⟩:=slot b _ (neL b o e) hb (neC b o e hx) e1 (I.base.free b o e n hx)
  exact⟨sl',e2⟩
 .obtain⟨o',e1⟩:=I.base.there b o e hx
  exact free b o' (neC b o e hx) e1 (I.base.free b o e n hx)
 .obtain⟨o',e1⟩:=I.base.there b o e hx
  exact there b o' (neC b o e hx) e1
 .obtain⟨m1,e1⟩:=I.base.jc b ps e
  obtain⟨m2,e2⟩:=jc b _ e1
  exact⟨m1++m2,by rw[e2,Array.append_assoc]⟩
 .obtain⟨m,hn,hl⟩:=I.loc
  refine⟨m,ns m hn,λi x v e1 e2 e3=> ?_⟩
  obtain⟨u,r,l⟩:=hl i x v e1 e2 e3
  refine⟨u,r,?_⟩
  rcases l with l|⟨k,c,e,z⟩
  .exact .inl l
  .exact .inr ⟨k,c,e,cellK x c e _ z⟩
 .obtain⟨v,z⟩:=I.cell x c e
  exact⟨v,cellK x c e v z⟩
 .obtain⟨m,⟨o,_,_,ho,_⟩,_⟩:=I.loc
  exact free _ o (λz=>(iq _ z).2.1 rfl) ho I.free
 .obtain⟨v,o,ho,hd⟩:=I.cell x c e
  exact free c o (λz=>(iq c z).2.2.1 x c e rfl) ho (I.freeC x c e)
 .obtain⟨e,n,ne,nf,d⟩:=I.pin p hp
  have sF:p.1∉ch:=λz=>(iq p.1 z).2.2.2 p hp rfl
  exact⟨keep p.1 p.2 ne nf sF e n,free p.1 p.2 sF e n,ne,nf,d⟩
theorem Inv.un{t':Nat}(I:Inv X pins σ H s)(u:Un X.fs [] H H' s.heap h')(ab:SL X.prog X.w H' h'):Inv X pins σ H' {s with heap:=h',toks:=t'}:=by
 obtain⟨m,⟨o,es,ep,ho,r⟩,_⟩:=id I.loc
 obtain⟨sl,hL⟩:=u.any ho I.free (by simp)
 exact I.step (g':=s.gens) (d':=s.drawn) (ch:=[]) (λ_ z=>nomatch z) (λb o _ hb _ e n=>u.keep b o e n hb (by simp)) (λb o _ hb _ e n=>u.slot b o e n hb (by simp)) (λb o _ e n=>u.free b o e n (by simp)) (λb o _ e=>u.there b o e (by simp)) u.je u.gp u.jc (λm' hm=>by
  obtain⟨o',es',ep',ho',r'⟩:=hm
  rw[ho]at ho';cases ho'
  exact⟨_,es',ep',hL,r'⟩) ab I.bare
theorem Inv.call{g':Array GenState}{t':Nat}{d':Drawn}{ch:List ac}(I:Inv X pins σ H s)(u:Un (gv X.stack) ch H H' s.heap h')(ab:SL X.prog X.w H' h')(hg:oC g')
 (iq:∀b∈ch,(b∈X.ex\/X.bY.heap.objs.size<=b)/\b≠X.env.locals/\(∀x c,X.env.cells.lookup x=some c->c≠b)/\∀p∈X.pn++pins,p.1≠b):
 Inv X pins σ H' {s with heap:=h',gens:=g',drawn:=d',toks:=t'}:=by
 obtain⟨m,⟨o,es,ep,ho,r⟩,_⟩:=id I.loc
 obtain⟨sl,hL⟩:=u.any ho I.free λz=>(iq _ z).2.1 rfl
 exact I.step (ch:=ch) iq (λb o hL hb hc e n=>u.keep b o e n (λz=>(wl.mp (I.Eh b z)).elim hL hb) hc) (λb o _ _ hc e n=>u.any e n hc) (λb o hc e n=>u.free b o e n hc) (λb o hc e=>u.there b o e hc) u.je u.gp u.jc (λm' hm=>by
  obtain⟨o',es',ep',ho',r'⟩:=hm
  rw[ho]at ho';cases ho'
  exact⟨_,es',ep',hL,r'⟩) ab hg
theorem Inv.turned{t':Nat}{it:ac}(I:Inv X pins σ H s)(k:∀b o,b≠it->s.heap.get? b=some o->h'.get? b=some o)(hn:H it=none)(hL:it≠X.env.locals)
 (h1:it∈X.ex\/X.bY.heap.objs.size<=it)(h2:∀x c,X.env.cells.lookup x=some c->c≠it)(h3:∀p∈X.pn++pins,p.1≠it):Inv X pins σ H {s with heap:=h',toks:=t'}:=by
 have sG:∀b u,H b=some u->b≠it:=λb u e z=>by rw[z,hn]at e;cases e
 refine I.step (g':=s.gens) (d':=s.drawn) (ch:=[it]) (λb hb=> ?_) (λb o _ _ hc e _=>k b o (λz=>hc (by simp[z])) e) (λb o _ _ hc e _=>⟨o.slots,k b o (λz=>hc (by simp[z])) e⟩) (λ_ _ _ _ n=>n)
  (λb o hc e=>⟨o,k b o (λz=>hc (by simp[z])) e⟩) (λ_ _ e=>e) (λ_ _ _ e=>e) (λb ps e=>⟨#[],by rw[e];simp⟩) (λm hm=> ?_) (λb u e=> ?_) I.bare
 .have e:b=it:=by simpa using hb
  subst e
  exact⟨h1,hL,h2,h3⟩
 .obtain⟨o,es,ep,ho,r⟩:=hm
  exact⟨o,es,ep,k _ o (dS hL) ho,r⟩
 .refine(I.ab b u e).gq (λc v hc q=>k c v ?_ q) (λ_ q=>q) λ_ _ q=>q
  rcases hc with z|z
  .rw[z];exact sG b u e
  .exact sG c _ z
theorem Inv.tok(I:Inv X pins σ H s)(t:Nat):Inv X pins σ H {s with toks:=t}:=I.un (h':=s.heap) (t':=t) Un.refl I.ab
theorem Inv.kept{t':Nat}(I:Inv X pins σ H s)(k:∀b u,s.heap.get? b=some u->h'.get? b=some u):Inv X pins σ H {s with heap:=h',toks:=t'}:=I.un (Un.kept k) (I.ab.kept k)
theorem Inv.laid{a:ac}{o:HO}{t':Nat}(I:Inv X pins σ H s)(k:∀b u,s.heap.get? b=some u->h'.get? b=some u)(hp:s.heap.objs.size<=a)(new:aA X.prog X.w (upd H a o) h' a o):
 Inv X pins σ (upd H a o) {s with heap:=h',toks:=t'}:=I.un (Un.laid k hp (I.ab.fresh hp)) (I.ab.laid k hp new)
theorem Inv.write{x e:ac}{o:HO}{t':Nat}(I:Inv X pins σ H s)(mu:lZ (H x))(he:e=x\/H e=some (.own x))(k:∀b u,b≠e->s.heap.get? b=some u->h'.get? b=some u)(pz:∃u,h'.get? e=some u)
 (new:aA X.prog X.w (upd H x o) h' x o):Inv X pins σ (upd H x o) {s with heap:=h',toks:=t'}:=I.un (Un.write mu he k pz) (I.ab.write mu he k pz new)
theorem Inv.weak{σ':List (Option V)}(I:Inv X pins σ H s)(hl:σ'.length=σ.length)(w:∀(i:Nat)v,σ'[i]? =some (some v)->σ[i]? =some (some v)):Inv X pins σ' H s:=
 ⟨I.ok,I.os,I.bare,I.base,let⟨m,hn,hl'⟩:=I.loc;⟨m,hn,λi x v e1 e2 e3=>hl' i x v e1 (w i v e2) e3⟩,I.cell,I.free,I.freeC,I.pin,I.ab,hl.trans I.len⟩
theorem Inv.MO{N4:List (ac×Obj)}(I:Inv X pins σ H s)(h:∀p∈N4,s.heap.get? p.1=some p.2/\H p.1=none/\p.1≠X.env.locals/\p.1∉X.fs/\∀v,p.2.data≠.cell v):Inv X N4 σ H s:=
 ⟨I.ok,I.os,I.bare,I.base,I.loc,I.cell,I.free,I.freeC,λp hp=>(NE.mp hp).elim (λz=>I.pin p (pN _ z)) (h p),I.ab,I.len⟩
theorem CL{N:List Str}(hN:N.Nodup){i j:Nat}{x:Str}(a:N[i]? =some x)(b:N[j]? =some x):i=j:=by
 obtain⟨h1,e1⟩:=P4.mp a
 obtain⟨h2,e2⟩:=P4.mp b
 exact(List.getElem_inj hN).mp (e1.trans e2.symm)
theorem KY{M:Model}{A:ww}{E:al->ap->Prop}{i:Nat}{x:Str}{v:V}{u:al}{Q:Unit->ap->Prop}(I:Inv X pins σ H s)(hN:X.N.Nodup)(hi:X.N[i]? =some x)(hx:Loc X.env.scope x)(r:RelV v u)
 (h:∀s',Inv X pins (σ.set i (some v)) H s'->(∃a,aC a s.heap s'.heap/\(a=X.env.locals\/X.env.cells.lookup x=some a))->Q () s')(hf:X.fn x=true\/X.env.scope.names.lookup x=some .local:=by first|exact .inl rfl|exact .inr rfl|assumption):wpAny M A (storeName X.env x u) Q E s:=by
 obtain⟨m,hn,hl⟩:=id I.loc
 have ac4:(X.env.scope.kind== .class||(X.env.scope.kind== .module&&X.env.locals != X.env.globals))=false:=by rw[I.ok.kind];rfl
 have hiσ:i<σ.length:=by rw[I.len];exact(P4.mp hi).1
 have l8:=I.l8
 have tracked:∀{a:ac}{h':io},(∃o,s.heap.get? a=some o/\H a=none)->aC a s.heap h'->SL X.prog X.w H h':=λ{a h'}ha hs b ob e=>by
  obtain⟨_,_,oK⟩:=ha
  refine(I.ab b ob e).gq (λc w' hc q=>(hs.2 c ?_).trans q) (λ_ q=>q) λ_ _ q=>q
  rintro rfl
  rcases hc with rfl|hc
  .rw[oK]at e;cases e
  .rw[oK]at hc;cases hc
 rcases hx with hk|hk
 .refine wpAny_storeName_local hk hn (λh' hn' hs=> ?_) ac4
  obtain⟨oL,_,_,hoL,_⟩:=id hn
  refine h _ ⟨I.ok,I.os,I.bare,⟨λb o e n hb hx=> ?_,λb o e n hb hx=> ?_,I.base.free,λb o e hx=> ?_,I.base.je,I.base.gp,I.base.jc⟩,⟨_,hn',λj y v' e1 e2 e3=> ?_⟩,λy c e=> ?_,I.free,I.freeC,λp hp=> ?_,tracked ⟨oL,hoL,I.free⟩ hs,by simpa using I.len⟩ ⟨_,hs,.inl rfl⟩
  .exact(hs.2 b (Ps (b7 (FB e) I.ok.above))).trans (I.base.keep b o e n hb hx)
  .obtain⟨sl,e1⟩:=I.base.slot b o e n hb hx
   exact⟨sl,(hs.2 b (Ps (b7 (FB e) I.ok.above))).trans e1⟩
  .obtain⟨o',e1⟩:=I.base.there b o e hx
   exact⟨o',(hs.2 b (Ps (b7 (FB e) I.ok.above))).trans e1⟩
  .by_cases hj:j=i
   .subst hj
    rw[hi]at e1;cases e1
    rw[GS hiσ]at e2
    cases e2
    exact⟨u,r,.inl ⟨hk,by simp⟩⟩
   .rw[Hh (dS hj)]at e2
    obtain⟨u',r',q⟩:=hl j y v' e1 e2 e3
    refine⟨u',r',?_⟩
    rcases q with⟨k,e⟩|⟨k,c,e,z⟩
    .refine .inl ⟨k,?_⟩
     have:y≠x:=λe=>hj (CL hN e1 (e▸hi))
     simp[this,e]
    .exact .inr ⟨k,c,e,z.sameBut hs (l8 y c e)⟩
  .obtain⟨w',z⟩:=I.cell y c e
   exact⟨w',z.sameBut hs (l8 y c e)⟩
  .obtain⟨e,n,ne,nf,d⟩:=I.pin p hp
   exact⟨(hs.2 p.1 ne).trans e,n,ne,nf,d⟩
 .have se:X.fn x=true:=by
   rcases hf with z|z
   .exact z
   .rw[z]at hk;cases hk
  obtain⟨c,hc⟩:=I.ok.has x (.inl hk)
  obtain⟨w',z⟩:=I.cell x c hc
  refine wpAny_storeName_cell I.ok.kind hk hc z (λh' hc' hs=> ?_)
  obtain⟨oc,Px,adb⟩:=id z
  refine h {s with heap:=h'} ⟨I.ok,I.os,I.bare,⟨λb o e n hb hx=> ?_,λb o e n hb hx=> ?_,I.base.free,λb o e hx=> ?_,I.base.je,I.base.gp,I.base.jc⟩,⟨m,hn.sameBut hs (dS (l8 x c hc)),λj y v' e1 e2 e3=> ?_⟩,λy c' e=> ?_,I.free,I.freeC,λp hp=> ?_,tracked ⟨oc,Px,I.freeC x c hc⟩ hs,by simpa using I.len⟩ ⟨c,hs,.inr hc⟩
  .exact(hs.2 b (Ps (b7 (FB e) (I.ok.r9 x c se hc)))).trans (I.base.keep b o e n hb hx)
  .obtain⟨sl,e1⟩:=I.base.slot b o e n hb hx
   exact⟨sl,(hs.2 b (Ps (b7 (FB e) (I.ok.r9 x c se hc)))).trans e1⟩
  .obtain⟨o',e1⟩:=I.base.there b o e hx
   exact⟨o',(hs.2 b (Ps (b7 (FB e) (I.ok.r9 x c se hc)))).trans e1⟩
  .by_cases hj:j=i
   .subst hj
    rw[hi]at e1;cases e1
    rw[GS hiσ]at e2
    cases e2
    exact⟨u,r,.inr ⟨.inl hk,c,hc,hc'⟩⟩
   .rw[Hh (dS hj)]at e2
    obtain⟨u',r',q⟩:=hl j y v' e1 e2 e3
    refine⟨u',r',?_⟩
    rcases q with q|⟨k,c',e,z'⟩
    .exact .inl q
    .refine .inr ⟨k,c',e,z'.sameBut hs ?_⟩
     rintro rfl
     exact hj (CL hN e1 (I.ok.inj _ _ _ e hc▸hi))
  .by_cases pq:c'=c
   .subst pq;exact⟨_,hc'⟩
   .obtain⟨w2,z2⟩:=I.cell y c' e
    exact⟨w2,z2.sameBut hs pq⟩
  .obtain⟨e,n,ne,nf,d⟩:=I.pin p hp
   refine⟨(hs.2 p.1 ?_).trans e,n,ne,nf,d⟩
   intro q
   rw[q,Px]at e
   have q':oc=p.2:=TD e
   exact d w' (by rw[<-q'];exact adb)
theorem C4{M:Model}{A:ww}{E:al->ap->Prop}{i:Nat}{x:Str}{v:V}{u:al}{Q:Unit->ap->Prop}(I:Inv X pins σ H s)(hN:X.N.Nodup)(hi:X.N[i]? =some x)(hx:Loc X.env.scope x)(r:RelV v u)
 (h:∀s',Inv X pins (σ.set i (some v)) H s'->Q () s')(hf:X.fn x=true\/X.env.scope.names.lookup x=some .local:=by first|exact .inl rfl|exact .inr rfl|assumption):wpAny M A (storeName X.env x u) Q E s:=
 KY I hN hi hx r (λs' I' _=>h s' I') hf
theorem Inv.aci{s':ap}{ch:List ac}(I:Inv X pins σ H s)(ho:s'.os=s.os)(u:Un (gv X.stack) ch H H' s.heap s'.heap)(ab:SL X.prog X.w H' s'.heap)(hg:oC s'.gens)
 (iq:∀b∈ch,(b∈X.ex\/X.bY.heap.objs.size<=b)/\b≠X.env.locals/\(∀x c,X.env.cells.lookup x=some c->c≠b)/\∀p∈X.pn++pins,p.1≠b):Inv X pins σ H' s':=by
 obtain⟨h',g',d',t',o'⟩:=s'
 have e:o'=s.os:=ho
 subst e
 exact I.call (g':=g') (t':=t') (d':=d') u ab hg iq
end
abbrev XK:=al->Option ac->Hp->Prop
abbrev St:=List (Option V)
abbrev VK:=V->Hp->Prop
abbrev TE:=St->Hp->VK->Prop
abbrev TT:=St->Hp->(Bool->Hp->Prop)->Prop
abbrev TA:=St->Hp->(List V->Hp->Prop)->Prop
structure Ends where
 nx:St->Hp->Prop
 rt:VK
 bk:St->Hp->Prop:=λ_ _=>False
 ct:St->Hp->Prop:=λ_ _=>False
abbrev TS:=Ends->St->Hp->Prop
def EP(X:Cx)(pins:List (ac×Obj))(σ:St)(Q:VK)(u:al)(s':ap):Prop:=∃v H',Inv X pins σ H' s'/\RelV v u/\Q v H'
def TP(X:Cx)(pins:List (ac×Obj))(σ:St)(Q:Bool->Hp->Prop)(b:Bool)(s':ap):Prop:=∃H',Inv X pins σ H' s'/\Q b H'
def AP(X:Cx)(pins:List (ac×Obj))(σ:St)(Q:List V->Hp->Prop)(us:List al)(s':ap):Prop:=∃vs H',Inv X pins σ H' s'/\Vals vs us/\Q vs H'
def SP(X:Cx)(pins:List (ac×Obj))(D:Ends)(f:Flow)(s':ap):Prop:=
 match f with
 |.next=>∃σ' H',Inv X pins σ' H' s'/\D.nx σ' H'
 |.brk=>∃σ' H',Inv X pins σ' H' s'/\D.bk σ' H'
 |.cont=>∃σ' H',Inv X pins σ' H' s'/\D.ct σ' H'
 |.ret u=>∃v σ' H',Inv X pins σ' H' s'/\RelV v u/\D.rt v H'
def PE(X:Cx)(e:lv)(t:TE):Prop:=
 ∀(pins:List (ac×Obj))(s:ap)(σ:St)(H:Hp)(Q:VK),Inv X pins σ H s->t σ H Q->wpAny (model X.prog X.w) X.A (eval e X.env) (EP X pins σ Q) X.xe s
def PT(X:Cx)(e:lv)(t:TT):Prop:=
 ∀(pins:List (ac×Obj))(s:ap)(σ:St)(H:Hp)(Q:Bool->Hp->Prop),Inv X pins σ H s->t σ H Q->wpAny (model X.prog X.w) X.A (isTrue e X.env (eval e X.env)) (TP X pins σ Q) X.xe s
def PW(X:Cx)(e:lv)(t:TT):Prop:=
 ∀(whole:Sem al)(pins:List (ac×Obj))(s:ap)(σ:St)(H:Hp)(Q:Bool->Hp->Prop),Inv X pins σ H s->t σ H Q->wpAny (model X.prog X.w) X.A (isTrue e X.env whole) (TP X pins σ Q) X.xe s
theorem PW.pt{X:Cx}{e:lv}{t:TT}(h:PW X e t):PT X e t:=h _
def PA(X:Cx)(es:List lv)(t:TA):Prop:=
 ∀(pos:Pos)(pins:List (ac×Obj))(s:ap)(σ:St)(H:Hp)(Q:List V->Hp->Prop),Inv X pins σ H s->t σ H Q->wpAny (model X.prog X.w) X.A (spliced (backTo pos (starEach es X.env))) (AP X pins σ Q) X.xe s
def PS(X:Cx)(st:nl)(t:TS):Prop:=
 ∀(pins:List (ac×Obj))(s:ap)(σ:St)(H:Hp)(D:Ends),Inv X pins σ H s->t D σ H->wpAny (model X.prog X.w) X.A (exec st X.env) (SP X pins D) X.xe s
def eF(X:Cx)(st:List nl)(t:TS):Prop:=
 ∀(pins:List (ac×Obj))(s:ap)(σ:St)(H:Hp)(D:Ends),Inv X pins σ H s->t D σ H->wpAny (model X.prog X.w) X.A (execs st X.env) (SP X pins D) X.xe s
theorem rs{α:Type}{t:Sem α}{Q Q':α->ap->Prop}{M:Model}{A:ww}{E:al->ap->Prop}{s:ap}(h:wpAny M A t Q E s)(hQ:∀a s,Q a s->Q' a s):wpAny M A t Q' E s:=cE h hQ λ_ _ x=>x
end L2
namespace L2
open PySem PySem.Spec PyProof.Rows
section
variable{X:Cx}
theorem bin{a b:lv}{ta tb:TE}(ha:PE X a ta)(hb:PE X b tb){pins:List (ac×Obj)}{s:ap}{σ:St}{H:Hp}{R:V->V->Hp->Prop}(I:Inv X pins σ H s)(h:ta σ H λx H1=>tb σ H1 λy H2=>R x y H2)
 {α:Type}{Q:α->ap->Prop}{f:al->al->Sem α}
 (hf:∀v u s2 x y H2,Inv X pins σ H2 s2->RelV x v->RelV y u->R x y H2->wpAny (model X.prog X.w) X.A (f v u) Q X.xe s2):
 wpAny (model X.prog X.w) X.A (eval a X.env) (λv s₁=>wpAny (model X.prog X.w) X.A (eval b X.env) (λu s₂=>wpAny (model X.prog X.w) X.A (f v u) Q X.xe s₂) X.xe s₁) X.xe s:=by
 refine rs (ha pins s σ H _ I h) λv s1⟨x,H1,I1,r1,q1⟩=> ?_
 refine rs (hb pins s1 σ H1 _ I1 q1) λu s2⟨y,H2,I2,r2,q2⟩=> ?_
 exact hf v u s2 x y H2 I2 r1 r2 q2
def Fn(i:Nat):TE:=λσ H Q=>∃v,σ[i]? =some (some v)/\Q v H
def tC(v:V):TE:=λ_ H Q=>Q v H
theorem abH{i:Nat}{x:Str}{pos:Pos}(hN:X.N[i]? =some x)(hv:pf X.env.scope x)(hd:(x==("__debug__":Str))=false:=by decide)(d5:(x==("__classdict__":Str))=false:=by decide):PE X (.Name x pos) (Fn i):=by
 intro pins s σ H Q I h
 obtain⟨v,e,h⟩:=h
 obtain⟨m,hn,hl⟩:=I.loc
 obtain⟨u,r,l⟩:=hl i x v hN e hv
 have fin:EP X pins σ Q u s:=⟨v,H,I,r,h⟩
 rcases l with⟨hk,hm⟩|⟨hk,c,hc,w4⟩
 .exact wpAny_Name (wpAny_loadName_local I.ok.kind hk hn hm fin) hd
 .rcases hk with hk|hk
  .exact wpAny_Name (wpAny_loadName_cell I.ok.kind hk hc w4 fin) hd
  .exact wpAny_Name (wpAny_loadName_free I.ok.kind hk hc w4 fin d5) hd
theorem nb{i j pos}:PE X (.Constant (.int i) j pos) (tC (.int i)):=λ_ _ _ H _ I h=>wpAny_Constant_int ⟨.int i,H,I.tok _,⟨_,rfl⟩,h⟩
theorem acN{b j pos}:PE X (.Constant (.bool b) j pos) (tC (.bl b)):=λ_ _ _ H _ I h=>Constant_bool ⟨.bl b,H,I,rfl,h⟩
def Gl(X:Cx)(x:Str):Prop:=X.env.kindOf x=some .globalImplicit
theorem wz{E:al->ap->Prop}{pins:List (ac×Obj)}{s:ap}{σ:St}{H:Hp}{x:Str}{u:al}{pos:Pos}{Q:al->ap->Prop}(I:Inv X pins σ H s)(hg:Gl X x)(hm:X.mg x=some u)(h:Q u s)
 (hd:(x==("__debug__":Str))=false:=by decide):wpAny (model X.prog X.w) X.A (eval (.Name x pos) X.env) Q E s:=
 RP I.ok.kind hg (Calls.loadGlobal_global (by rw[I.ok.glob];exact I.mod.glob.keeps I.bk) hm h) hd
theorem i7{E:al->ap->Prop}{pins:List (ac×Obj)}{s:ap}{σ:St}{H:Hp}{x:Str}{u:al}{pos:Pos}{Q:al->ap->Prop}(I:Inv X pins σ H s)(hg:Gl X x)(hm:X.mg x=none)(hv:bootBuiltins x=some u)(h:Q u s)
 (hn:x≠"__name__":=by decide)(hd:(x==("__debug__":Str))=false:=by decide):wpAny (model X.prog X.w) X.A (eval (.Name x pos) X.env) Q E s:=by
 obtain⟨mb,h1,h2⟩:=I.mod.blt
 exact RP I.ok.kind hg (Calls.loadGlobal_builtin (by rw[I.ok.glob];exact I.mod.glob.keeps I.bk) hm (by rw[I.ok.blt];exact h1.keeps I.bk) ((h2 x hn).trans hv) h) hd
theorem MI{x:Str}{v:V}{u:al}{pos:Pos}(hg:Gl X x)(hm:X.mg x=some u)(r:RelV v u)(hd:(x==("__debug__":Str))=false:=by decide):PE X (.Name x pos) (tC v):=
 λ_ _ _ H _ I h=>wz I hg hm ⟨v,H,I,r,h⟩ hd
variable{a b:lv}{ta tb:TE}{pos:Pos}
def PC(X:Cx)(op:lV)(a b:lv)(t:TE):Prop:=
 ∀(pins:List (ac×Obj))(s:ap)(σ:St)(H:Hp)(Q:VK),Inv X pins σ H s->t σ H Q->
  wpAny (model X.prog X.w) X.A (eval a X.env) (λv s₁=>wpAny (model X.prog X.w) X.A (eval b X.env) (λu s₂=>wpAny (model X.prog X.w) X.A (compareOp op v u) (EP X pins σ Q) X.xe s₂) X.xe s₁) X.xe s
theorem Y6(b:lv){op:lV}(h:op≠.In)(h2:op≠.NotIn):behindInMarks op b=false:=by
 have e1:(op==CmpOp.In)=false:=by cases op<;>first|rfl|exact absurd rfl h
 have e2:(op==CmpOp.NotIn)=false:=by cases op<;>first|rfl|exact absurd rfl h2
 cases b<;>simp[behindInMarks,e1,e2]
def tB(t:TE):TT:=λσ H Q=>t σ H λx H1=>∃c,x=.bl c/\Q c H1
theorem NB{op:lV}{t:TE}(h:PC X op a b t)(h1:behindInMarks op b=false:=by first|exact Y6 _ (by decide) (by decide)|rfl):PT X (.Compare a [op] [b] pos) (tB t):=by
 intro pins s σ H Q I hw
 refine wpAny_isTrue_Compare1 (rs (h pins s σ H _ I hw) λv s1 h1=>rs h1 λu s2 h2=>rs h2 λc s3⟨x,H1,I1,r1,q1⟩=> ?_) h1
 obtain⟨d,rfl,q⟩:=q1
 cases r1
 exact iJ ⟨H1,I1,q⟩
theorem eS{e:lv}{t:TE}(h:PE X e t)(he:∀whole,isTrue e X.env whole=(do let v <-whole;standAt e.pos;holding [v] (truthy v)):=by intro _;rfl):PT X e (tB t):=by
 intro pins s σ H Q I hw
 refine isTrue_plain (rs (h pins s σ H _ I hw) λv s1⟨x,H1,I1,r1,q1⟩=> ?_) (he _)
 obtain⟨d,rfl,q⟩:=q1
 cases r1
 exact iJ ⟨H1,I1,q⟩
variable{tA tB':TT}{rest:List lv}
def OT(t u:TT):TT:=λσ H Q=>t σ H λc H1=>if c=true then u σ H1 Q else Q false H1
def Qc(t u:TT):TT:=λσ H Q=>t σ H λc H1=>if c=true then Q true H1 else u σ H1 Q
def O0(t:TT):TT:=λσ H Q=>t σ H λc H1=>Q (!c) H1
theorem DJ(ha:PT X a tA):PW X (.BoolOp .And [a] pos) tA:=by
 intro wh pins s σ H Q I h
 refine isTrue_and (rs (ha pins s σ H Q I h) λc s1 e=> ?_)
 cases c with
 |true=>exact isTrue_and_nil e
 |false=>exact e
theorem abP(ha:PT X a tA):PW X (.BoolOp .Or [a] pos) tA:=by
 intro wh pins s σ H Q I h
 refine isTrue_or (rs (ha pins s σ H Q I h) λc s1 e=> ?_)
 cases c with
 |false=>exact isTrue_or_nil e
 |true=>exact e
theorem Ed(ha:PT X a tA)(hb:PW X (.BoolOp .And (b::rest) pos) tB'):PW X (.BoolOp .And (a::b::rest) pos) (OT tA tB'):=by
 intro wh pins s σ H Q I h
 refine isTrue_and (rs (ha pins s σ H _ I h) λc s1⟨H1,I1,q1⟩=> ?_)
 cases c with
 |true=>exact hb wh pins s1 σ H1 Q I1 q1
 |false=>exact⟨H1,I1,q1⟩
theorem acO(ha:PT X a tA)(hb:PW X (.BoolOp .Or (b::rest) pos) tB'):PW X (.BoolOp .Or (a::b::rest) pos) (Qc tA tB'):=by
 intro wh pins s σ H Q I h
 refine isTrue_or (rs (ha pins s σ H _ I h) λc s1⟨H1,I1,q1⟩=> ?_)
 cases c with
 |true=>exact⟨H1,I1,q1⟩
 |false=>exact hb wh pins s1 σ H1 Q I1 q1
theorem bT(ha:PT X a tA):PT X (.UnaryOp .Not a pos) (O0 tA):=by
 intro pins s σ H Q I h
 exact isTrue_not (ha pins s σ H (λc H1=>Q (!c) H1) I h)
def Oa(ta tb:TE):TE:=λσ H Q=>ta σ H λx H1=>∃c,x=.bl c/\if c=true then tb σ H1 Q else Q (.bl false) H1
def adw(ta tb:TE):TE:=λσ H Q=>ta σ H λx H1=>∃c,x=.bl c/\if c=true then Q (.bl true) H1 else tb σ H1 Q
def acR(ta:TE):TE:=λσ H Q=>ta σ H λx H1=>∃c,x=.bl c/\Q (.bl (!c)) H1
theorem abF{op}{t:TE}(h:PE X a t):PE X (.BoolOp op [a] pos) t:=λpins s σ H Q I hw=>BoolOp_one (h pins s σ H Q I hw)
theorem abC(ha:PE X a ta)(hb:PE X (.BoolOp .And (b::rest) pos) tb):PE X (.BoolOp .And (a::b::rest) pos) (Oa ta tb):=by
 intro pins s σ H Q I h
 refine BoolOp_and (rs (ha pins s σ H _ I h) λv s1⟨x,H1,I1,r1,q1⟩=> ?_)
 obtain⟨c,rfl,q1⟩:=q1
 cases r1
 refine iJ ?_
 cases c with
 |true=>exact hb pins s1 σ H1 Q I1 q1
 |false=>exact⟨.bl false,H1,I1,rfl,q1⟩
def Qb(t:TT)(ta tb:TE):TE:=λσ H Q=>t σ H λc H1=>if c=true then ta σ H1 Q else tb σ H1 Q
theorem Zc{c:lv}(hc:PT X c tA)(ha:PE X a ta)(hb:PE X b tb):PE X (.IfExp c a b pos) (Qb tA ta tb):=by
 intro pins s σ H Q I h
 refine wpAny_IfExp (rs (hc pins s σ H _ I h) λd s1⟨H1,I1,q1⟩=> ?_)
 cases d with
 |true=>exact ha pins s1 σ H1 Q I1 q1
 |false=>exact hb pins s1 σ H1 Q I1 q1
end
end L2
namespace L2
open PySem PySem.Spec PyProof.Rows
def aa(K:ge)(H:Hp)(a:ac)(xs:List V):Prop:=
 Rd H a (.lst xs)\/
  ∃(o:Obj)(ci:Array al)(n:Nat),K.lookup a=some o/\o.cls=.type "list"/\o.dict=none/\o.data=.seq ci n/\ci.size<=sizeLine/\Vals xs ci.toList
def P3(K:ge)(H:Hp)(a:ac)(xs:List V):Prop:=
 Rd H a (.tup xs)\/
  ∃(o:Obj)(ci:Array al)(n:Nat),K.lookup a=some o/\o.cls=.type "tuple"/\o.data=.seq ci n/\ci.size<=sizeLine/\Vals xs ci.toList
noncomputable def ES:al->Option V
 |.none=>some .ag
 |.bool b=>some (.bl b)
 |.int i _=>some (.int i)
 |.str x _=>some (.str x)
 |.bytes b _=>some (.bV b)
 |.float b _=>some (.pj b)
 |.ref a=>some (.ref a)
 |.type n=>some (.ty n)
 |_=>none
theorem RelV.abs{x:V}{u:al}(r:RelV x u):ES u=some x:=by
 cases x with
 |ag=>cases r;rfl
 |bl _=>cases r;rfl
 |int _=>obtain⟨t,rfl⟩:=r;rfl
 |str _=>obtain⟨t,rfl⟩:=r;rfl
 |bV _=>obtain⟨t,rfl⟩:=r;rfl
 |pj _=>obtain⟨t,rfl⟩:=r;rfl
 |ref _=>cases r;rfl
 |ty _=>cases r;rfl
theorem RelV.inj{x y:V}{u:al}(r:RelV x u)(q:RelV y u):x=y:=TD (r.abs.symm.trans q.abs)
theorem Vals.inj:∀{xs ys:List V}{us:List al},Vals xs us->Vals ys us->xs=ys
 |_,_,_,.nil,.nil=>rfl
 |_,_,_,.cons r t,.cons r' t'=>by rw[r.inj r',Vals.inj t t']
section
variable{X:Cx}{pins:List (ac×Obj)}{σ:St}{H:Hp}{s:ap}{a:ac}{xs ys:List V}
theorem aa.of{K:ge}(h:H a=some (.lst xs)):aa K H a xs:=.inl (.inl h)
theorem P3.of{K:ge}(h:H a=some (.tup xs)):P3 K H a xs:=.inl (.inl h)
theorem Inv.list(I:Inv X pins σ H s)(h:aa X.K H a xs):∃ci:List al,Vals xs ci/\PlainL s.heap a ci.toArray/\xs.length<=sizeLine:=by
 rcases h with h|⟨o,ci,n,hk,hc,hd,hs,hz,r⟩
 .obtain⟨z,ci,n,r,e⟩:=h.ok I.ab
  exact⟨ci,r,⟨_,n,e,rfl,rfl,rfl⟩,z⟩
 .refine⟨ci.toList,r,⟨o,n,I.eG a o hk,hc,hd,by simpa using hs⟩,?_⟩
  have e:=r.length
  simp only[wr]at e
  lia
theorem Inv.tuple(I:Inv X pins σ H s)(h:P3 X.K H a xs):∃ci:List al,Vals xs ci/\IsTup s.heap a ci.toArray/\xs.length<=sizeLine:=by
 rcases h with h|⟨o,ci,n,hk,hc,hs,hz,r⟩
 .obtain⟨z,ci,r,p⟩:=h.ok I.ab
  exact⟨ci,r,p,z⟩
 .refine⟨ci.toList,r,⟨o,I.eG a o hk,hc,n,by simpa using hs⟩,?_⟩
  have e:=r.length
  simp only[wr]at e
  lia
theorem Inv.CJ(I:Inv X pins σ H s)(h:aa X.K H a xs)(h':aa X.K H a ys):xs=ys:=by
 obtain⟨ci,r,⟨o,n,e,_,_,d⟩,_⟩:=I.list h
 obtain⟨its',r',⟨o',n',e',_,_,d'⟩,_⟩:=I.list h'
 rw[e]at e';cases e'
 rw[d]at d'
 injection d' with d1 _
 have:ci=its':=by simpa using congrArg K8 d1
 subst this
 exact r.inj r'
theorem Inv.X7(I:Inv X pins σ H s)(h:P3 X.K H a xs)(h':P3 X.K H a ys):xs=ys:=by
 obtain⟨ci,r,⟨o,e,_,n,d⟩,_⟩:=I.tuple h
 obtain⟨its',r',⟨o',e',_,n',d'⟩,_⟩:=I.tuple h'
 rw[e]at e';cases e'
 rw[d]at d'
 injection d' with d1 _
 have:ci=its':=by simpa using congrArg K8 d1
 subst this
 exact r.inj r'
end
noncomputable abbrev Cx.ij(X:Cx)(E:al->ap->Prop):Cx:={X with xe:=E}
noncomputable abbrev Cx.pG(X:Cx):Cx:=X.ij λ_ _=>False
theorem Cx.Ok.ij{X:Cx}(ok:X.Ok)(E:al->ap->Prop):(X.ij E).Ok:=
 ⟨ok.mod,ok.kind,ok.glob,ok.blt,ok.above,ok.inj,ok.has,ok.r9,ok.hd,ok.frames,ok.xT,ok.xC,ok.bs,ok.ip,ok.rV,ok.rN,ok.fH,ok.l9⟩
theorem Cx.Ok.jP{X:Cx}{E:al->ap->Prop}(ok:(X.ij E).Ok):X.Ok:=
 ⟨ok.mod,ok.kind,ok.glob,ok.blt,ok.above,ok.inj,ok.has,ok.r9,ok.hd,ok.frames,ok.xT,ok.xC,ok.bs,ok.ip,ok.rV,ok.rN,ok.fH,ok.l9⟩
section
variable{X:Cx}{pins:List (ac×Obj)}{σ:St}{H:Hp}{s:ap}{E:al->ap->Prop}
theorem Inv.ij(I:Inv X pins σ H s)(E:al->ap->Prop):Inv (X.ij E) pins σ H s:=⟨I.ok.ij E,I.os,I.bare,I.base,I.loc,I.cell,I.free,I.freeC,I.pin,I.ab,I.len⟩
theorem Inv.jP(I:Inv (X.ij E) pins σ H s):Inv X pins σ H s:=⟨I.ok.jP,I.os,I.bare,I.base,I.loc,I.cell,I.free,I.freeC,I.pin,I.ab,I.len⟩
theorem SP.jP{D:Ends}{f:Flow}{s':ap}(h:SP (X.ij E) pins D f s'):SP X pins D f s':=by
 cases f with
 |next=>obtain⟨σ',H',I,q⟩:=h;exact⟨σ',H',I.jP,q⟩
 |brk=>obtain⟨σ',H',I,q⟩:=h;exact⟨σ',H',I.jP,q⟩
 |cont=>obtain⟨σ',H',I,q⟩:=h;exact⟨σ',H',I.jP,q⟩
 |ret u=>obtain⟨v,σ',H',I,r,q⟩:=h;exact⟨v,σ',H',I.jP,r,q⟩
theorem eF.pG{st:List nl}{t:TS}(h:eF X.pG st t):eF X st t:=λpins s σ H D I hw=>
 cE (h pins s σ H D (I.ij _) hw) (λ_ _ q=>q.jP) λ_ _ z=>bR z
end
section
variable{X:Cx}{st:nl}{rest:List nl}{t u:TS}{e:lv}{te:TE}{pos:Pos}
def Oe:TS:=λD σ H=>D.nx σ H
def Fm(t u:TS):TS:=λD σ H=>t {D with nx:=u D} σ H
theorem aD:eF X [] Oe:=λ_ _ σ H _ I h=>Ba ⟨σ,H,I,h⟩
theorem ga(h1:PS X st t)(h2:eF X rest u):eF X (st::rest) (Fm t u):=by
 intro pins s σ H D I h
 refine wpAny_execs_cons (rs (h1 pins s σ H {D with nx:=u D} I h) λf s1 q=> ?_)
 cases f with
 |next=>
  obtain⟨σ',H',I',q⟩:=q
  exact h2 pins s1 σ' H' D I' q
 |ret v=>exact q
 |brk=>exact q
 |cont=>exact q
theorem jp(h1:PS X st t):eF X [st] t:=by
 intro pins s σ H D I h
 refine wpAny_execs_cons (rs (h1 pins s σ H D I h) λf s1 q=> ?_)
 cases f with
 |next=>exact Ba q
 |ret v=>exact q
 |brk=>exact q
 |cont=>exact q
theorem Inv.quiet{pins:List (ac×Obj)}{σ:St}{H:Hp}{s:ap}(I:Inv X pins σ H s):interactive X.env=false:=by simp[interactive,I.ok.kind]
def Od(te:TE):TS:=λD σ H=>te σ H λ_ H1=>D.nx σ H1
theorem du(he:PE X e te)(hs:swapsWith e none pos.line X.env=pure false:=by rfl):PS X (.Expr e pos) (Od te):=by
 intro pins s σ H D I h
 exact wpAny_Expr_any (rs (he pins s σ H _ I h) λv s1⟨x,H1,I1,r1,q1⟩=>⟨σ,H1,I1,q1⟩) I.quiet hs
def O1(te:TE):TS:=λD σ H=>te σ H D.rt
theorem pi(he:PE X e te):PS X (.Return (some e) pos) (O1 te):=by
 intro pins s σ H D I h
 exact wpAny_Return_some (rs (he pins s σ H _ I h) λv s1⟨x,H1,I1,r1,q1⟩=>⟨x,σ,H1,I1,r1,q1⟩)
def acS:TS:=λD _ H=>D.rt .ag H
def OY(c:TT)(t u:TS):TS:=λD σ H=>c σ H λb H1=>if b=true then t D σ H1 else u D σ H1
theorem aw{c:lv}{a b:List nl}{tc:TT}(hc:PT X c tc)(ha:eF X a t)(hb:eF X b u):PS X (.If c a b pos) (OY tc t u):=by
 intro pins s σ H D I h
 refine wpAny_If (rs (hc pins s σ H _ I h) λd s1⟨H1,I1,q1⟩=> ?_)
 cases d with
 |true=>exact ha pins s1 σ H1 D I1 q1
 |false=>exact hb pins s1 σ H1 D I1 q1
end
abbrev TG:=V->St->Hp->(St->Hp->Prop)->Prop
abbrev j4:=List V->St->Hp->(St->Hp->Prop)->Prop
def PG(X:Cx)(target:lv)(t:TG):Prop:=
 ∀(pins:List (ac×Obj))(s:ap)(σ:St)(H:Hp)(v:V)(u:al)(Q:St->Hp->Prop),Inv X pins σ H s->RelV v u->t v σ H Q->
  wpAny (model X.prog X.w) X.A (assign target X.env u) (λ_ s'=>∃σ' H',Inv X pins σ' H' s'/\Q σ' H') X.xe s
def r0(X:Cx)(ts:List lv)(t:j4):Prop:=
 ∀(pins:List (ac×Obj))(s:ap)(σ:St)(H:Hp)(vs:List V)(us:List al)(Q:St->Hp->Prop),Inv X pins σ H s->Vals vs us->t vs σ H Q->
  wpAny (model X.prog X.w) X.A (assignInOrder ((assignEach ts X.env).map (·.2)) us) (λ_ s'=>∃σ' H',Inv X pins σ' H' s'/\Q σ' H') X.xe s
abbrev EO:=V->V->V->Hp->(Hp->Prop)->Prop
def Oo(X:Cx)(t:EO):Prop:=
 ∀(pins:List (ac×Obj))(s:ap)(σ:St)(H:Hp)(o i v:V)(ov iv u:al)(Q:Hp->Prop),Inv X pins σ H s->RelV o ov->RelV i iv->RelV v u->t o i v H Q->
  wpAny (model X.prog X.w) X.A (setItem ov iv u) (λ_ s'=>∃H',Inv X pins σ H' s'/\Q H') X.xe s
abbrev xx:=V->V->Hp->VK->Prop
def O5(X:Cx)(op:Operator)(t:xx):Prop:=
 ∀(pins:List (ac×Obj))(s:ap)(σ:St)(H:Hp)(x y:V)(v u:al)(Q:VK),Inv X pins σ H s->RelV x v->RelV y u->t x y H Q->
  wpAny (model X.prog X.w) X.A (inplaceOp op v u) (EP X pins σ Q) X.xe s
section
variable{X:Cx}{pos:Pos}
def eV(i:Nat):TG:=λv σ H Q=>Q (σ.set i (some v)) H
theorem ML{i:Nat}{x:Str}(hN:X.N.Nodup)(hi:X.N[i]? =some x)(hx:Loc X.env.scope x)(hf:X.fn x=true\/X.env.scope.names.lookup x=some .local:=by first|exact .inl rfl|exact .inr rfl|assumption):PG X (.Name x pos) (eV i):=by
 intro pins s σ H v u Q I r h
 exact wpAny_assign_Name (C4 I hN hi hx r (λs' I'=>⟨_,H,I',h⟩) hf)
def EW:j4:=λvs σ H Q=>vs=[]/\Q σ H
def oJ(t:TG)(u:j4):j4:=λvs σ H Q=>∃v r,vs=v::r/\t v σ H λσ' H'=>u r σ' H' Q
theorem aG:r0 X [] EW:=by
 intro pins s σ H vs us Q I r h
 obtain⟨e,h⟩:=h
 subst e
 cases r
 exact assignInOrder_nil ⟨σ,H,I,h⟩
theorem Da{e:lv}{es:List lv}{t:TG}{u:j4}(h1:PG X e t)(h2:r0 X es u)
 (hs:(assignEach (e::es) X.env).map (·.2)=assign e X.env::(assignEach es X.env).map (·.2):=by rfl):r0 X (e::es) (oJ t u):=by
 intro pins s σ H vs us Q I r h
 obtain⟨v,vr,e1,h⟩:=h
 subst e1
 cases r with
 |cons r rr=>
  rw[hs]
  refine assignInOrder_cons (rs (h1 pins s σ H _ _ _ I r h) λ_ s1⟨σ1,H1,I1,q1⟩=> ?_)
  exact h2 pins s1 σ1 H1 _ _ Q I1 rr q1
def xk(K:ge)(n:Nat)(t:j4):TG:=λv σ H Q=>∃a xs,v=.ref a/\P3 K H a xs/\xs.length=n/\t xs σ H Q
theorem abJ{es:List lv}{k:Nat}{t:j4}{n:Nat}(hc:X.calm=true)(h:r0 X es t)
 (hn:(assignEach es X.env).length=n:=by rfl)(ay:(assignEach es X.env).findIdx? (·.1)=none:=by rfl):PG X (.Tuple es k pos) (xk X.K n t):=by
 intro pins s σ H v u Q I r hw
 obtain⟨a,xs,e1,hq,hl,hw⟩:=hw
 subst e1
 cases r
 obtain⟨ci,rv,ht,hz⟩:=I.tuple hq
 refine assign_Tuple_tuple (I.ok.hd hc) ht (by simp[hn,<-hl,rv.length]) ay λh' hx=> ?_
 have I1:Inv X pins σ H {s with heap:=h'}:=I.kept (t':=s.toks) λb o e=>hx b o (Ps (FB e)) e
 exact h pins _ σ H xs _ Q I1 (by simpa using rv) hw
def Ou(to ti:TE)(t:EO):TG:=λv σ H Q=>to σ H λo H1=>ti σ H1 λi H2=>t o i v H2 λH3=>Q σ H3
theorem abI{o i:lv}{to ti:TE}{t:EO}(ho:PE X o to)(hi:PE X i ti)(hs:Oo X t)
 (ha:∀v,assign (.Subscript o i pos) X.env v=(do
   let ov <-holding [v] (eval o X.env)
   let iv <-holding [v,ov] (eval i X.env)
   standAt pos
   holding [v,ov,iv] (setItem ov iv v)
   release [v,ov,iv] []):=by intro _;rfl):PG X (.Subscript o i pos) (Ou to ti t):=by
 intro pins s σ H v u Q I r h
 rw[ha]
 refine bd (b_ (rs (ho pins s σ H _ I h) λov s1⟨x,H1,I1,r1,q1⟩=> ?_))
 refine bd (b_ (rs (hi pins s1 σ H1 _ I1 q1) λiv s2⟨y,H2,I2,r2,q2⟩=> ?_))
 refine bd (Mc (bd (b_ (rs (hs pins s2 σ H2 x y v ov iv u _ I2 r1 r2 r q2) λ_ s3⟨H3,I3,q3⟩=> ?_))))
 exact wpAny_release ⟨σ,H3,I3,q3⟩
def rX(te:TE)(g:TG):TS:=λD σ H=>te σ H λx H1=>g x σ H1 D.nx
theorem abL{tg e:lv}{te:TE}{g:TG}(he:PE X e te)(hg:PG X tg g)(hs:swapsWithSole [tg] e pos.line X.env=pure false:=by rfl)(hw:swappedStores [tg] e X.env=pure none:=by rfl)
 (h1:(assignEach [tg] X.env).map (·.2)=[assign tg X.env]:=by rfl):PS X (.Assign [tg] e pos) (rX te g):=by
 intro pins s σ H D I h
 refine wpAny_Assign_stores (rs (he pins s σ H _ I h) λv s1⟨x,H1,I1,r1,q1⟩=> ?_) hs hw
 rw[h1]
 exact rs (hg pins s1 σ H1 x v _ I1 r1 q1) λ_ s2 q=>q
theorem abO{i:Nat}{x:Str}{e:lv}{te:TE}{pos':Pos}(hN:X.N.Nodup)(hi:X.N[i]? =some x)(hx:Loc X.env.scope x)(he:PE X e te)(hs:swapsWith e (some (.Name x pos')) pos.line X.env=pure false:=by rfl)(hf:X.fn x=true\/X.env.scope.names.lookup x=some .local:=by first|exact .inl rfl|exact .inr rfl|assumption):
 PS X (.Assign [.Name x pos'] e pos) (rX te (eV i)):=by
 intro pins s σ H D I h
 refine wpAny_Assign_Name (rs (he pins s σ H _ I h) λv s1⟨y,H1,I1,r1,q1⟩=> ?_) hs
 exact C4 I1 hN hi hx r1 (λs2 I2=>⟨_,H1,I2,q1⟩) hf
def OU(i:Nat)(te:TE)(ti:xx):TS:=λD σ H=>∃x,σ[i]? =some (some x)/\te σ H λy H1=>ti x y H1 λz H2=>D.nx (σ.set i (some z)) H2
theorem abM{i:Nat}{x:Str}{e:lv}{te:TE}{op:Operator}{ti:xx}{pos':Pos}(hN:X.N.Nodup)(hi:X.N[i]? =some x)(hx:Loc X.env.scope x)(he:PE X e te)(ho:O5 X op ti)(hf:X.fn x=true\/X.env.scope.names.lookup x=some .local:=by first|exact .inl rfl|exact .inr rfl|assumption):
 PS X (.AugAssign (.Name x pos') op e pos) (OU i te ti):=by
 intro pins s σ H D I h
 obtain⟨v,e1,h⟩:=h
 obtain⟨m,hn,hl⟩:=I.loc
 have vis:pf X.env.scope x:=by rcases hx with k|k;exact .inl k;exact .inr (.inl k)
 obtain⟨u,r,l⟩:=hl i x v hi e1 vis
 refine wpAny_AugAssign_Name ?_
 have go:wpAny (model X.prog X.w) X.A (eval e X.env) (λw s₂=>wpAny (model X.prog X.w) X.A (inplaceOp op u w) (λr s₃=>wpAny (model X.prog X.w) X.A (storeName X.env x r) (λ_=>SP X pins D .next) X.xe s₃) X.xe s₂) X.xe s:=by
  refine rs (he pins s σ H _ I h) λw s1⟨y,H1,I1,r1,q1⟩=> ?_
  refine rs (ho pins s1 σ H1 v y u w _ I1 r r1 q1) λz s2⟨zv,H2,I2,r2,q2⟩=> ?_
  exact C4 I2 hN hi hx r2 (λs3 I3=>⟨_,H2,I3,q2⟩) hf
 rcases l with⟨hk,hm⟩|⟨hk,c,hc,w4⟩
 .exact wpAny_loadName_local I.ok.kind hk hn hm go
 .rcases hk with hk|hk
  .exact wpAny_loadName_cell I.ok.kind hk hc w4 go
  .rcases hx with k|k
   .have:X.env.scope.names.lookup x=some .free:=hk
    rw[k]at this;cases this
   .have:X.env.scope.names.lookup x=some .free:=hk
    rw[k]at this;cases this
def PX(f:Int->Int->Int):xx:=λx y H Q=>∃i j,x=.int i/\y=.int j/\Q (.int (f i j)) H
theorem abl:O5 X .Add (PX λi j=>i+j):=by
 intro pins s σ H x y v u Q I r1 r2 h
 obtain⟨i,j,e1,e2,q⟩:=h
 subst e1;subst e2
 obtain⟨t,rfl⟩:=r1
 obtain⟨t',rfl⟩:=r2
 exact iadd_int ⟨.int _,H,I.tok _,⟨_,rfl⟩,q⟩
end
section
variable{X:Cx}{pos:Pos}
def ab6(c:TT)(tb:TS):TS:=λD σ H=>∃W:Nat->St->Hp->Prop,(∃m,W m σ H)/\∀m σ H,W m σ H->
 c σ H λb H1=>if b=true then ∃N:St->Hp->Prop,(∀σ' H',N σ' H'->∃m',m'<m/\W m' σ' H')/\tb {D with nx:=N,ct:=N,bk:=D.nx} σ H1 else D.nx σ H1
theorem vY{c:lv}{body:List nl}{tc:TT}{tb:TS}(hp:PassesOwn (model X.prog X.w) X.A X.env X.xe)(hc:PT X c tc)(hb:eF X body tb):PS X (.While c body [] pos) (ab6 tc tb):=by
 intro pins s σ H D I h
 obtain⟨W,⟨m0,w0⟩,turn⟩:=h
 refine wpAny_While (codeAny_whileLoop (λn s'=>∃σ' H',Inv X pins σ' H' s'/\W n σ' H') ?_ m0 ⟨σ,H,I,w0⟩)
 rintro n s1 ⟨σ1,H1,I1,w1⟩
 refine m7 hp (rs (hc pins s1 σ1 H1 _ I1 (turn n σ1 H1 w1)) λb s2⟨H2,I2,q2⟩=> ?_)
 cases b with
 |true=>
  obtain⟨N,hN,q2⟩:=q2
  rw[if_pos rfl]
  refine m7 hp (rs (hb pins s2 σ1 H2 _ I2 q2) λf s3 q3=> ?_)
  cases f with
  |next=>
   obtain⟨σ3,H3,I3,n3⟩:=q3
   obtain⟨m',hm,w3⟩:=hN σ3 H3 n3
   exact⟨m',hm,σ3,H3,I3,w3⟩
  |cont=>
   obtain⟨σ3,H3,I3,n3⟩:=q3
   obtain⟨m',hm,w3⟩:=hN σ3 H3 n3
   exact⟨m',hm,σ3,H3,I3,w3⟩
  |brk=>exact q3
  |ret v=>exact q3
 |false=>
  rw[if_neg bI]
  exact Ba ⟨σ1,H2,I2,q2⟩
end
structure It where
 go:Nat->Hp->Prop
 bZ:Nat->Hp->V->Hp->Prop
 stop:Nat->Hp->Prop
def gk(X:Cx)(pins:List (ac×Obj))(H:Hp)(b:ac):Prop:=
 H b=none/\b≠X.env.locals/\b∉X.fs/\(b∈X.ex\/X.bY.heap.objs.size<=b)/\(∀x c,X.env.cells.lookup x=some c->c≠b)/\∀p∈X.pn++pins,p.1≠b
theorem Inv.oW{X:Cx}{pins:List (ac×Obj)}{σ:St}{H H':Hp}{s:ap}{b:ac}(I:Inv X pins σ H s)(hb:s.heap.objs.size<=b)(hn:H' b=none):gk X pins H' b:=by
 refine⟨hn,nA (b7 I.lt hb),I.adq hb,.inr (Ch I.sz hb),λx c e z=> ?_,λp hp z=> ?_⟩
 .obtain⟨v,q⟩:=I.cell x c e
  exact absurd (b7 q.lt (by rw[z];exact hb)) (f9 _)
 .exact absurd (b7 (FB (I.pin p hp).1) (by rw[z];exact hb)) (f9 _)
structure Turn (P:lw) (w:li) (K:ge) (tg:lv) (J:It) (fp:List ac) (it:ac) (tn:Nat->io->Prop):Prop where
 mem:it∈fp
 obj:∀i h,tn i h->∀b∈fp,∃o,h.get? b=some o/\∀v,o.data≠.cell v
 keep:∀i h h',tn i h->(∀b∈fp,∀o,h.get? b=some o->h'.get? b=some o)->tn i h'
 item:∀(X:Cx),X.prog=P->X.w=w->X.K=K->X.calm=true->∀(i:Nat)(pins:List (ac×Obj))(s:ap)(σ:St)(H:Hp)(E:al->ap->Prop),Inv X pins σ H s->(∀b∈fp,gk X pins H b)->tn i s.heap->J.go i H->
  wpAny (model P w) X.A (pyNext (.ref it)) (λr s1=>∃u,r=some u/\
   wpAny (model P w) X.A (letOwnedTupleGo tg (.ref it) u) (λ_ s2=>∃x H',Inv X pins σ H' s2/\RelV x u/\J.bZ i H x H'/\tn (i+1) s2.heap/\∀b∈fp,H' b=none) E s1) E s
 done:∀(X:Cx),X.prog=P->X.w=w->X.K=K->X.calm=true->∀(i:Nat)(pins:List (ac×Obj))(s:ap)(σ:St)(H:Hp)(E:al->ap->Prop),Inv X pins σ H s->(∀b∈fp,gk X pins H b)->tn i s.heap->J.stop i H->
  wpAny (model P w) X.A (pyNext (.ref it)) (λr s1=>r=none/\Inv X pins σ H s1) E s
 self:∀(A:ww)(i:Nat)(s:ap)(Q:al->ap->Prop)(E:al->ap->Prop),tn i s.heap->Q (.ref it) s->wpAny (model P w) A (pyIter (.ref it)) Q E s
abbrev TI:=St->Hp->(It->Hp->Prop)->Prop
def Ft(X:Cx)(pins:List (ac×Obj))(σ:St)(tg:lv)(R:It->Hp->Prop)(FV:al)(s2:ap):Prop:=
 ∃(it:ac)(fp:List ac)(tn:Nat->io->Prop)(J:It)(H':Hp),FV=.ref it/\Inv X pins σ H' s2/\Turn X.prog X.w X.K tg J fp it tn/\tn 0 s2.heap/\(∀b∈fp,gk X pins H' b)/\R J H'
def PI(X:Cx)(tg iter:lv)(wi:TI):Prop:=
 ∀(pins:List (ac×Obj))(s:ap)(σ:St)(H:Hp)(R:It->Hp->Prop),Inv X pins σ H s->wi σ H R->
  wpAny (model X.prog X.w) X.A (eval iter X.env) (λv s1=>wpAny (model X.prog X.w) X.A (pyIter v) (Ft X pins σ tg R) X.xe s1) X.xe s
theorem rq{M:Model}{A:ww}{E:al->ap->Prop}{s:ap}{tg:lv}{it:ac}{u:al}{o:Obj}{n:String}{vs:Array al}{Q:Unit->ap->Prop}(ho:s.heap.get? it=some o)(hc:o.cls=.type n)(hd:o.data=.fields vs)
 (hn:["enumerate","zip","dict_itemiterator","dict_reverseitemiterator","odict_iterator","itertools.zip_longest","itertools.pairwise"].contains n=false)(hQ:Q () s):wpAny M A (letOwnedTupleGo tg (.ref it) u) Q E s:=by
 unfold letOwnedTupleGo
 cases tg<;>first
  |exact eg hQ
  |(cases u<;>first
     |exact eg hQ
     |(refine bd (wpAny_load ho ?_)
       rw[hc,hd]
       show wpAny M A (if(["enumerate","zip","dict_itemiterator","dict_reverseitemiterator","odict_iterator","itertools.zip_longest","itertools.pairwise"].contains n&&vs[0]? ==some (rawInt _))=true then _ else _) Q E s
       rw[if_neg (by intro h;rw[hn,Ka]at h;cases h)]
       exact eg hQ))
noncomputable def a9(K:ge)(a:ac):It:=
 ⟨λi H=>∃xs x,aa K H a xs/\xs[i]? =some x,λi H x H'=>H'=H/\∀xs,aa K H a xs->xs[i]? =some x,λi H=>∃xs,aa K H a xs/\xs.length<=i⟩
noncomputable def pb(K:ge)(a:ac):It:=
 ⟨λi H=>∃xs x,P3 K H a xs/\xs[i]? =some x,λi H x H'=>H'=H/\∀xs,P3 K H a xs->xs[i]? =some x,λi H=>∃xs,P3 K H a xs/\xs.length<=i⟩
noncomputable def jf(lo:Int)(n:Nat):It:=⟨λi _=>i<n,λi H x H'=>H'=H/\x=.int (lo+i),λi _=>n<=i⟩
theorem X9{P:lw}{w:li}{K:ge}{tg:lv}(a it:ac):Turn P w K tg (a9 K a) [it] it (λi h=>h.IsListIter it a i) where
 mem:=by simp
 obj:=λi h st b hb=>by
  have e:b=it:=by simpa using hb
  subst e
  obtain⟨o,e,c,d⟩:=st
  exact⟨o,e,λv z=>by rw[d]at z;cases z⟩
 keep:=λi h h' st k=>st.at λo e=>k it (by simp) o e
 item:=by
  intro X hP hw hK hc i pins s σ H E I hf st hg
  subst hP hw hK
  obtain⟨xs,x,hq,hx⟩:=hg
  obtain⟨ci,rv,p,hz⟩:=I.list hq
  obtain⟨u,hu,ru⟩:=rv.get hx
  obtain⟨f0,f1,f2,f3,f4,f5⟩:=hf it (by simp)
  refine wpAny_pyNext_list_item st p.isList (x:=u) (by simpa using hu) λh' st' sb=> ?_
  have I1:Inv X pins σ H {s with heap:=h'}:=I.turned (t':=s.toks) (λb o hb e=>(sb.2 b hb).trans e) f0 f1 f3 f4 f5
  obtain⟨o,e,c,d⟩:=id st'
  exact⟨u,rfl,rq (s:={s with heap:=h'}) e c d (by decide) ⟨x,H,I1,ru,⟨rfl,λys hy=>by rw[I.CJ hy hq];exact hx⟩,st',λb hb=>(hf b hb).1⟩⟩
 done:=by
  intro X hP hw hK hc i pins s σ H E I hf st hg
  subst hP hw hK
  obtain⟨xs,hq,hx⟩:=hg
  obtain⟨ci,rv,p,hz⟩:=I.list hq
  obtain⟨f0,f1,f2,f3,f4,f5⟩:=hf it (by simp)
  have hl:=rv.length
  exact wpAny_pyNext_list_end (I.ok.hd hc) st p.isList (by simp;lia) λh' eb=>⟨rfl,I.turned (t':=s.toks) (λb o hb e=>eb b o hb e) f0 f1 f3 f4 f5⟩
 self:=λ_ _ _ _ _ st h=>wpAny_pyIter_listiter st h
theorem WI{P:lw}{w:li}{K:ge}{tg:lv}(a it:ac):Turn P w K tg (pb K a) [it] it (λi h=>h.IsTupleIter it a i) where
 mem:=by simp
 obj:=λi h st b hb=>by
  have e:b=it:=by simpa using hb
  subst e
  obtain⟨o,e,c,d⟩:=st
  exact⟨o,e,λv z=>by rw[d]at z;cases z⟩
 keep:=λi h h' st k=>st.at λo e=>k it (by simp) o e
 item:=by
  intro X hP hw hK hc i pins s σ H E I hf st hg
  subst hP hw hK
  obtain⟨xs,x,hq,hx⟩:=hg
  obtain⟨ci,rv,p,hz⟩:=I.tuple hq
  obtain⟨u,hu,ru⟩:=rv.get hx
  obtain⟨f0,f1,f2,f3,f4,f5⟩:=hf it (by simp)
  refine wpAny_pyNext_tuple_item st (show s.heap.IsTuple a ci.toArray from p) (x:=u) (by simpa using hu) λh' st' sb=> ?_
  have I1:Inv X pins σ H {s with heap:=h'}:=I.turned (t':=s.toks) (λb o hb e=>(sb.2 b hb).trans e) f0 f1 f3 f4 f5
  obtain⟨o,e,c,d⟩:=id st'
  exact⟨u,rfl,rq (s:={s with heap:=h'}) e c d (by decide) ⟨x,H,I1,ru,⟨rfl,λys hy=>by rw[I.X7 hy hq];exact hx⟩,st',λb hb=>(hf b hb).1⟩⟩
 done:=by
  intro X hP hw hK hc i pins s σ H E I hf st hg
  subst hP hw hK
  obtain⟨xs,hq,hx⟩:=hg
  obtain⟨ci,rv,p,hz⟩:=I.tuple hq
  obtain⟨f0,f1,f2,f3,f4,f5⟩:=hf it (by simp)
  have hl:=rv.length
  exact wpAny_pyNext_tuple_end (I.ok.hd hc) st (show s.heap.IsTuple a ci.toArray from p) (by simp;lia) λh' eb=>⟨rfl,I.turned (t':=s.toks) (λb o hb e=>eb b o hb e) f0 f1 f3 f4 f5⟩
 self:=λ_ _ _ _ _ st h=>wpAny_pyIter_tupleiter st h
theorem WH{P:lw}{w:li}{K:ge}{tg:lv}(it:ac)(lo:Int)(n:Nat):Turn P w K tg (jf lo n) [it] it (λi h=>Dc h it (lo+(i:Nat)*1) ((n:Int)-(i:Nat)) 1) where
 mem:=by simp
 obj:=λi h st b hb=>by
  have e:b=it:=by simpa using hb
  subst e
  exact⟨_,st,λv z=>by
   have z':Data.fields _=Data.cell v:=z
   cases z'⟩
 keep:=λi h h' st k=>k it (by simp) _ st
 item:=by
  intro X hP hw hK hc i pins s σ H E I hf st hg
  subst hP hw hK
  obtain⟨f0,f1,f2,f3,f4,f5⟩:=hf it (by simp)
  have W:=Walks.range (prog:=X.prog) (w:=X.w) (I.ok.hd hc) it lo 1 n
  refine W.item i s _ _ hg st λv h' tk hv st' kk=> ?_
  obtain⟨t,rfl⟩:=hv
  have I1:Inv X pins σ H {s with heap:=h',toks:=tk}:=I.turned (λb o hb e=>kk b o (by simpa using hb) e) f0 f1 f3 f4 f5
  refine⟨_,rfl,rq (s:={s with heap:=h',toks:=tk}) (n:="range_iterator") st' rfl rfl (by decide) ⟨.int (lo+i),H,I1,⟨t,?_⟩,⟨rfl,rfl⟩,st',λb hb=>(hf b hb).1⟩⟩
  rw[Int.mul_one]
 done:=by
  intro X hP hw hK hc i pins s σ H E I hf st hg
  subst hP hw hK
  obtain⟨f0,f1,f2,f3,f4,f5⟩:=hf it (by simp)
  exact Yp (I.ok.hd hc) st (by have:n<=i:=hg;lia) λh' eb=>⟨rfl,I.turned (t':=s.toks) (λb o hb e=>eb b o hb e) f0 f1 f3 f4 f5⟩
 self:=λ_ _ _ _ _ st h=>Yo st h
end L2
namespace L2
open PySem PySem.Spec PyProof.Rows
section
variable{X:Cx}{tg:lv}
def EA(K:ge)(tl:TE):TI:=λσ H R=>tl σ H λx H1=>∃a,x=.ref a/\(∃xs,aa K H1 a xs)/\R (a9 K a) H1
def E9(K:ge)(tl:TE):TI:=λσ H R=>tl σ H λx H1=>∃a,x=.ref a/\(∃xs,P3 K H1 a xs)/\R (pb K a) H1
theorem aaC{l:lv}{tl:TE}(hl:PE X l tl):PI X tg l (EA X.K tl):=by
 intro pins s σ H R I h
 refine rs (hl pins s σ H _ I h) λv s1⟨x,H1,I1,r1,q1⟩=> ?_
 obtain⟨a,e,⟨xs,hq⟩,q⟩:=q1
 subst e
 cases r1
 obtain⟨ci,rv,p,hz⟩:=I1.list hq
 refine An p.isList ?_
 refine⟨s1.heap.objs.size,[s1.heap.objs.size],_,_,H1,rfl,I1.kept (t':=s1.toks) λb o e=>P5 _ e,X9 a _,⟨_,Tl _ rfl,rfl,rfl⟩,λb hb=> ?_,q⟩
 have e:b=s1.heap.objs.size:=by simpa using hb
 subst e
 exact I1.oW (nn _) (I1.ab.fresh (nn _))
theorem abK{l:lv}{tl:TE}(hl:PE X l tl):PI X tg l (E9 X.K tl):=by
 intro pins s σ H R I h
 refine rs (hl pins s σ H _ I h) λv s1⟨x,H1,I1,r1,q1⟩=> ?_
 obtain⟨a,e,⟨xs,hq⟩,q⟩:=q1
 subst e
 cases r1
 obtain⟨ci,rv,p,hz⟩:=I1.tuple hq
 refine wpAny_pyIter_tuple (show s1.heap.IsTuple a ci.toArray from p) ?_
 refine⟨s1.heap.objs.size,[s1.heap.objs.size],_,_,H1,rfl,I1.kept (t':=s1.toks) λb o e=>P5 _ e,WI a _,⟨_,Tl _ rfl,rfl,rfl⟩,λb hb=> ?_,q⟩
 have e:b=s1.heap.objs.size:=by simpa using hb
 subst e
 exact I1.oW (nn _) (I1.ab.fresh (nn _))
theorem LP{pins:List (ac×Obj)}{σ:St}{H:Hp}{s:ap}{R:It->Hp->Prop}{E:al->ap->Prop}{lo hi:Int}{t u v:Tok}{tk:Nat}(I:Inv X pins σ H s)(h1: -(2 ^ 62)<=lo)(h2:lo<2 ^ 62)(h3: -(2 ^ 62)<=hi)(h4:hi<2 ^ 62)
 (q:R (jf lo (hi-lo).toNat) H):wpAny (model X.prog X.w) X.A (pyIter (.ref s.heap.objs.size)) (Ft X pins σ tg R) E {s with heap:=s.heap.push {cls:=.type "range",data:=.fields #[.int lo t,.int hi u,.int 1 v]},toks:=tk}:=by
 refine wpAny_pyIter_range (IsRange.new ..) (small_one h1 h2 h3 h4) ?_
 have I1:Inv X pins σ H {s with heap:=s.heap.push {cls:=.type "range",data:=.fields #[.int lo t,.int hi u,.int 1 v]},toks:=tk}:=I.kept λb o e=>P5 _ e
 refine⟨(s.heap.push {cls:=.type "range",data:=.fields #[.int lo t,.int hi u,.int 1 v]}).objs.size,[(s.heap.push {cls:=.type "range",data:=.fields #[.int lo t,.int hi u,.int 1 v]}).objs.size],_,_,H,rfl,
  I1.kept (t':=tk) λb o e=>P5 _ e,WH _ lo (hi-lo).toNat,?_,λb hb=> ?_,q⟩
 .have e1:lo+((0:Nat):Int)*1=lo:=by simp
  have e2:(((hi-lo).toNat:Nat):Int)-((0:Nat):Int)=pK lo hi 1:=by rw[rangeSize_one];split<;>lia
  show Dc _ _ (lo+((0:Nat):Int)*1) ((((hi-lo).toNat:Nat):Int)-((0:Nat):Int)) 1
  rw[e1,e2]
  exact Tl _ rfl
 .have e:b=(s.heap.push {cls:=.type "range",data:=.fields #[.int lo t,.int hi u,.int 1 v]}).objs.size:=by simpa using hb
  subst e
  exact I1.oW (nn _) (I1.ab.fresh (nn _))
def NY(ta:TA):TI:=λσ H R=>ta σ H λvs H1=>∃j:Int,vs=[.int j]/\-(2 ^ 62)<=j/\j<2 ^ 62/\R (jf 0 j.toNat) H1
def NZ(ta:TA):TI:=λσ H R=>ta σ H λvs H1=>∃i j:Int,vs=[.int i,.int j]/\(-(2 ^ 62)<=i/\i<2 ^ 62/\-(2 ^ 62)<=j/\j<2 ^ 62)/\R (jf i (j-i).toNat) H1
theorem nQ{a:lv}{ta:TA}{p pos:Pos}(hg:Gl X "range")(hm:X.mg "range"=none)(ha:PA X [a] ta)(hs:starEach [a] X.env=[(false,eval a X.env)]:=by rfl):PI X tg (.Call (.Name "range" p) [a] [] pos) (NY ta):=by
 intro pins s σ H R I h
 refine Call_ (i7 I hg hm DV (mw (rs (ha pos pins s σ H _ I h) λus s1⟨vs,H1,I1,r1,q1⟩=> ?_) hs rfl))
 obtain⟨j,e,q1,q2,q⟩:=q1
 subst e
 cases r1 with
 |cons r rr=>
  cases rr
  obtain⟨t,rfl⟩:=r
  exact call_range_1 (LP I1 (by lia) (by lia) q1 q2 (by simpa using q))
theorem kX{a b:lv}{ta:TA}{p pos:Pos}(hg:Gl X "range")(hm:X.mg "range"=none)(ha:PA X [a,b] ta)(hs:starEach [a,b] X.env=[(false,eval a X.env),(false,eval b X.env)]:=by rfl)(hs2:starEach [b] X.env=[(false,eval b X.env)]:=by rfl):
 PI X tg (.Call (.Name "range" p) [a,b] [] pos) (NZ ta):=by
 intro pins s σ H R I h
 refine Call_ (i7 I hg hm DV (mw (rs (ha pos pins s σ H _ I h) λus s1⟨vs,H1,I1,r1,q1⟩=> ?_) (by rw[hs,hs2]) (by rw[hs2];rfl)))
 obtain⟨i,j,e,⟨q1,q2,q3,q4⟩,q⟩:=q1
 subst e
 cases r1 with
 |cons r rr=>
  cases rr with
  |cons r' rr=>
   cases rr
   obtain⟨t,rfl⟩:=r
   obtain⟨t',rfl⟩:=r'
   exact call_range_2 (LP I1 q1 q2 q3 q4 q)
def OX(wi:TI)(g:TG)(tb:TS):TS:=λD σ H=>wi σ H λJ H1=>∃W:Nat->Nat->St->Hp->Prop,(∃m,W 0 m σ H1)/\∀i m σ H,W i m σ H->
 (J.stop i H/\D.nx σ H)\/(J.go i H/\∃N:St->Hp->Prop,(∀σ' H',N σ' H'->∃m',m'<m/\W (i+1) m' σ' H')/\∀x H',J.bZ i H x H'->g x σ H' λσ2 H2=>tb {D with nx:=N,ct:=N,bk:=D.nx} σ2 H2)
noncomputable def rm(fp:List ac)(h:io):List (ac×Obj):=fp.filterMap λb=>(h.get? b).map λo=>(b,o)
theorem Bl{fp:List ac}{h:io}{b:ac}{o:Obj}(hb:b∈fp)(e:h.get? b=some o):(b,o)∈rm fp h:=HV.mpr ⟨b,hb,by rw[e];rfl⟩
theorem XM{fp:List ac}{h:io}{p:ac×Obj}(hp:p∈rm fp h):p.1∈fp/\h.get? p.1=some p.2:=by
 obtain⟨b,hb,e⟩:=HV.mp hp
 cases q:h.get? b with
 |none=>rw[q]at e;cases e
 |some o=>
  rw[q]at e
  have e':(b,o)=p:=TD e
  subst e'
  exact⟨hb,q⟩
theorem Inv.pinned{pins:List (ac×Obj)}{σ:St}{H:Hp}{s:ap}{fp:List ac}(I:Inv X pins σ H s)(hf:∀b∈fp,gk X pins H b)(ho:∀b∈fp,∃o,s.heap.get? b=some o/\∀v,o.data≠.cell v):Inv X (pins++rm fp s.heap) σ H s:=
 I.MO λp hp=>(NE.mp hp).elim (λz=>I.pin p (iD _ z)) λz=>by
  obtain⟨hb,e⟩:=XM z
  obtain⟨f0,f1,f2,_⟩:=hf p.1 hb
  obtain⟨o,e',d⟩:=ho p.1 hb
  rw[e]at e';cases e'
  exact⟨e,f0,f1,f2,d⟩
theorem Inv.vZ{pins pl:List (ac×Obj)}{σ:St}{H:Hp}{s:ap}(I:Inv X (pins++pl) σ H s):Inv X pins σ H s:=I.MO λp hp=>I.pin p (iD _ (pN _ hp))
theorem ck{iter:lv}{body:List nl}{wi:TI}{g:TG}{tb:TS}{pos:Pos}(hp:PassesOwn (model X.prog X.w) X.A X.env X.xe)(hc:X.calm=true)(hi:PI X tg iter wi)(hg:PG X tg g)(hb:eF X body tb)
 (hs:∀x,foldedSetIterable iter X.env x=pure x:=by intro _;rfl):PS X (.For tg iter body [] pos) (OX wi g tb):=by
 intro pins s σ H D I h
 refine wpAny_For (rs (hi pins s σ H _ I h) λv s1 h1=>rs h1 λFV s2 h2=> ?_) hs
 obtain⟨it,fp,tn,J,H2,e,I2,T,st2,f2,W,⟨m0,w0⟩,turn⟩:=h2
 subst e
 have lS:∀{H':Hp},(∀b∈fp,H' b=none)->∀b∈fp,gk X pins H' b:=λhn b hb=>⟨hn b hb,(f2 b hb).2⟩
 refine codeAny_forLoop_any (λn s'=>∃i σ' H',Inv X pins σ' H' s'/\tn i s'.heap/\(∀b∈fp,H' b=none)/\W i n σ' H') ?_ m0 ⟨0,σ,H2,I2,st2,λb hb=>(f2 b hb).1,w0⟩
 rintro n s3 ⟨i,σ3,H3,I3,st3,fr3,w3⟩
 rcases turn i n σ3 H3 w3 with⟨stop,qn⟩|⟨go,N,hN,step⟩
 .refine m7 hp (rs (T.done X rfl rfl rfl hc i pins s3 σ3 H3 X.xe I3 (lS fr3) st3 stop) λr s4⟨hr,I4⟩=> ?_)
  subst hr
  exact Ba ⟨σ3,H3,I4,qn⟩
 .refine m7 hp (rs (T.item X rfl rfl rfl hc i pins s3 σ3 H3 X.xe I3 (lS fr3) st3 go) λr s4⟨u,hr,h4⟩=> ?_)
  subst hr
  refine m7 hp (rs h4 λ_ s5⟨x,H5,I5,r5,y5,st5,fr5⟩=> ?_)
  have I5':=I5.pinned (lS fr5) (T.obj _ _ st5)
  refine m7 hp (rs (hg _ s5 σ3 H5 x u _ I5' r5 (step x H5 y5)) λ_ s6⟨σ6,H6,I6,q6⟩=> ?_)
  refine m7 hp (rs (hb _ s6 σ6 H6 _ I6 q6) λf s7 q7=> ?_)
  have again:∀{σ7:St}{H7:Hp},Inv X (pins++rm fp s5.heap) σ7 H7 s7->N σ7 H7->∃m,m<n/\∃i σ' H',Inv X pins σ' H' s7/\tn i s7.heap/\(∀b∈fp,H' b=none)/\W i m σ' H':=λ{σ7 H7}I7 n7=>by
   obtain⟨m',hm,w7⟩:=hN σ7 H7 n7
   refine⟨m',hm,i+1,σ7,H7,I7.vZ,T.keep _ _ _ st5 λb hb o e=>(I7.pin (b,o) (iD _ (iD _ (Bl hb e)))).1,λb hb=> ?_,w7⟩
   obtain⟨o,e,d⟩:=T.obj _ _ st5 b hb
   exact(I7.pin (b,o) (iD _ (iD _ (Bl hb e)))).2.1
  cases f with
  |next=>obtain⟨σ7,H7,I7,n7⟩:=q7;exact again I7 n7
  |cont=>obtain⟨σ7,H7,I7,n7⟩:=q7;exact again I7 n7
  |brk=>obtain⟨σ7,H7,I7,q7⟩:=q7;exact⟨σ7,H7,I7.vZ,q7⟩
  |ret v=>obtain⟨x7,σ7,H7,I7,r7,q7⟩:=q7;exact⟨x7,σ7,H7,I7.vZ,r7,q7⟩
end
theorem YI{K:ge}{a:ac}{xs:List V}{g:TG}{tb:TS}{D:Ends}{σ:St}{H:Hp}(Pv:Nat->St->Hp->Prop)(h0:Pv 0 σ H)(hl:∀i σ H,i<=xs.length->Pv i σ H->aa K H a xs)
 (hs:∀i x σ H,xs[i]? =some x->Pv i σ H->g x σ H λσ2 H2=>tb {D with nx:=Pv (i+1),ct:=Pv (i+1),bk:=D.nx} σ2 H2)(hd:∀σ H,Pv xs.length σ H->D.nx σ H):
 ∃W:Nat->Nat->St->Hp->Prop,(∃m,W 0 m σ H)/\∀i m σ H,W i m σ H->
  ((a9 K a).stop i H/\D.nx σ H)\/((a9 K a).go i H/\∃N:St->Hp->Prop,(∀σ' H',N σ' H'->∃m',m'<m/\W (i+1) m' σ' H')/\∀x H',(a9 K a).bZ i H x H'->g x σ H' λσ2 H2=>tb {D with nx:=N,ct:=N,bk:=D.nx} σ2 H2):=by
 refine⟨λi m σ H=>m=xs.length-i/\i<=xs.length/\Pv i σ H,⟨xs.length,by simp,SC _,h0⟩,?_⟩
 rintro i m σ H ⟨rfl,hi,p⟩
 have q:=hl i σ H hi p
 by_cases rc:i<xs.length
 .refine .inr ⟨⟨xs,xs[i],q,by simp[rc]⟩,Pv (i+1),λσ' H' p'=>⟨xs.length-(i+1),by lia,rfl,rc,p'⟩,λx H' y=> ?_⟩
  obtain⟨e,y⟩:=y
  subst e
  exact hs i x σ _ (y xs q) p
 .have e:i=xs.length:=by lia
  subst e
  exact .inl ⟨⟨xs,q,nn _⟩,hd σ H p⟩
theorem Z2{K:ge}{a:ac}{xs:List V}{g:TG}{tb:TS}{D:Ends}{σ:St}{H:Hp}(Pv:Nat->St->Hp->Prop)(h0:Pv 0 σ H)(hl:∀i σ H,i<=xs.length->Pv i σ H->P3 K H a xs)
 (hs:∀i x σ H,xs[i]? =some x->Pv i σ H->g x σ H λσ2 H2=>tb {D with nx:=Pv (i+1),ct:=Pv (i+1),bk:=D.nx} σ2 H2)(hd:∀σ H,Pv xs.length σ H->D.nx σ H):
 ∃W:Nat->Nat->St->Hp->Prop,(∃m,W 0 m σ H)/\∀i m σ H,W i m σ H->
  ((pb K a).stop i H/\D.nx σ H)\/((pb K a).go i H/\∃N:St->Hp->Prop,(∀σ' H',N σ' H'->∃m',m'<m/\W (i+1) m' σ' H')/\∀x H',(pb K a).bZ i H x H'->g x σ H' λσ2 H2=>tb {D with nx:=N,ct:=N,bk:=D.nx} σ2 H2):=by
 refine⟨λi m σ H=>m=xs.length-i/\i<=xs.length/\Pv i σ H,⟨xs.length,by simp,SC _,h0⟩,?_⟩
 rintro i m σ H ⟨rfl,hi,p⟩
 have q:=hl i σ H hi p
 by_cases rc:i<xs.length
 .refine .inr ⟨⟨xs,xs[i],q,by simp[rc]⟩,Pv (i+1),λσ' H' p'=>⟨xs.length-(i+1),by lia,rfl,rc,p'⟩,λx H' y=> ?_⟩
  obtain⟨e,y⟩:=y
  subst e
  exact hs i x σ _ (y xs q) p
 .have e:i=xs.length:=by lia
  subst e
  exact .inl ⟨⟨xs,q,nn _⟩,hd σ H p⟩
theorem Xm{lo:Int}{n:Nat}{g:TG}{tb:TS}{D:Ends}{σ:St}{H:Hp}(Pv:Nat->St->Hp->Prop)(h0:Pv 0 σ H)
 (hs:∀i σ H,i<n->Pv i σ H->g (.int (lo+i)) σ H λσ2 H2=>tb {D with nx:=Pv (i+1),ct:=Pv (i+1),bk:=D.nx} σ2 H2)(hd:∀σ H,Pv n σ H->D.nx σ H):
 ∃W:Nat->Nat->St->Hp->Prop,(∃m,W 0 m σ H)/\∀i m σ H,W i m σ H->
  ((jf lo n).stop i H/\D.nx σ H)\/((jf lo n).go i H/\∃N:St->Hp->Prop,(∀σ' H',N σ' H'->∃m',m'<m/\W (i+1) m' σ' H')/\∀x H',(jf lo n).bZ i H x H'->g x σ H' λσ2 H2=>tb {D with nx:=N,ct:=N,bk:=D.nx} σ2 H2):=by
 refine⟨λi m σ H=>m=n-i/\i<=n/\Pv i σ H,⟨n,by simp,SC _,h0⟩,?_⟩
 rintro i m σ H ⟨rfl,hi,p⟩
 by_cases rc:i<n
 .refine .inr ⟨rc,Pv (i+1),λσ' H' p'=>⟨n-(i+1),by lia,rfl,rc,p'⟩,λx H' y=> ?_⟩
  obtain⟨e,y⟩:=y
  subst e y
  exact hs i σ _ rc p
 .have e:i=n:=by lia
  subst e
  exact .inl ⟨nn _,hd σ H p⟩
end L2
namespace L2
open PySem PySem.Spec PyProof.Rows
abbrev R2:=V->V->Hp->VK->Prop
def aM(X:Cx)(f:al->al->Sem al)(r:R2):Prop:=
 ∀(pins:List (ac×Obj))(s:ap)(σ:St)(H:Hp)(x y:V)(v u:al)(Q:VK),Inv X pins σ H s->RelV x v->RelV y u->r x y H Q->
  wpAny (model X.prog X.w) X.A (f v u) (EP X pins σ Q) X.xe s
def Fv(X:Cx)(f:al->Sem al)(r:V->Hp->VK->Prop):Prop:=
 ∀(pins:List (ac×Obj))(s:ap)(σ:St)(H:Hp)(x:V)(v:al)(Q:VK),Inv X pins σ H s->RelV x v->r x H Q->
  wpAny (model X.prog X.w) X.A (f v) (EP X pins σ Q) X.xe s
def ak(X:Cx)(f:al)(r:List V->Hp->VK->Prop):Prop:=
 ∀(pins:List (ac×Obj))(s:ap)(σ:St)(H:Hp)(xs:List V)(us:List al)(Q:VK),Inv X pins σ H s->Vals xs us->r xs H Q->
  wpAny (model X.prog X.w) X.A (call f us) (EP X pins σ Q) X.xe s
def acY(X:Cx)(r:V->Hp->(Bool->Hp->Prop)->Prop):Prop:=
 ∀(pins:List (ac×Obj))(s:ap)(σ:St)(H:Hp)(x:V)(v:al)(Q:Bool->Hp->Prop),Inv X pins σ H s->RelV x v->r x H Q->
  wpAny (model X.prog X.w) X.A (truthy v) (TP X pins σ Q) X.xe s
def sP(r:R2)(ta tb:TE):TE:=λσ H Q=>ta σ H λx H1=>tb σ H1 λy H2=>r x y H2 Q
def Qg(r:V->Hp->VK->Prop)(ta:TE):TE:=λσ H Q=>ta σ H λx H1=>r x H1 Q
def rI(C:Int->Int->Prop)(g:Int->Int->V):R2:=λx y H Q=>∃i j,x=.int i/\y=.int j/\C i j/\Q (g i j) H
def jr(g:Int->Int->V):R2:=λx y H Q=>∃i j,x=.int i/\y=.int j/\Q (g i j) H
def rU(g:Int->V):V->Hp->VK->Prop:=λx H Q=>∃i,x=.int i/\Q (g i) H
section
variable{X:Cx}{a b c:lv}{ta tb tc:TE}{pos:Pos}
theorem ET(ha:PE X a ta)(hb:PE X b tb){pins:List (ac×Obj)}{s:ap}{σ:St}{H:Hp}{R:V->V->Hp->Prop}(I:Inv X pins σ H s)
 (h:ta σ H λx H1=>tb σ H1 λy H2=>R x y H2){Q:al->ap->Prop}{f:al->al->Sem al}
 (hf:∀v u s2 x y H2,Inv X pins σ H2 s2->RelV x v->RelV y u->R x y H2->wpAny (model X.prog X.w) X.A (f v u) Q X.xe s2):
 wpAny (model X.prog X.w) X.A (eval a X.env) (λv s₁=>wpAny (model X.prog X.w) X.A (eval b X.env) (λu s₂=>wpAny (model X.prog X.w) X.A (f v u) Q X.xe s₂) X.xe s₁) X.xe s:=by
 refine rs (ha pins s σ H _ I h) λv s1⟨x,H1,I1,r1,q1⟩=> ?_
 refine rs (hb pins s1 σ H1 _ I1 q1) λu s2⟨y,H2,I2,r2,q2⟩=> ?_
 exact hf v u s2 x y H2 I2 r1 r2 q2
theorem wp{op:Operator}{r:R2}(ho:aM X (binaryOp op) r)(ha:PE X a ta)(hb:PE X b tb):PE X (.BinOp a op b pos) (sP r ta tb):=by
 intro pins s σ H Q I h
 exact wpAny_BinOp (ET ha hb I h λv u s2 x y H2 I2 rx ry q=>ho pins s2 σ H2 x y v u Q I2 rx ry q)
theorem oP{op:UnaryOp}{r:V->Hp->VK->Prop}(ho:Fv X (unaryOp op) r)(ha:PE X a ta):PE X (.UnaryOp op a pos) (Qg r ta):=by
 intro pins s σ H Q I h
 exact UnaryOp_ (rs (ha pins s σ H _ I h) λv s1⟨x,H1,I1,r1,q1⟩=>ho pins s1 σ H1 x v Q I1 r1 q1)
theorem sJ{f:al->al->Sem al}{C:Int->Int->Prop}{g:Int->Int->Int}
 (rule:∀(i j:Int)(t u:Tok)(s:ap)(Q:al->ap->Prop)(E:al->ap->Prop),C i j->Q (.int (g i j) s.toks) {s with toks:=s.toks+1}->wpAny (model X.prog X.w) X.A (f (.int i t) (.int j u)) Q E s):
 aM X f (rI C λi j=>.int (g i j)):=by
 intro pins s σ H x y v u Q I rx ry h
 obtain⟨i,j,rfl,rfl,hc,q⟩:=h
 obtain⟨t,rfl⟩:=rx
 obtain⟨t',rfl⟩:=ry
 exact rule i j t t' s _ _ hc ⟨.int (g i j),H,I.tok _,⟨_,rfl⟩,q⟩
theorem Fc{f:al->al->Sem al}{g:Int->Int->Int}
 (rule:∀(i j:Int)(t u:Tok)(s:ap)(Q:al->ap->Prop)(E:al->ap->Prop),Q (.int (g i j) s.toks) {s with toks:=s.toks+1}->wpAny (model X.prog X.w) X.A (f (.int i t) (.int j u)) Q E s):
 aM X f (jr λi j=>.int (g i j)):=by
 intro pins s σ H x y v u Q I rx ry h
 obtain⟨i,j,rfl,rfl,q⟩:=h
 obtain⟨t,rfl⟩:=rx
 obtain⟨t',rfl⟩:=ry
 exact rule i j t t' s _ _ ⟨.int (g i j),H,I.tok _,⟨_,rfl⟩,q⟩
theorem Fb{f:al->al->Sem al}{g:Int->Int->Bool}
 (rule:∀(i j:Int)(t u:Tok)(s:ap)(Q:al->ap->Prop)(E:al->ap->Prop),Q (.bool (g i j)) s->wpAny (model X.prog X.w) X.A (f (.int i t) (.int j u)) Q E s):
 aM X f (jr λi j=>.bl (g i j)):=by
 intro pins s σ H x y v u Q I rx ry h
 obtain⟨i,j,rfl,rfl,q⟩:=h
 obtain⟨t,rfl⟩:=rx
 obtain⟨t',rfl⟩:=ry
 exact rule i j t t' s _ _ ⟨.bl (g i j),H,I,rfl,q⟩
def acV(i j:Int):Prop:=0<j/\j<1073741824
def acW(i j:Int):Prop:=0<=j/\j<=1000000/\i.natAbs<2 ^ 64
def EM(i j:Int):Prop:=(-(2 ^ 64)<i/\i<2 ^ 64)\/(-(2 ^ 64)<j/\j<2 ^ 64)
theorem EM.ok{i j:Int}(h:EM i j):IntMulOk i j:=by
 rcases h with⟨h1,h2⟩|⟨h1,h2⟩
 .exact .of_left (intBits_le_64 h1 h2)
 .exact .of_right (intBits_le_64 h1 h2)
theorem bz:aM X (binaryOp .Add) (jr λi j=>.int (i+j)):=Fc λ_ _ _ _ _ _ _ q=>add_int q
theorem cj:aM X (binaryOp .Sub) (jr λi j=>.int (i-j)):=Fc λ_ _ _ _ _ _ _ q=>sub_int q
theorem Ny:aM X (binaryOp .Mult) (rI EM λi j=>.int (i*j)):=sJ λ_ _ _ _ _ _ _ hc q=>mul_int q hc.ok
theorem ady:aM X (binaryOp .FloorDiv) (rI acV λi j=>.int (i / j)):=sJ λi j _ _ _ _ _ hc q=>by
 have h1:(0:Int)<j:=hc.1
 have h2:j<1073741824:=hc.2
 exact floordiv_int (by lia) (by rw[SM i (by lia)];exact q) (.inl (SR (by lia)))
theorem rl:aM X (binaryOp .Mod) (rI (λ_ j=>0<j) λi j=>.int (i % j)):=sJ λi j _ _ _ _ _ hc q=>by
 have h1:(0:Int)<j:=hc
 exact mod_int' (by lia) (by rw[Int.fmod_eq_emod_of_nonneg i (by lia)];exact q)
theorem lu:aM X (binaryOp .LShift) (rI acW λi j=>.int (i*2 ^ j.toNat)):=sJ λ_ _ _ _ _ _ _ hc q=>lshift_int_small hc.1 hc.2.1 hc.2.2 q
theorem wQ:aM X (binaryOp .BitAnd) (jr λi j=>.int (Ap i j)):=Fc λ_ _ _ _ _ _ _ q=>and_int q
theorem unI{f:al->Sem al}{g:Int->Int}
 (rule:∀(i:Int)(t:Tok)(s:ap)(Q:al->ap->Prop)(E:al->ap->Prop),Q (.int (g i) s.toks) {s with toks:=s.toks+1}->wpAny (model X.prog X.w) X.A (f (.int i t)) Q E s):
 Fv X f (rU λi=>.int (g i)):=by
 intro pins s σ H x v Q I rx h
 obtain⟨i,rfl,q⟩:=h
 obtain⟨t,rfl⟩:=rx
 exact rule i t s _ _ ⟨.int (g i),H,I.tok _,⟨_,rfl⟩,q⟩
theorem oy:Fv X (unaryOp .USub) (rU λi=>.int (-i)):=unI λ_ _ _ _ _ q=>neg_int q
end
noncomputable def OR:V->V->Bool
 |.ag,.ag=>true|.ag,.int _=>true|.int _,.ag=>true|.ag,.bl _=>true|.bl _,.ag=>true|.ag,.str _=>true|.str _,.ag=>true
 |.int _,.int _=>true|.bl _,.bl _=>true|.str _,.str _=>true|.bV _,.bV _=>true
 |.int _,.str _=>true|.str _,.int _=>true|.bl _,.str _=>true|.str _,.bl _=>true
 |_,_=>false
def rEq:R2:=λx y H Q=>OR x y=true/\Q (.bl (decide (x=y))) H
def rNe:R2:=λx y H Q=>OR x y=true/\Q (.bl (!decide (x=y))) H
theorem Mo{i j:Int}:decide (V.int i=V.int j)=(i==j):=by
 rw[kF]
 simp
theorem Ng{i j:Bool}:decide (V.bl i=V.bl j)=(i==j):=by
 rw[kF]
 simp
theorem Mp{i j:Str}:decide (V.str i=V.str j)=(i==j):=by
 rw[kF]
 simp
theorem Mn{i j:Array UInt8}:decide (V.bV i=V.bV j)=(i.toList==j.toList):=by
 rw[kF]
 cases i
 cases j
 simp
section
variable{X:Cx}{a b c:lv}{ta tb tc:TE}{pos:Pos}
theorem az{pins:List (ac×Obj)}{σ:St}{H:Hp}{s:ap}{Q:VK}{k k':Bool}(I:Inv X pins σ H s)(q:Q (.bl k) H)(e:k=k'):EP X pins σ Q (.bool k') s:=by
 subst e
 exact⟨.bl k,H,I,rfl,q⟩
theorem h_:aM X (compareOp .Eq) rEq:=by
 intro pins s σ H x y v u Q I rx ry h
 obtain⟨hs,q⟩:=h
 cases x with
 |ag=>
  cases rx
  cases y with
  |ag=>cases ry;exact PySem.EqNone.eq_none_none (az I q (by simp))
  |bl j=>cases ry;exact PySem.EqNone.eq_none_bool (az I q (by simp))
  |int j=>obtain⟨t',rfl⟩:=ry;exact PySem.EqNone.eq_none_int (az I q (by simp))
  |str j=>obtain⟨t',rfl⟩:=ry;exact PySem.EqNone.eq_none_str (az I q (by simp))
  |_=>exact absurd (show false=true from hs) bI
 |bl i=>
  cases rx
  cases y with
  |ag=>cases ry;exact PySem.EqNone.eq_bool_none (az I q (by simp))
  |bl j=>cases ry;exact eq_bool (az I q Ng)
  |str j=>obtain⟨t',rfl⟩:=ry;exact PySem.EqMixed.eq_bool_str (az I q (by simp))
  |_=>exact absurd (show false=true from hs) bI
 |int i=>
  obtain⟨t,rfl⟩:=rx
  cases y with
  |ag=>cases ry;exact PySem.EqNone.eq_int_none (az I q (by simp))
  |int j=>obtain⟨t',rfl⟩:=ry;exact eq_int (az I q Mo)
  |str j=>obtain⟨t',rfl⟩:=ry;exact PySem.EqMixed.eq_int_str (az I q (by simp))
  |_=>exact absurd (show false=true from hs) bI
 |str i=>
  obtain⟨t,rfl⟩:=rx
  cases y with
  |ag=>cases ry;exact PySem.EqNone.eq_str_none (az I q (by simp))
  |bl j=>cases ry;exact PySem.EqMixed.eq_str_bool (az I q (by simp))
  |int j=>obtain⟨t',rfl⟩:=ry;exact PySem.EqMixed.eq_str_int (az I q (by simp))
  |str j=>obtain⟨t',rfl⟩:=ry;exact eq_str (az I q Mp)
  |_=>exact absurd (show false=true from hs) bI
 |bV i=>
  obtain⟨t,rfl⟩:=rx
  cases y with
  |bV j=>obtain⟨t',rfl⟩:=ry;exact PySem.W.eq_bytes (az I q Mn)
  |_=>exact absurd (show false=true from hs) bI
 |_=>cases y<;>exact absurd (show false=true from hs) bI
theorem oO:aM X (compareOp .NotEq) rNe:=by
 intro pins s σ H x y v u Q I rx ry h
 obtain⟨hs,q⟩:=h
 cases x with
 |ag=>
  cases rx
  cases y with
  |ag=>cases ry;exact PySem.EqNone.ne_none_none (az I q (by simp))
  |bl j=>cases ry;exact PySem.EqNone.ne_none_bool (az I q (by simp))
  |int j=>obtain⟨t',rfl⟩:=ry;exact PySem.EqNone.ne_none_int (az I q (by simp))
  |str j=>obtain⟨t',rfl⟩:=ry;exact PySem.EqNone.ne_none_str (az I q (by simp))
  |_=>exact absurd (show false=true from hs) bI
 |bl i=>
  cases rx
  cases y with
  |ag=>cases ry;exact PySem.EqNone.ne_bool_none (az I q (by simp))
  |bl j=>cases ry;exact ne_bool (az I q (congrArg not Ng))
  |str j=>obtain⟨t',rfl⟩:=ry;exact PySem.EqMixed.ne_bool_str (az I q (by simp))
  |_=>exact absurd (show false=true from hs) bI
 |int i=>
  obtain⟨t,rfl⟩:=rx
  cases y with
  |ag=>cases ry;exact PySem.EqNone.ne_int_none (az I q (by simp))
  |int j=>obtain⟨t',rfl⟩:=ry;exact ne_int (az I q (congrArg not Mo))
  |str j=>obtain⟨t',rfl⟩:=ry;exact PySem.EqMixed.ne_int_str (az I q (by simp))
  |_=>exact absurd (show false=true from hs) bI
 |str i=>
  obtain⟨t,rfl⟩:=rx
  cases y with
  |ag=>cases ry;exact PySem.EqNone.ne_str_none (az I q (by simp))
  |bl j=>cases ry;exact PySem.EqMixed.ne_str_bool (az I q (by simp))
  |int j=>obtain⟨t',rfl⟩:=ry;exact PySem.EqMixed.ne_str_int (az I q (by simp))
  |str j=>obtain⟨t',rfl⟩:=ry;exact ne_str (az I q (congrArg not Mp))
  |_=>exact absurd (show false=true from hs) bI
 |bV i=>
  obtain⟨t,rfl⟩:=rx
  cases y with
  |bV j=>obtain⟨t',rfl⟩:=ry;exact PySem.W.ne_bytes (az I q (congrArg not Mn))
  |_=>exact absurd (show false=true from hs) bI
 |_=>cases y<;>exact absurd (show false=true from hs) bI
theorem rE:aM X (compareOp .Lt) (jr λi j=>.bl (decide (i<j))):=Fb λ_ _ _ _ _ _ _ q=>lt_int q
theorem jS:aM X (compareOp .LtE) (jr λi j=>.bl (decide (i<=j))):=Fb λ_ _ _ _ _ _ _ q=>le_int q
theorem acM:aM X (compareOp .GtE) (jr λi j=>.bl (decide (j<=i))):=Fb λ_ _ _ _ _ _ _ q=>ge_int q
theorem bx(b:lv){op:lV}(h:op≠.In:=by decide)(h2:op≠.NotIn:=by decide):behindInMarks op b=false:=by
 have e1:(op==CmpOp.In)=false:=by cases op<;>first|rfl|exact absurd rfl h
 have e2:(op==CmpOp.NotIn)=false:=by cases op<;>first|rfl|exact absurd rfl h2
 cases b<;>simp[behindInMarks,e1,e2]
theorem aaA{op:lV}{r:R2}(ho:aM X (compareOp op) r)(ha:PE X a ta)(hb:PE X b tb)(hm:behindInMarks op b=false):PE X (.Compare a [op] [b] pos) (sP r ta tb):=by
 intro pins s σ H Q I h
 exact wpAny_Compare1 (ET ha hb I h λv u s2 x y H2 I2 rx ry q=>ho pins s2 σ H2 x y v u Q I2 rx ry q) hm
def EH(t:TE):TT:=λσ H Q=>t σ H λx H'=>∃k,x=.bl k/\Q k H'
theorem bw{op:lV}{r:R2}(ho:aM X (compareOp op) r)(ha:PE X a ta)(hb:PE X b tb)(hm:behindInMarks op b=false):PT X (.Compare a [op] [b] pos) (EH (sP r ta tb)):=by
 intro pins s σ H Q I h
 refine wpAny_isTrue_Compare1 (rs (ha pins s σ H _ I h) λv s1⟨x,H1,I1,r1,q1⟩=>rs (hb pins s1 σ H1 _ I1 q1) λu s2⟨y,H2,I2,r2,q2⟩=>
  rs (ho pins s2 σ H2 x y v u _ I2 r1 r2 q2) λc s3⟨z,H3,I3,r3,k,e,q3⟩=> ?_) hm
 subst e
 cases r3
 exact iJ ⟨H3,I3,q3⟩
def Ei(r r':R2)(ta tb tc:TE):TE:=λσ H Q=>ta σ H λx H1=>tb σ H1 λy H2=>r x y H2 λz H3=>∃k,z=.bl k/\
 (if k=true then tc σ H3 λw' H4=>r' y w' H4 Q else Q (.bl false) H3)
theorem CP{op op':lV}{r r':R2}(ho:aM X (compareOp op) r)(ho':aM X (compareOp op') r')(ha:PE X a ta)(hb:PE X b tb)(hc:PE X c tc)
 (hm:lastMarks [op,op'] [b,c]=false:=by with_unfolding_all rfl):PE X (.Compare a [op,op'] [b,c] pos) (Ei r r' ta tb tc):=by
 intro pins s σ H Q I h
 refine Compare_chain (rs (ha pins s σ H _ I h) λv s1⟨x,H1,I1,r1,q1⟩=>chain_link (rs (hb pins s1 σ H1 _ I1 q1) λu s2⟨y,H2,I2,r2,q2⟩=>
  rs (ho pins s2 σ H2 x y v u _ I2 r1 r2 q2) λd s3⟨z,H3,I3,r3,k,e,q3⟩=> ?_)) hm
 subst e
 cases r3
 refine iJ ?_
 cases k with
 |false=>exact ite_ff ⟨.bl false,H3,I3,rfl,q3⟩
 |true=>exact ite_tt (chain_last (rs (hc pins s3 σ H3 _ I3 q3) λw' s4⟨z',H4,I4,r4,q4⟩=>ho' pins s4 σ H4 y z' u w' Q I4 r2 r4 q4))
theorem Zh{op op':lV}{r r':R2}(ho:aM X (compareOp op) r)(ho':aM X (compareOp op') r')(ha:PE X a ta)(hb:PE X b tb)(hc:PE X c tc)
 (hm:lastMarks [op,op'] [b,c]=false:=by with_unfolding_all rfl):PT X (.Compare a [op,op'] [b,c] pos) (EH (Ei r r' ta tb tc)):=by
 intro pins s σ H Q I h
 refine isTrue_chain (rs (ha pins s σ H _ I h) λv s1⟨x,H1,I1,r1,q1⟩=>test_link (rs (hb pins s1 σ H1 _ I1 q1) λu s2⟨y,H2,I2,r2,q2⟩=>
  rs (ho pins s2 σ H2 x y v u _ I2 r1 r2 q2) λd s3⟨z,H3,I3,r3,k,e,q3⟩=> ?_)) hm
 subst e
 cases r3
 refine iJ ?_
 cases k with
 |false=>
  obtain⟨k',e',q'⟩:=q3
  cases e'
  exact ite_ff ⟨H3,I3,q'⟩
 |true=>
  refine ite_tt (test_last (rs (hc pins s3 σ H3 _ I3 q3) λw' s4⟨z',H4,I4,r4,q4⟩=>rs (ho' pins s4 σ H4 y z' u w' _ I4 r2 r4 q4) λd' s5⟨z2,H5,I5,r5,k2,e2,q5⟩=> ?_))
  subst e2
  cases r5
  exact iJ ⟨H5,I5,q5⟩
def ER(K:ge)(x:V)(H:Hp)(k:Bool):Prop:=
 match x with
 |.ag=>k=false
 |.bl b=>k=b
 |.int i=>k=(i != 0)
 |.str y=>y.length<=sizeLine/\k=((y.length:Int) != 0)
 |.bV y=>y.size<=sizeLine/\k=((y.size:Int) != 0)
 |.ref p=>(∃xs,aa K H p xs/\k= !xs.isEmpty)\/(∃xs,P3 K H p xs/\k= !xs.isEmpty)\/∃kvs,H p=some (.dK kvs)/\k= !kvs.isEmpty
 |_=>False
theorem V2{κ:Type}{kvs:List (κ×V)}{vs:List (κ×al)}(r:KV kvs vs):(!vs.isEmpty)= !kvs.isEmpty:=by
 cases r<;>rfl
theorem JO{xs:List V}{ci:List al}(r:Vals xs ci):(!ci.toArray.isEmpty)= !xs.isEmpty:=by
 cases r<;>simp
theorem rj:(sizeLine:Nat)<2 ^ 63:=by rw[bu];decide
theorem ab8:acY X (λx H Q=>∃k,ER X.K x H k/\Q k H):=by
 intro pins s σ H x v Q I rx h
 obtain⟨k,e,q⟩:=h
 have hl:=rj
 have hs:sizeLine=16777216:=bu
 cases x with
 |ag=>
  cases rx
  have e':k=false:=e
  subst e'
  exact truthy_none ⟨H,I,q⟩
 |bl b=>
  cases rx
  have e':k=b:=e
  subst e'
  exact iJ ⟨H,I,q⟩
 |int i=>
  obtain⟨t,rfl⟩:=rx
  have e':k=(i != 0):=e
  subst e'
  exact PySem.P.truthy_int ⟨H,I,q⟩
 |str y=>
  obtain⟨t,rfl⟩:=rx
  obtain⟨hy,e'⟩:y.length<=sizeLine/\k=((y.length:Int) != 0):=e
  subst e'
  exact PySem.P.truthy_str (by lia) ⟨H,I.tok _,q⟩
 |bV y=>
  obtain⟨t,rfl⟩:=rx
  obtain⟨hy,e'⟩:y.size<=sizeLine/\k=((y.size:Int) != 0):=e
  subst e'
  exact PySem.W.truthy_bytes (by lia) ⟨H,I.tok _,q⟩
 |ref p=>
  cases rx
  have e':(∃xs,aa X.K H p xs/\k= !xs.isEmpty)\/(∃xs,P3 X.K H p xs/\k= !xs.isEmpty)\/∃kvs,H p=some (.dK kvs)/\k= !kvs.isEmpty:=e
  rcases e' with⟨xs,hx,e'⟩|⟨xs,hx,e'⟩|⟨kvs,hx,e'⟩
  .subst e'
   obtain⟨ci,r,pl,hz⟩:=I.list hx
   have hlen:=r.length
   exact wpAny_truthy_list pl.isList (by simp only[XV];lia) ⟨H,I.tok _,by rw[JO r];exact q⟩
  .subst e'
   obtain⟨ci,r,pl,hz⟩:=I.tuple hx
   have hlen:=r.length
   exact truthy_tuple pl (by simp only[XV];lia) ⟨H,I.tok _,by rw[JO r];exact q⟩
  .subst e'
   obtain⟨hz,hS,vs,r,m⟩:kvs.length<=sizeLine/\(p==sysModules)=false/\∃vs,KV kvs vs/\s.heap.DictOf (cG X.prog X.w) p vs:=I.ab p _ hx
   have hlen:kvs.length=vs.length:=ng r
   exact wpAny_truthy_dict hS m (by lia) ⟨H,I.tok _,by rw[V2 r];exact q⟩
 |_=>exact(show False from e).elim
theorem Zi(ha:PE X a ta)(he:∀whole,isTrue a X.env whole=(do let v <-whole;standAt a.pos;holding [v] (truthy v))):
 PT X a (λσ H Q=>ta σ H λx H'=>∃k,ER X.K x H' k/\Q k H'):=by
 intro pins s σ H Q I h
 exact isTrue_plain (rs (ha pins s σ H _ I h) λv s1⟨x,H1,I1,r1,q1⟩=>ab8 pins s1 σ H1 x v Q I1 r1 q1) (he _)
theorem vals1{x:V}{us:List al}(r:Vals [x] us):∃u,us=[u]/\RelV x u:=by
 cases r with
 |cons r1 r2=>cases r2;exact⟨_,rfl,r1⟩
theorem vals2{x y:V}{us:List al}(r:Vals [x,y] us):∃u w',us=[u,w']/\RelV x u/\RelV y w':=by
 cases r with
 |cons r1 r2=>
  cases r2 with
  |cons r3 r4=>cases r4;exact⟨_,_,rfl,r1,r3⟩
theorem Lh:ak X (.builtin "abs") (λxs H Q=>∃i,xs=[.int i]/\Q (.int (if i<0 then-i else i)) H):=by
 intro pins s σ H xs us Q I r h
 obtain⟨i,rfl,q⟩:=h
 obtain⟨u,rfl,t,rfl⟩:=vals1 r
 exact call_abs_int λu tk=>⟨.int (if i<0 then-i else i),H,I.tok _,⟨_,rfl⟩,q⟩
theorem Kj(hc:X.calm=true):ak X (.builtin "max") (λxs H Q=>∃i j,xs=[.int i,.int j]/\Q (.int (if j>i then j else i)) H):=by
 intro pins s σ H xs us Q I r h
 obtain⟨i,j,rfl,q⟩:=h
 obtain⟨u,w',rfl,⟨t,rfl⟩,⟨t',rfl⟩⟩:=vals2 r
 refine max_two_ints (I.ok.hd hc) λh' tk k=>⟨_,H,I.kept k,?_,q⟩
 by_cases hj:j>i
 .rw[if_pos hj,if_pos hj];exact⟨_,rfl⟩
 .rw[if_neg hj,if_neg hj];exact⟨_,rfl⟩
theorem B0(hc:X.calm=true):ak X (.builtin "min") (λxs H Q=>∃i j,xs=[.int i,.int j]/\Q (.int (if j<i then j else i)) H):=by
 intro pins s σ H xs us Q I r h
 obtain⟨i,j,rfl,q⟩:=h
 obtain⟨u,w',rfl,⟨t,rfl⟩,⟨t',rfl⟩⟩:=vals2 r
 refine min_two_ints (I.ok.hd hc) λh' tk k=>⟨_,H,I.kept k,?_,q⟩
 by_cases hj:j<i
 .rw[if_pos hj,if_pos hj];exact⟨_,rfl⟩
 .rw[if_neg hj,if_neg hj];exact⟨_,rfl⟩
end
end L2
namespace L2
open PySem PySem.Spec PyProof.Rows
structure oU (h:io) (x dx C:ac) (mA:Str->Option al):Prop where
 obj:h.get? x=some (kE C dx)
 ns:h.Ns1 dx mA
 ne:dx≠x
theorem XC{h:io}{dx:ac}{mA:Str->Option al}(n:h.Ns1 dx mA):∃od,h.get? dx=some od/\∀name,Ju name od=some (mA name):=by
 obtain⟨o,es,ep,ho,hd,hk,_,hm⟩:=n
 refine⟨o,ho,λname=> ?_⟩
 have e:=hm name
 unfold nsFind findBy at e
 rw[<-Array.find?_toList]at e
 unfold Ju
 rw[hd]
 dsimp only
 split
 .rename_i y q
  rw[q]at e
  exact congrArg some e
 .rename_i q
  rw[q]at e
  have a:es.toList.any (·.refKey)=false:=by
   rw[List.any_eq_false]
   intro y hy
   obtain⟨z,t,rS⟩:=hk y (Hf.mp hy)
   simp[DictEntry.refKey,rS]
  have a':¬es.toList.any (·.refKey)=true:=by rw[a];exact bI
  rw[if_neg a']
  exact congrArg some e
theorem oU.look{h:io}{x dx C:ac}{mA:Str->Option al}(I:oU h x dx C mA):∃od,PySem.W.InstAt h x (kE C dx) C (some od)/\∀name,Ju name od=some (mA name):=
 let⟨od,ho,hl⟩:=XC I.ns
 ⟨od,⟨I.obj,rfl,rfl,ho⟩,hl⟩
section
variable{prog:lw}{w:li}{A:ww}{E:al->ap->Prop}{s:ap}{K:ge}{x dx C f:ac}{mA:Str->Option al}{name:Str}{v:al}
theorem get_map{expr:Bool}{Q:al->ap->Prop}(X:K.In s.heap)(I:oU s.heap x dx C mA)(hg:pY K C name=true)(hh:pT K C=true)
 (ha:aR K (.ref C) name=some none)(hv:mA name=some v)(hv':WT v=true)(h:Q v {s with toks:=s.toks+1}):
 wpAny (model prog w) A (getAttr (.ref x) name expr) Q E s:=by
 obtain⟨od,J,hl⟩:=I.look
 exact PySem.W.get_value X J (PySem.W.plainGet_of hg).1 (PySem.W.findObj_own hh ha rfl (by rw[hl,hv])) hv' h
theorem aaJ{ns:List Str}{Q:Unit->ap->Prop}(X:K.In s.heap)(I:oU s.heap x dx C mA)
 (hs:aR K (.ref C) "__setattr__"=some (some (.builtin "object.__setattr__")))(hp:tM K C=true)(ht:IC K C name=some none)(hh:pT K C=true)
 (hw:K9 mA ns)(hsz:ns.length<=sizeLine)
 (h:∀h',oU h' x dx C (λy=>if y=name then some v else mA y)->aC dx s.heap h'->Q () {s with heap:=h',toks:=s.toks+2}):
 wpAny (model prog w) A (setAttr (.ref x) name v) Q E s:=by
 obtain⟨od,J,hl⟩:=I.look
 refine PySem.W.set_plain X J hs (PySem.W.osa_open (s:={s with toks:=s.toks+1}) (r:=none) X J hp ht λb=> ?_)
 obtain⟨cd,hc,hd'⟩:=PySem.W.any_some hh
 have hx:s.heap.get? x=some ⟨.ref C,some dx,.plain,#[]⟩:=I.obj
 refine bd (eg (bd (bd (wpAny_loadPart hx (bd (PySem.W.Looks.here (s:={s with toks:=s.toks+1}) (PySem.W.looks_clsIn X hc) ?_))))))
 rw[hd']
 refine eg (a:=some dx) (bd (eg (bd ?_)))
 refine wpAny_nsSet1 (s:={s with toks:=s.toks+1}) I.ns λh' hn2 hs2=> ?_
 obtain⟨oD,esD,epD,hoD,hdD,hcD⟩:=hn2.count (PySem.Within.cons name v hw)
 refine bd (wpAny_lookBehind hoD (by rw[hdD];exact pastItsLine_dict (Ch hcD (by rw[Os];lia))) ?_)
 exact eg (h _ ⟨(hs2.2 _ (dS I.ne)).trans I.obj,hn2,I.ne⟩ hs2)
theorem YX{R:lL->ap->Prop}{vs:List al}{kw:List (Str×al)}(X:K.In s.heap)(hm:um K C=true)
 (hi:aR K (.ref C) "__init__"=some (some (.ref f)))(hf:PySem.W.typeIn K (.ref f)=some (.type "function"))
 (h:codeAny (model prog w) (A.under (.builtin "type.__call__" ⟨.ref C::vs,kw⟩)) (.call (.ref f) ⟨.ref (s.heap.objs.size+1)::vs,kw⟩) (PySem.W.InitBack (s.heap.objs.size+1) R)
   {s with heap:=(s.heap.push jx).push (kE C s.heap.objs.size)}):
 codeAny (model prog w) A (.call (.ref C) ⟨vs,kw⟩) R s:=by
 obtain⟨hh,g,d,t,os⟩:=s
 exact PySem.W.make_core (PySem.W.makes_of X hm) (PySem.W.looks_findIn X hi) (λself=>PySem.W.bind_fn X self hf) (.inl rfl) h
end
noncomputable def Gc(f:Str)(v:V):List (Str×V)->List (Str×V)
 |[]=>[(f,v)]
 |(g,x)::r=>if g=f then(g,v)::r else(g,x)::Gc f v r
theorem aS(f g:Str)(v:V):∀fs:List (Str×V),(Gc f v fs).lookup g=if g=f then some v else fs.lookup g
 |[]=>by
  show kQ g [(f,v)]=_
  by_cases h:g=f
  .have hb:(g==f)=true:=beq_iff_eq.mpr h
   simp only[kQ,hb,if_pos h]
  .have hb:(g==f)=false:=beq_eq_false_iff_ne.mpr h
   simp only[kQ,hb,if_neg h]
 |(k,x)::r=>by
  have ih:=aS f g v r
  rw[show Gc f v ((k,x)::r)=(if k=f then(k,v)::r else(k,x)::Gc f v r)from rfl]
  by_cases hk:k=f
  .rw[if_pos hk]
   by_cases h:g=k
   .have hb:(g==k)=true:=beq_iff_eq.mpr h
    simp only[kQ,hb,if_pos (h.trans hk)]
   .have hb:(g==k)=false:=beq_eq_false_iff_ne.mpr h
    simp only[kQ,hb,if_neg (λe:g=f=>h (e.trans hk.symm))]
  .rw[if_neg hk]
   by_cases h:g=k
   .have hb:(g==k)=true:=beq_iff_eq.mpr h
    simp only[kQ,hb,if_neg (λe:g=f=>hk (h.symm.trans e))]
   .have hb:(g==k)=false:=beq_eq_false_iff_ne.mpr h
    simp only[kQ,hb]
    exact ih
theorem Cb(f:Str)(v:V):∀fs:List (Str×V),f∈(Gc f v fs).map (·.1)/\∀g,g∈fs.map (·.1)->g∈(Gc f v fs).map (·.1)
 |[]=>⟨by simp[Gc],λg h=>by simp at h⟩
 |(k,x)::r=>by
  obtain⟨i1,i2⟩:=Cb f v r
  rw[show Gc f v ((k,x)::r)=(if k=f then(k,v)::r else(k,x)::Gc f v r)from rfl]
  by_cases hk:k=f
  .rw[if_pos hk]
   subst hk
   exact⟨by simp,λg h=>by simpa using h⟩
  .rw[if_neg hk]
   refine⟨?_,λg h=> ?_⟩
   .rw[FS]
    exact AT _ i1
   .rw[FS]at h⊢
    rcases wl.mp h with e|e
    .exact wl.mpr (.inl e)
    .exact AT _ (i2 g e)
theorem IS(f:Str)(v:V):∀fs:List (Str×V),(Gc f v fs).length<=fs.length+1
 |[]=>by simp[Gc]
 |(k,x)::r=>by
  have ih:=IS f v r
  rw[show Gc f v ((k,x)::r)=(if k=f then(k,v)::r else(k,x)::Gc f v r)from rfl]
  by_cases hk:k=f
  .rw[if_pos hk,Os,Os];lia
  .rw[if_neg hk,Os,Os];lia
theorem dw.some_of{v:V}{o:Option al}(r:dw (some v) o):∃u,o=some u/\RelV v u:=by
 cases o with
 |none=>exact(show False from r).elim
 |some u=>exact⟨u,rfl,r⟩
theorem Xo{v:V}{u:al}(r:RelV v u):WT u=true:=by
 cases v with
 |ag=>cases(show u=iP from r);rfl
 |bl b=>cases(show u=nT b from r);rfl
 |int i=>obtain⟨t,e⟩:=(show ∃t,u=eO i t from r);cases e;rfl
 |str x=>obtain⟨t,e⟩:=(show ∃t,u=De x t from r);cases e;rfl
 |bV b=>obtain⟨t,e⟩:=(show ∃t,u=Value.bytes b t from r);cases e;rfl
 |pj b=>obtain⟨t,e⟩:=(show ∃t,u=Value.float b t from r);cases e;rfl
 |ref a=>cases(show u=im a from r);rfl
 |ty n=>cases(show u=jH n from r);rfl
section
variable{P:lw}{w:li}{H H':Hp}{h h':io}{a C dx:ac}{fs fs':List (Str×V)}
theorem qR(ab:SL P w H h)(e:H a=some (.ins C dx fs)):∃mA,oU h a dx C mA/\(∀f,dw (fs.lookup f) (mA f))/\K9 mA (fs.map (·.1))/\fs.length<=1000/\H dx=some (.own a):=by
 obtain⟨d,z,ne,ob,mA,n,r,q⟩:=(show aA P w H h a (.ins C dx fs)from ab a _ e)
 exact⟨mA,⟨ob,n,ne⟩,r,q,z,d⟩
end
structure il (K:ge) (C:ac):Prop where
 pg:pY K C DS=true
 hd:pT K C=true
 po:tM K C=true
 sa:aR K (.ref C) "__setattr__"=some (some (.builtin "object.__setattr__"))
theorem il.get{K:ge}{C:ac}(c:il K C)(f:Str):pY K C f=true:=c.pg
def dW(K:ge)(C:ac)(f:Str):Prop:=aR K (.ref C) f=some none
theorem dW.acU{K:ge}{C:ac}{f:Str}(n:dW K C f):IC K C f=some none:=by
 unfold IC
 rw[show aR K (.ref C) f=some none from n]
 rfl
structure Con (K:ge) (C:ac) (f:Str) (v:V) (u:al):Prop where
 at_:aR K (.ref C) f=some (some u)
 rel:RelV v u
 get:Vs K u "__get__"=some none
 cp:PySem.W.copiedNames.contains f=false
structure Meth (K:ge) (C:ac) (m:Str) (f:ac):Prop where
 at_:aR K (.ref C) m=some (some (.ref f))
 fn:nu K (.ref f)=true
 kp:fq K (.ref f)=true
section
variable{X:Cx}{pins:List (ac×Obj)}{σ:St}{H:Hp}{s:ap}{a C dx:ac}{fs:List (Str×V)}{f:Str}{v:V}{A:ww}{E:al->ap->Prop}
theorem VY{b:Bool}{Q:al->ap->Prop}(I:Inv X pins σ H s)(e:H a=some (.ins C dx fs))(c:il X.K C)(n:dW X.K C f)(l:fs.lookup f=some v)
 (h:∀u s',Inv X pins σ H s'->RelV v u->Q u s'):wpAny (model X.prog X.w) A (getAttr (.ref a) f b) Q E s:=by
 obtain⟨mA,O,r,_,_,_⟩:=qR I.ab e
 obtain⟨u,hu,ru⟩:=dw.some_of (v:=v) (o:=mA f) (by rw[<-l];exact r f)
 exact get_map I.eG O (c.get f) c.hd n hu (Xo ru) (h u _ (I.tok _) ru)
theorem Ww{y:V}{u:al}{Q:Unit->ap->Prop}(I:Inv X pins σ H s)(e:H a=some (.ins C dx fs))(c:il X.K C)(n:dW X.K C f)(hl:fs.length<1000)(ry:RelV y u)
 (h:∀s',Inv X pins σ (upd H a (.ins C dx (Gc f y fs))) s'->Q () s'):wpAny (model X.prog X.w) A (setAttr (.ref a) f u) Q E s:=by
 obtain⟨mA,O,r,wi,_,ho⟩:=qR I.ab e
 have hz:(fs.map (·.1)).length<=sizeLine:=by rw[dL,bu];lia
 refine aaJ I.eG O c.sa c.po n.acU c.hd wi hz λh' O' sb=>h _ ?_
 have hd:∃o,h'.get? dx=some o:=let⟨o,_,_,e',_⟩:=O'.ns;⟨o,e'⟩
 refine I.write (x:=a) (e:=dx) (by rw[e];exact qI) (.inr ho) (λb q hb z=>(sb.2 b hb).trans z) hd ?_
 refine⟨by rw[gl O.ne];exact ho,?_,O.ne,O'.obj,_,O'.ns,λg=> ?_,λg hg=> ?_⟩
 .have:=IS f y fs;lia
 .show dw ((Gc f y fs).lookup g) (if g=f then some u else mA g)
  rw[aS]
  by_cases q:g=f
  .rw[if_pos q,if_pos q];exact ry
  .rw[if_neg q,if_neg q];exact r g
 .by_cases q:g=f
  .rw[q];exact(Cb f y fs).1
  .refine(Cb f y fs).2 g (wi g λz=>hg ?_)
   show(if g=f then some u else mA g)=none
   rw[if_neg q];exact z
theorem Inv.made(I:Inv X pins σ H s):Inv X pins σ (upd (upd H s.heap.objs.size (.own (s.heap.objs.size+1))) (s.heap.objs.size+1) (.ins C s.heap.objs.size []))
 {s with heap:=(s.heap.push jx).push (kE C s.heap.objs.size)}:=by
 have e1:(s.heap.push jx).get? s.heap.objs.size=some jx:=Tl s.heap rfl
 have e2:((s.heap.push jx).push (kE C s.heap.objs.size)).get? (s.heap.objs.size+1)=some (kE C s.heap.objs.size):=by
  have:=Tl (s.heap.push jx) (o:=kE C s.heap.objs.size) rfl
  rwa [eL]at this
 have e3:(s.heap.push jx).Ns s.heap.objs.size (λ_=>none):=⟨jx,#[],_,e1,rfl,(λe he=>absurd he (by simp)),λ_=>rfl⟩
 have I1:=I.laid (a:=s.heap.objs.size) (o:=.own (s.heap.objs.size+1)) (h':=s.heap.push jx) (t':=s.toks) (λb u q=>P5 _ q) (nn _) ⟨_,e1⟩
 refine I1.laid (a:=s.heap.objs.size+1) (o:=.ins C s.heap.objs.size []) (t':=s.toks) (λb u q=>P5 _ q) (nz (eL _ _)) ?_
 have ne:s.heap.objs.size≠s.heap.objs.size+1:=Ps (uk _)
 refine⟨by rw[gl ne,bv],SC _,ne,e2,λ_=>none,(Heap.Ns1.of_empty e3).at λo q=>P5 _ q,λ_=>qI,λy hy=>absurd rfl hy⟩
theorem ZQ{prog:lw}{w:li}{env:Env}{e:lv}{f:Str}{pos:Pos}{s:ap}{Q:al->ap->Prop}(hb:attributeBase e f env (eval e env)=eval e env)
 (h:wpAny (model prog w) A (eval e env) (λo s₁=>wpAny (model prog w) A (getAttr o f true) Q E s₁) E s):wpAny (model prog w) A (eval (.Attribute e f pos) env) Q E s:=
 Attribute_any_ h (by rw[arm_eval_Attribute,hb])
end
def Fj(K:ge)(ta:TE)(f:Str):TE:=λσ H Q=>ta σ H λx H1=>∃a C dx fs v,x=.ref a/\H1 a=some (.ins C dx fs)/\il K C/\dW K C f/\fs.lookup f=some v/\Q v H1
def Fi(K:ge)(ta tv:TE)(f:Str):TS:=λD σ H=>tv σ H λy H1=>ta σ H1 λx H2=>∃a C dx fs,x=.ref a/\H2 a=some (.ins C dx fs)/\il K C/\dW K C f/\fs.length<1000/\
 D.nx σ (upd H2 a (.ins C dx (Gc f y fs)))
section
variable{X:Cx}{o e value:lv}{f:Str}{pos pos' lT:Pos}{ta tv:TE}
theorem abE(he:PE X e ta)(hb:attributeBase e f X.env (eval e X.env)=eval e X.env):PE X (.Attribute e f pos) (Fj X.K ta f):=by
 intro pins s σ H Q I h
 refine ZQ hb (rs (he pins s σ H _ I h) λu s1⟨x,H1,I1,rx,a,C,dx,fs,v,ex,ea,c,n,l,q⟩=> ?_)
 subst ex
 obtain rfl:u=im a:=rx
 exact VY I1 ea c n l λu' s2 I2 ru=>⟨v,H1,I2,ru,q⟩
theorem abN(ha:PE X o ta)(hv:PE X value tv)(hs:swapsWith value (some (.Attribute o f pos')) pos.line X.env=pure false):PS X (.Assign [.Attribute o f pos'] value pos) (Fi X.K ta tv f):=by
 intro pins s σ H D I h
 refine plainObj_wpAny_Assign_Attribute (rs (hv pins s σ H _ I h) λu s1⟨y,H1,I1,ry,q⟩=>rs (ha pins s1 σ H1 _ I1 q) λov s2⟨x,H2,I2,rx,a,C,dx,fs,ex,ea,c,n,l,q2⟩=> ?_) hs
 subst ex
 obtain rfl:ov=im a:=rx
 exact Ww I2 ea c n l ry λs3 I3=>⟨σ,_,I3,q2⟩
end
section
variable{X:Cx}{pins:List (ac×Obj)}{σ:St}{H:Hp}{s:ap}{A:ww}{E:al->ap->Prop}{Q:al->ap->Prop}{c:al}{b:Bool}
inductive gm (K:ge) (H:Hp):V->al->Prop where
 |ag:gm K H .ag (.type "NoneType")
 |bl (x:Bool):gm K H (.bl x) (.type "bool")
 |int (i:Int):gm K H (.int i) (.type "int")
 |str (x:Str):gm K H (.str x) (.type "str")
 |pj (x:UInt64):gm K H (.pj x) (.type "float")
 |lst {a:ac} {xs:List V} (e:H a=some (.lst xs)):gm K H (.ref a) (.type "list")
 |ai {a:ac} {o:Obj} {xs:List V} (e:H a=some (.ai o (.lst xs))):gm K H (.ref a) (.type "list")
 |tup {a:ac} {xs:List V} (e:H a=some (.tup xs)):gm K H (.ref a) (.type "tuple")
 |dK {a:ac} {kvs:List (Key×V)} (e:H a=some (.dK kvs)):gm K H (.ref a) (.type "dict")
 |dT {a:ac} {kvs:List (List Key×V)} (e:H a=some (.dT kvs)):gm K H (.ref a) (.type "dict")
 |ins {a C dx:ac} {fs:List (Str×V)} (e:H a=some (.ins C dx fs)) (cl:il K C) (ha:aR K (.ref C) "__class__"=some (some (.builtin "object.__class__")))
   (hn:Vs K (.builtin "object.__class__") "__get__"=some (some (.builtin "getset_descriptor.__get__"))) (pF:PySem.W.takesIn K (.builtin "object.__class__")=some true)
   (hm:PySem.W.mroIn K C (.type "object")=some true):gm K H (.ref a) (.ref C)
end
end L2
namespace L2
open PySem PySem.Spec PyProof.Rows
structure UF (k:Nat) (A:ww):Prop where
 hd:A.handled=none
 dp:A.depth+3*k+5<recursionLimit
 un:A.units+16*k+200<cLine
theorem UF.mono{j k:Nat}{A:ww}(r:UF k A)(h:j<=k):UF j A:=⟨r.hd,by have:=r.dp;lia,by have:=r.un;lia⟩
theorem UF.deeper{k:Nat}{A:ww}(r:UF (k+1) A)(env:Env):UF k (A.deeper env):=
 ⟨r.hd,by have:=r.dp;show A.depth+1+3*k+5<_;lia,by have:=r.un;show A.units+3+16*k+200<_;lia⟩
theorem UF.in1{k:Nat}{A:ww}(r:UF (k+1) A):UF k A.in1:=
 ⟨r.hd,by have:=r.dp;show A.depth+3*k+5<_;lia,by have:=r.un;show A.units+1+16*k+200<_;lia⟩
theorem V5{A:ww}{C:ac}{us:List al}{kw:List (Str×al)}:(A.under (.builtin "type.__call__" ⟨.ref C::us,kw⟩)).depth=A.depth+1:=by
 first|rfl|simp[K6,Code.weight,Code.isCreation,Code.isGuard,Code.isCaller,Code.frames,Lc,guardIds]
theorem V6{A:ww}{C:ac}{us:List al}{kw:List (Str×al)}:(A.under (.builtin "type.__call__" ⟨.ref C::us,kw⟩)).units=A.units+1:=by
 first|rfl|simp[K6,Code.cUnits,Code.frames,Lc]
theorem UF.make{k:Nat}{A:ww}(r:UF (k+1) A)(C:ac)(us:List al)(kw:List (Str×al)):UF k (A.under (.builtin "type.__call__" ⟨.ref C::us,kw⟩)):=
 ⟨r.hd,by have:=r.dp;rw[V5];lia,by have:=r.un;rw[V6];lia⟩
theorem UF.depth{k:Nat}{A:ww}(r:UF k A):A.depth<recursionLimit:=by have:=r.dp;lia
theorem UF.units{k:Nat}{A:ww}(r:UF k A):A.units+64<cLine:=by have:=r.un;lia
def Fl:TA:=λ_ H Q=>Q [] H
def Ob(ta:TE)(tr:TA):TA:=λσ H Q=>ta σ H λx H1=>tr σ H1 λxs H2=>Q (x::xs) H2
section
variable{X:Cx}{e:lv}{es:List lv}{te:TE}{t:TA}{pos:Pos}
theorem bi:PA X [] Fl:=λ_ _ _ _ H Q I h=>Iz ⟨[],H,I,.nil,h⟩
theorem am(ha:PE X e te)(hr:PA X es t)(hs:starEach (e::es) X.env=(false,eval e X.env)::starEach es X.env:=by rfl):PA X (e::es) (Ob te t):=by
 intro pos pins s σ H Q I h
 rw[hs]
 show wpAny _ _ (spliced ((false,eval e X.env)::backTo pos (starEach es X.env))) _ _ s
 refine yW (rs (ha pins s σ H _ I h) λu s1⟨x,H1,I1,r1,q1⟩=> ?_)
 exact rs (hr pos pins s1 σ H1 _ I1 q1) λus s2⟨xs,H2,I2,r2,q2⟩=>⟨x::xs,H2,I2,.cons r1 r2,q2⟩
def O3(t:TA):TE:=λσ H Q=>t σ H λxs H1=>xs.length<=sizeLine/\∀p,H1 p=none->Q (.ref p) (upd H1 p (.tup xs))
def OZ(t:TA):TE:=λσ H Q=>t σ H λxs H1=>xs.length<=sizeLine/\∀p,H1 p=none->Q (.ref p) (upd H1 p (.lst xs))
theorem WP{x1}(h:PA X es t):PE X (.Tuple es x1 pos) (O3 t):=by
 intro pins s σ H Q I hq
 refine wpAny_Tuple_spliced (rs (h pos pins s σ H _ I hq) λus s1⟨xs,H1,I1,r,z,q⟩=>⟨by rw[<-r.length];exact z,?_⟩)
 have hf:H1 s1.heap.objs.size=none:=I1.ab.fresh (nn _)
 refine⟨.ref s1.heap.objs.size,upd H1 s1.heap.objs.size (.tup xs),I1.laid (t':=s1.toks) (λb u e=>P5 _ e) (nn _) ?_,rfl,q _ hf⟩
 exact⟨z,us,r,⟨_,Tl _ rfl,rfl,_,rfl⟩⟩
theorem xL(h:PA X es t):PE X (.List es pos) (OZ t):=by
 intro pins s σ H Q I hq
 refine wpAny_List_spliced (rs (h pos pins s σ H _ I hq) λus s1⟨xs,H1,I1,r,z,q⟩=>⟨by rw[<-r.length];exact z,?_⟩)
 have hf:H1 s1.heap.objs.size=none:=I1.ab.fresh (nn _)
 refine⟨.ref s1.heap.objs.size,upd H1 s1.heap.objs.size (.lst xs),I1.laid (t':=s1.toks) (λb u e=>P5 _ e) (nn _) ?_,rfl,q _ hf⟩
 exact⟨z,us,0,r,Tl _ rfl⟩
end
abbrev Sp:=List V->Hp->VK->XK->Prop
abbrev eY:=List Env->Hp->ap->XK->al->ap->Prop
structure jU (P:lw) (w:li) (K:ge) (mg:Str->Option al) (base:io) (A:ww) (outer:List Env) (s:ap) (H:Hp):Prop where
 frames:A.frames=some outer
 mod:Mod K mg base
 bs:∀b o,base.get? b=some o->s.heap.get? b=some o/\H b=none
 ip:base.objs.size<=s.heap.objs.size
 fH:s.heap.FunFrames base outer
 l9:∀b∈gv outer,H b=none
 ab:SL P w H s.heap
 bare:oC s.gens
def CE(outer:List Env)(P:lw)(w:li)(H:Hp)(s:ap)(Q:VK)(u:al)(s':ap):Prop:=
 ∃v H',s'.os=s.os/\oC s'.gens/\Un (gv outer) [] H H' s.heap s'.heap/\SL P w H' s'.heap/\RelV v u/\Q v H'
def CR(CX:eY)(outer:List Env)(P:lw)(w:li)(H:Hp)(s:ap)(Q:VK)(E:XK)(r:lL)(s':ap):Prop:=
 match r with
 |.ok (.ret u)=>CE outer P w H s Q u s'
 |.ok _=>False
 |.error e=>CX outer H s E e s'
structure o0 (P:lw) (w:li) (K:ge) (mg:Str->Option al) (base:io) (CX:eY) (k:Nat) (f:ac) (fd:on) (ps:List Str) (sp:Sp):Prop where
 len:∀vs H Q E,sp vs H Q E->vs.length=ps.length
 run:∀(A:ww)(outer:List Env)(s:ap)(H:Hp)(args:Args)(us:List al)(vs:List V)(Q:VK)(E:XK),UF k A->jU P w K mg base A outer s H->oF s fd args (ps.zip us)->Vals vs us->sp vs H Q E->
  codeAny (model P w) A (.call (.ref f) args) (CR CX outer P w H s Q E) s
theorem o0.mono{P:lw}{w:li}{K:ge}{mg:Str->Option al}{base:io}{CX:eY}{j k:Nat}{f:ac}{fd:on}{ps:List Str}{sp:Sp}(F:o0 P w K mg base CX j f fd ps sp)(h:j<=k):
 o0 P w K mg base CX k f fd ps sp:=⟨F.len,λA outer s H args us vs Q E hr=>F.run A outer s H args us vs Q E (hr.mono h)⟩
theorem o0.imp{P:lw}{w:li}{K:ge}{mg:Str->Option al}{base:io}{CX:eY}{k:Nat}{f:ac}{fd:on}{ps:List Str}{sp sp':Sp}(F:o0 P w K mg base CX k f fd ps sp)
 (h:∀vs H Q E,sp' vs H Q E->sp vs H Q E):o0 P w K mg base CX k f fd ps sp':=
 ⟨λvs H Q E q=>F.len vs H Q E (h _ _ _ _ q),λA outer s H args us vs Q E hr he hb hv hs=>F.run A outer s H args us vs Q E hr he hb hv (h _ _ _ _ hs)⟩
theorem jU.make{P:lw}{w:li}{K:ge}{mg:Str->Option al}{base:io}{A:ww}{outer:List Env}{s:ap}{H:Hp}(e:jU P w K mg base A outer s H)(C:ac)(us:List al)(kw:List (Str×al)):
 jU P w K mg base (A.under (.builtin "type.__call__" ⟨.ref C::us,kw⟩)) outer s H:=⟨by first|exact e.frames|(simpa[K6,Code.envs,Lc,pushEnvs]using e.frames),e.mod,e.bs,e.ip,e.fH,e.l9,e.ab,e.bare⟩
section
variable{X:Cx}{pins:List (ac×Obj)}{σ:St}{H:Hp}{s s':ap}
theorem Inv.xj(I:Inv X pins σ H s):jU X.prog X.w X.K X.mg X.base X.A X.stack s H:=
 ⟨I.ok.frames,I.ok.mod,I.bs,Ch I.ok.ip I.sz,I.stack,I.MX,I.ab,I.bare⟩
theorem Inv.after{Q:VK}{u:al}(I:Inv X pins σ H s)(h:CE X.stack X.prog X.w H s Q u s'):EP X pins σ Q u s':=by
 obtain⟨v,H',os,bare,un,ab,r,q⟩:=h
 obtain⟨hh,g,d,t,os'⟩:=s'
 obtain rfl:os'=s.os:=os
 exact⟨v,H',I.call (h':=hh) (g':=g) (d':=d) (t':=t) (ch:=[]) un ab bare (λb z=>absurd z (by simp)),r,q⟩
end
def EF(sp:Sp)(cY:List V)(E:XK)(t:TA):TE:=λσ H Q=>t σ H λvs H1=>sp (vs++cY) H1 Q E
def EG(C:ac)(sp:Sp)(cY:List V)(E:XK)(t:TA):TE:=λσ H Q=>t σ H λvs H1=>∀x dx,H1 x=none->H1 dx=none->dx≠x->
 sp (.ref x::(vs++cY)) (upd (upd H1 dx (.own x)) x (.ins C dx [])) (λv H2=>v=.ag/\Q (.ref x) H2) E
def Binds(K:ge)(fd:on)(ps:List Str)(ds:List al):Prop:=
 ∀(s:ap)(us:List al),K.In s.heap->(us++ds).length=ps.length->oF s fd ⟨us,[]⟩ (ps.zip (us++ds))
theorem Binds.all{K:ge}{fd:on}{ps:List Str}(h:∀us:List al,us.length=ps.length->bindArgs fd ⟨us,[]⟩=pure (ps.zip us)):Binds K fd ps []:=λs us _ hl=>by
 rw[iL]at hl⊢
 exact .of_eq (h us hl)
def Passes(CX:eY)(X:Cx)(E:XK):Prop:=∀(pins:List (ac×Obj))(σ:St)(H:Hp)(s:ap)(e:al)(s':ap),Inv X pins σ H s->CX X.stack H s E e s'->X.xe e s'
section
variable{X:Cx}{CX:eY}{k:Nat}{f C:ac}{fd:on}{ps:List Str}{sp:Sp}{cY:List V}{ds:List al}{E:XK}{x m:Str}{p pos apos:Pos}{e o:lv}{es:List lv}{ta:TE}{t:TA}
theorem NC{pins:List (ac×Obj)}{σ:St}{H:Hp}{s:ap}{Q:VK}{us:List al}{vs:List V}(F:o0 X.prog X.w X.K X.mg X.base CX k f fd ps sp)(hr:UF k X.A)(hb:Binds X.K fd ps ds)(hd:Vals cY ds)(hx:Passes CX X E)
 (I:Inv X pins σ H s)(r:Vals vs us)(h:sp (vs++cY) H Q E):wpAny (model X.prog X.w) X.A (call (.ref f) us) (EP X pins σ Q) X.xe s:=by
 have r2:Vals (vs++cY) (us++ds):=r.append hd
 have hl:(us++ds).length=ps.length:=by rw[<-r2.length];exact F.len _ _ _ _ h
 refine DX (nL (F.run X.A X.stack s H ⟨us,[]⟩ (us++ds) (vs++cY) Q E hr I.xj (hb s us I.eG hl) r2 h) λr s' hq=> ?_)
 cases r with
 |error e=>exact hx pins σ H s e s' I hq
 |ok fl=>
  cases fl with
  |ret u=>exact I.after hq
  |next=>exact bR hq
  |brk=>exact bR hq
  |cont=>exact bR hq
theorem aaz(F:o0 X.prog X.w X.K X.mg X.base CX k f fd ps sp)(hr:UF k X.A)(hg:Gl X x)(hm:X.mg x=some (.ref f))(hk:fq X.K (.ref f)=true)(hb:Binds X.K fd ps ds)(hd:Vals cY ds)(hx:Passes CX X E)
 (ha:PA X (e::es) t)(gx:(x==("__debug__":Str))=false:=by decide)(he:starEach (e::es) X.env=(false,eval e X.env)::starEach es X.env:=by rfl)(SZ:(backTo pos (starEach es X.env)).any (·.1)=false:=by rfl):
 PE X (.Call (.Name x p) (e::es) [] pos) (EF sp cY E t):=by
 intro pins s σ H Q I h
 refine mL (wz I hg hm ?_ gx)
 refine Hk (h₀:=X.base) I.ok.mod.sD hk (rs (ha pos pins s σ H _ I h) λus s1⟨vs,H1,I1,r,q⟩=>⟨I1.eG,?_⟩) he SZ
 exact NC F hr hb hd hx I1 r q
structure Mk (K:ge) (C f:ac):Prop where
 makes:um K C=true
 init:aR K (.ref C) "__init__"=some (some (.ref f))
 fn:nu K (.ref f)=true
 kp:fq K (.ref C)=true
theorem LR{pins:List (ac×Obj)}{σ:St}{H:Hp}{s:ap}{Q:VK}{us:List al}{vs:List V}(M:Mk X.K C f)(F:o0 X.prog X.w X.K X.mg X.base CX k f fd ps sp)(hr:UF (k+1) X.A)(hb:Binds X.K fd ps ds)(hd:Vals cY ds)
 (hx:Passes CX X E)(I:Inv X pins σ H s)(r:Vals vs us)
 (h:∀x dx,H x=none->H dx=none->dx≠x->sp (.ref x::(vs++cY)) (upd (upd H dx (.own x)) x (.ins C dx [])) (λv H2=>v=.ag/\Q (.ref x) H2) E):
 wpAny (model X.prog X.w) X.A (call (.ref C) us) (EP X pins σ Q) X.xe s:=by
 have hq:=h (s.heap.objs.size+1) s.heap.objs.size (I.ab.fresh (gg _)) (I.ab.fresh (nn _)) (Ps (uk _))
 have I2:=Inv.made (C:=C) I
 have r2:Vals (V.ref (s.heap.objs.size+1)::(vs++cY)) (im (s.heap.objs.size+1)::(us++ds)):=.cons rfl (r.append hd)
 have hl:(im (s.heap.objs.size+1)::us++ds).length=ps.length:=by
  have e:=r2.length
  rw[F.len _ _ _ _ hq]at e
  exact e.symm
 refine DX (YX (f:=f) I.eG M.makes M.init (beq_iff_eq.mp M.fn) (nL (F.run _ X.stack _ _ ⟨im (s.heap.objs.size+1)::us,[]⟩ (im (s.heap.objs.size+1)::(us++ds)) _ _ E (hr.make C us [])
  (I2.xj.make C us []) (hb _ (im (s.heap.objs.size+1)::us) I2.eG hl) r2 hq) λr s' hq'=> ?_))
 cases r with
 |error e=>exact hx pins σ _ _ e s' I2 hq'
 |ok fl=>
  cases fl with
  |ret u=>
   obtain⟨v,H',I3,rv,ev,q3⟩:=I2.after hq'
   subst ev
   exact⟨rv,⟨V.ref (s.heap.objs.size+1),H',I3,rfl,q3⟩⟩
  |next=>exact bR hq'
  |brk=>exact bR hq'
  |cont=>exact bR hq'
theorem MJ(M:Mk X.K C f)(F:o0 X.prog X.w X.K X.mg X.base CX k f fd ps sp)(hr:UF (k+1) X.A)(hg:Gl X x)(hm:X.mg x=some (.ref C))(hb:Binds X.K fd ps ds)(hd:Vals cY ds)(hx:Passes CX X E)
 (ha:PA X (e::es) t)(gx:(x==("__debug__":Str))=false:=by decide)(he:starEach (e::es) X.env=(false,eval e X.env)::starEach es X.env:=by rfl)(SZ:(backTo pos (starEach es X.env)).any (·.1)=false:=by rfl):
 PE X (.Call (.Name x p) (e::es) [] pos) (EG C sp cY E t):=by
 intro pins s σ H Q I h
 refine mL (wz I hg hm ?_ gx)
 refine Hk (h₀:=X.base) I.ok.mod.sD M.kp (rs (ha pos pins s σ H _ I h) λus s1⟨vs,H1,I1,r,q⟩=>⟨I1.eG,?_⟩) he SZ
 exact LR M F hr hb hd hx I1 r q
theorem Zd(M:Mk X.K C f)(F:o0 X.prog X.w X.K X.mg X.base CX k f fd ps sp)(hr:UF (k+1) X.A)(hg:Gl X x)(hm:X.mg x=some (.ref C))(hb:Binds X.K fd ps ds)(hd:Vals cY ds)(hx:Passes CX X E)
 (gx:(x==("__debug__":Str))=false:=by decide):PE X (.Call (.Name x p) [] [] pos) (EG C sp cY E Fl):=by
 intro pins s σ H Q I h
 refine mL (wz I hg hm ?_ gx)
 exact PySem.W.callWith_K0 I.eG M.kp (LR (us:=[]) M F hr hb hd hx I .nil h)
end
section
variable{X:Cx}{CX:eY}{k:Nat}{f C:ac}{fd:on}{ps ks:List Str}{sp:Sp}{E:XK}{x m:Str}{p pos apos adI:Pos}{e o:lv}{es:List lv}{kws:List oG}{te ta:TE}{t tk:TA}{nm:Option Str}
structure adz (K:ge) (fd:on) (ps ks:List Str) (g:List al->List al->List al) (gV:List V->List V->List V):Prop where
 to:∀(s:ap)(us ws:List al),K.In s.heap->(g us ws).length=ps.length->oF s fd ⟨us,ks.zip ws⟩ (ps.zip (g us ws))
 rel:∀{vs:List V}{us:List al}{zs:List V}{ws:List al},Vals vs us->Vals zs ws->Vals (gV vs zs) (g us ws)
variable{g:List al->List al->List al}{gV:List V->List V->List V}
end
structure ut (N P:List Str) (sc:aK):Prop where
 kind:sc.kind=.function
 co:sc.isCoroutine=false
 gen:sc.isGenerator=false
 nd:N.Nodup
 pre:N.take P.length=P
 par:∀x∈P,sc.names.lookup x=some .local\/sc.names.lookup x=some .cell
 abA:∀y∈sc.names,y.2≠.free
theorem Ki{kindOf:Str->Option dO}{x:Str}:∀{binds:List (Str×al)}{m:Str->Option al},(∀v,(x,v)∉binds)->bindL kindOf binds m x=m x
 |[],_,_=>rfl
 |(n,v)::r,m,h=>by
  unfold bindL
  rw[Ki λw hw=>h w (AT _ hw)]
  split
  .have:x≠n:=by rintro rfl;exact h v Go
   simp[this]
  .rfl
theorem Kg{kindOf:Str->Option dO}{x:Str}:∀{binds:List (Str×al)}{m:Str->Option al},(∀v,(x,v)∉binds)->bindC kindOf binds m x=m x
 |[],_,_=>rfl
 |(n,v)::r,m,h=>by
  unfold bindC
  rw[Kg λw hw=>h w (AT _ hw)]
  split
  .rfl
  .have:x≠n:=by rintro rfl;exact h v Go
   simp[this]
theorem Kh{kindOf:Str->Option dO}{x:Str}{v:al}:∀{P:List Str}{vs:List al}{i:Nat}{m:Str->Option al},P.Nodup->P[i]? =some x->vs[i]? =some v->kindOf x=some .local->
 bindL kindOf (P.zip vs) m x=some v
 |[],_,_,_,_,h,_,_=>by simp at h
 |_::_,[],_,_,_,_,h,_=>by simp at h
 |p::P,w::vs,0,m,nd,h1,h2,hk=>by
  simp at h1 h2;subst h1;subst h2
  show bindL kindOf ((p,w)::P.zip vs) m p=_
  unfold bindL
  rw[Ki λv hv=>(gJ.mp nd).1 (ur hv).1,if_pos hk]
  simp
 |p::P,w::vs,i+1,m,nd,h1,h2,hk=>by
  show bindL kindOf ((p,w)::P.zip vs) m x=_
  unfold bindL
  exact Kh (i:=i) (gJ.mp nd).2 (by simpa using h1) (by simpa using h2) hk
theorem Kf{kindOf:Str->Option dO}{x:Str}{v:al}:∀{P:List Str}{vs:List al}{i:Nat}{m:Str->Option al},P.Nodup->P[i]? =some x->vs[i]? =some v->kindOf x≠some .local->
 bindC kindOf (P.zip vs) m x=some v
 |[],_,_,_,_,h,_,_=>by simp at h
 |_::_,[],_,_,_,_,h,_=>by simp at h
 |p::P,w::vs,0,m,nd,h1,h2,hk=>by
  simp at h1 h2;subst h1;subst h2
  show bindC kindOf ((p,w)::P.zip vs) m p=_
  unfold bindC
  rw[Kg λv hv=>(gJ.mp nd).1 (ur hv).1,if_neg hk]
  simp
 |p::P,w::vs,i+1,m,nd,h1,h2,hk=>by
  show bindC kindOf ((p,w)::P.zip vs) m x=_
  unfold bindC
  exact Kf (i:=i) (gJ.mp nd).2 (by simpa using h1) (by simpa using h2) hk
noncomputable def start(N:List Str)(vs:List V):St:=vs.map some++List.replicate (N.length-vs.length) none
noncomputable def ia(CX:eY)(P:lw)(w:li)(K:ge)(mg:Str->Option al)(base:io)(N:List Str)(qual:Str)(scope:aK)(f:ac)(cd:al)(A:ww)(outer:List Env)(s:ap)(H:Hp)(E:XK):Cx where
 prog:=P
 w:=w
 K:=K
 mg:=mg
 base:=base
 A:=A.deeper (envOfC qual scope s.heap.objs.size f cd)
 N:=N
 bY:=s
 lY:=H
 env:=envOfC qual scope s.heap.objs.size f cd
 outer:=outer
 stack:=envOfC qual scope s.heap.objs.size f cd::outer
 ex:=[]
 calm:=true
 fn:=λ_=>true
 pn:=[]
 xe:=λe s'=>wpAny (model P w) (A.deeper (envOfC qual scope s.heap.objs.size f cd)) (leaving (envOfC qual scope s.heap.objs.size f cd) e) (λ_ s''=>CX outer H s E e s'') (λe' s''=>CX outer H s E e' s'') s'
theorem Li{sc:aK}{n:Nat}{x:Str}(h:sc.names.lookup x=some .cell):∃c,(cellsFrom n sc.names []).lookup x=some c:=by
 have q:=Gv sc.names n [] (.inl h)
 exact RU.mp q
theorem Ku{CX:eY}{P:lw}{w:li}{K:ge}{mg:Str->Option al}{base:io}{N ps:List Str}{qual:Str}{scope:aK}{f:ac}{cd:al}{A:ww}{outer:List Env}{s s1:ap}{H:Hp}{E:XK}{us:List al}{vs:List V}
 (S:ut N ps scope)(hd:A.handled=none)(e0:jU P w K mg base A outer s H)(hl:vs.length=ps.length)(r:Vals vs us)
 (x:InCallC s s.heap.objs.size (bindL (envOfC qual scope s.heap.objs.size f cd).kindOf (ps.zip us) λ_=>none) (cellsFrom (s.heap.objs.size+1) scope.names []) (bindC (envOfC qual scope s.heap.objs.size f cd).kindOf (ps.zip us) λ_=>none) s1):
 Inv (ia CX P w K mg base N qual scope f cd A outer s H E) [] (start N vs) H s1:=by
 have SZ:ps.length<=N.length:=by have:=congrArg dm S.pre;rw[dG]at this;lia
 obtain⟨h1,tk,rfl,hk⟩:=x.done
 have noA:∀b:ac,b∉(ia CX P w K mg base N qual scope f cd A outer s H E).ex:=λb z=>absurd (show b∈([]:List ac)from z) (by simp)
 refine⟨⟨e0.mod,S.kind,rfl,rfl,nn _,λy z c h1 h2=> ?_,λy hy=> ?_,λy c _ h=> ?_,λ_=>hd,Around.frames_deeper e0.frames,.inr ⟨rfl,rfl⟩,λb z=>absurd z (noA b),e0.bs,e0.ip,λb _ _=>noA b,λb z=>absurd z (noA b),e0.fH,e0.l9⟩,
  rfl,e0.bare,Un.kept hk,⟨_,x.toInCall.ns,λi y v h1 h2 h3=> ?_⟩,λy c h=>⟨_,x.cell y c h⟩,e0.ab.fresh (nn _),λy c h=> ?_,λp hp=>absurd (show p∈([]:List (ac×Obj))from hp) (by simp),e0.ab.kept hk,?_⟩
 .exact name_of_addr x.apart (d_ h1) (d_ h2)
 .have hy:scope.names.lookup y=some .cell\/scope.names.lookup y=some .free:=hy
  rcases hy with hy|hy
  .exact Li hy
  .exact absurd rfl (S.abA _ (d_ hy))
 .exact TW (x.above y c (d_ h))
 .have hi:i<vs.length:=by
   unfold start at h2
   by_cases hi:i<vs.length
   .exact hi
   .rw[pJ (by simpa using hi)]at h2
    rw[Ub]at h2
    split at h2<;>cases h2
  have ha:vs[i]? =some v:=by
   unfold start at h2
   rw[mz (by simpa using hi),wP]at h2
   cases e:vs[i]? with
   |none=>rw[e]at h2;cases h2
   |some a=>rw[e]at h2;cases h2;rfl
  obtain⟨u,hu,rv⟩:=r.get ha
  have hp:ps[i]? =some y:=by
   rw[<-S.pre,Gj (by lia)];exact h1
  have ndP:ps.Nodup:=by rw[<-S.pre];exact S.nd.sublist (List.take_sublist _ _)
  refine⟨u,rv,?_⟩
  rcases S.par y (Tk hp)with k|k
  .exact .inl ⟨k,Kh ndP hp hu k⟩
  .obtain⟨c,e⟩:=Li (n:=s.heap.objs.size+1) k
   refine .inr ⟨.inl k,c,e,?_⟩
   have q:=x.cell y c e
   rw[Kf ndP hp hu (by show scope.names.lookup y≠_;rw[k];decide)]at q
   exact q
 .exact e0.ab.fresh (TW (x.above y c (d_ h)))
 .unfold start
  show _=N.length
  rw[Rs,dL,List.length_replicate]
  lia
theorem NT{CX:eY}{P:lw}{w:li}{K:ge}{mg:Str->Option al}{base:io}{k:Nat}{f:ac}{name qual:Str}{params:qY}{body:List nl}{scope:aK}{dV kV doc pm lm ct oc:al}{an od:Option ac}
 {da:Array (Option al)}{N ps:List Str}{sp:Sp}(lk:K.lookup f=some ⟨oc,od,.func (iM name qual params body scope dV kV doc pm an lm ct),da⟩)(d5:uM K lm qual=true)(S:ut N ps scope)
 (len:∀vs H Q E,sp vs H Q E->vs.length=ps.length)
 (i8:∀(A:ww)(outer:List Env)(s:ap)(H:Hp)(vs:List V)(Q:VK)(E:XK),UF k (A.deeper (envOfC qual scope s.heap.objs.size f lm))->sp vs H Q E->
   ∃t,eF (ia CX P w K mg base N qual scope f lm A outer s H E) body t/\t {nx:=λ_ H'=>Q .ag H',rt:=Q} (start N vs) H):
 o0 P w K mg base CX (k+1) f (iM name qual params body scope dV kV doc pm an lm ct) ps sp:=by
 refine⟨len,λA outer s H args us vs Q E hr e0 hb r c6=> ?_⟩
 have hl:=len _ _ _ _ c6
 have KX:K.In s.heap:=e0.mod.sD.keeps λb o e=>(e0.bs b o e).1
 have lim:s.heap.NoLimit:=e0.mod.nolimit.keeps λb o e=>(e0.bs b o e).1
 have Eu:∀y∈ps.zip us,scope.names.lookup y.1=some .local\/(scope.names.lookup y.1=some .cell/\((cellsFrom (s.heap.objs.size+1) scope.names []).lookup y.1).isSome=true):=λ⟨n,v⟩hy=>by
  rcases S.par n (ur hy).1 with q|q
  .exact .inl q
  .exact .inr ⟨q,Gv _ _ _ (.inl q)⟩
 refine codeAny_call_function hr.depth (KX _ _ lk) rfl S.co S.gen rfl (PySem.W.codeRec_of KX d5) (hb _ _ _ _ ?_)
 refine Vm S.kind Eu λenv he s1 x=> ?_
 subst he
 refine⟨lim.keeps x.toInCall.keep,codeAny_func ?_⟩
 obtain⟨t,ht,hq⟩:=i8 A outer s H vs Q E (hr.deeper _) c6
 have I:Inv (ia CX P w K mg base N qual scope f lm A outer s H E) [] (start N vs) H s1:=Ku S hr.hd e0 hl r x
 refine cE (ht [] s1 (start N vs) H _ I hq) (λfl s' hs=> ?_) λe s' hs=>hs
 have fin:∀{σ':St}{H':Hp}{v:V}{u:al},Inv (ia CX P w K mg base N qual scope f lm A outer s H E) [] σ' H' s'->RelV v u->Q v H'->CE outer P w H s Q u s':=
  λ{σ' H' v u}J rv q=>⟨v,H',J.os,J.bare,J.base,J.ab,rv,q⟩
 cases fl with
 |ret u=>
  obtain⟨v,σ',H',J,rv,q⟩:=hs
  exact fin J rv q
 |next=>
  obtain⟨σ',H',J,q⟩:=hs
  exact fin (v:=V.ag) (u:=iP) J rfl q
 |brk=>
  obtain⟨_,_,_,q⟩:=hs
  exact bR q
 |cont=>
  obtain⟨_,_,_,q⟩:=hs
  exact bR q
end L2
namespace L2
open PySem PySem.Spec PyProof.Rows
section
variable{X:Cx}{x:Str}{p pos:Pos}{e:lv}{es:List lv}{t:TA}{id T:String}{r:List V->Hp->VK->Prop}
def F0(r:List V->Hp->VK->Prop)(t:TA):TE:=λσ H Q=>t σ H λvs H1=>r vs H1 Q
theorem FM(hc:ak X (.builtin id) r)(hg:Gl X x)(hm:X.mg x=none)(hv:bootBuiltins x=some (.builtin id))(ha:PA X (e::es) t)(hn:x≠"__name__":=by decide)(gx:(x==("__debug__":Str))=false:=by decide)
 (he:starEach (e::es) X.env=(false,eval e X.env)::starEach es X.env:=by rfl)(SZ:(backTo pos (starEach es X.env)).any (·.1)=false:=by rfl):PE X (.Call (.Name x p) (e::es) [] pos) (F0 r t):=by
 intro pins s σ H Q I h
 refine mL (i7 I hg hm hv ?_ hn gx)
 exact PyProof.Rows.callWith_builtin1 (rs (ha pos pins s σ H _ I h) λus s1⟨vs,H1,I1,r1,q1⟩=>hc pins s1 σ H1 vs us Q I1 r1 q1) he SZ
theorem dJ(hc:ak X (.type T) r)(hg:Gl X x)(hm:X.mg x=none)(hv:bootBuiltins x=some (.type T))(ha:PA X (e::es) t)(hn:x≠"__name__":=by decide)(gx:(x==("__debug__":Str))=false:=by decide)
 (he:starEach (e::es) X.env=(false,eval e X.env)::starEach es X.env:=by rfl)(SZ:(backTo pos (starEach es X.env)).any (·.1)=false:=by rfl):PE X (.Call (.Name x p) (e::es) [] pos) (F0 r t):=by
 intro pins s σ H Q I h
 refine mL (i7 I hg hm hv ?_ hn gx)
 exact mw (rs (ha pos pins s σ H _ I h) λus s1⟨vs,H1,I1,r1,q1⟩=>hc pins s1 σ H1 vs us Q I1 r1 q1) he SZ
end
end L2
namespace HT
open PySem PyProof.Rows
noncomputable def lexLt:List Int->List Int->Bool
 |[],[]=>false
 |[],_::_=>true
 |_::_,[]=>false
 |x::xs,y::ys=>if x=y then lexLt xs ys else decide (x<y)
theorem dq(x y:Int)(xs ys:List Int):lexLt (x::xs) (y::ys)=if x=y then lexLt xs ys else decide (x<y):=rfl
theorem Hq:lexLt [] []=false:=rfl
theorem Rx(y:Int)(ys:List Int):lexLt [] (y::ys)=true:=rfl
theorem Rw(x:Int)(xs:List Int):lexLt (x::xs) []=false:=rfl
theorem YG(A:ww)(s:ap)(a:Int)(t:Tok)(c:Int)(u:Tok):∃e,Ma A s (.int a t) (.int c u) e/\(e=true↔a=c):=
 ⟨(a==c),SeqAt.EqAt.int_int a t c u,by simp⟩
theorem Zk(A:ww)(s:ap)(a:Int)(t:Tok)(c:Int)(u:Tok)(prog:lw)(w:li)(E:al->ap->Prop)(Q:al->ap->Prop)(h:Q (.bool (decide (a<c))) s):
 wpAny (model prog w) A (richCompare .Lt (.int a t) (.int c u)) Q E s:=
 (PyProof.Rows.lt_int h:wpAny (model prog w) A (compareOp .Lt (.int a t) (.int c u)) Q E s)
section
open PySem.SeqAt
open PySem.AutoSeq1 (wpAny_loadPart')
open PySem.MeetsSeq PySem.MeetsSeq2 PySem.MeetsSeq3
theorem SK(l b:ac)(items items2:Array al)(n n2:Nat)(dd dd2:Option ac)(sl sl2:Array (Option al))(ns ms:List Int)(hi:dU items.toList ns)(hj:dU items2.toList ms):
 Meets (Builtin.«tuple.__lt__» ⟨[.ref l,.ref b],[]⟩)
  (λ_ R s=>s.heap.get? l=some {cls:=.type "tuple",dict:=dd,data:=.seq items n,slots:=sl}/\s.heap.get? b=some {cls:=.type "tuple",dict:=dd2,data:=.seq items2 n2,slots:=sl2}/\
    R (.ok (.ret (.bool (lexLt ns ms)))) s):=
 .of_wp λprog w A R s h=>by
  obtain⟨hp,g,d,tk,os⟩:=s;obtain⟨hl,hb,h⟩:=h
  have f2:=AutoSeq1.sub_tuple_tuple
  have z1:items.size=ns.length:=by rw[<-hi.length];simp
  have z2:items2.size=ms.length:=by rw[<-hj.length];simp
  wp_walk using wpAny_loadPart' hl,wpAny_loadPart' hb,wpAny_forIn_list _ (λrest b s'=>b.1=none/\s'=⟨hp,g,d,tk,os⟩/\∃(vs ws:List al)(ns' ms':List Int),rest=vs.zip ws/\
   dU vs ns'/\dU ws ms'/\ns'.length+items2.size=ms'.length+items.size/\R (.ok (.ret (.bool (lexLt ns' ms')))) ⟨hp,g,d,tk,os⟩) _
  case turn=>
   rintro⟨y,x⟩ rest b s' ⟨hb',rfl,vs,ws,ns',ms',hz,FT,jm,hlen,hR⟩
   cases FT with
   |nil=>rw[List.zip_nil_left]at hz;cases hz
   |cons a t adj=>
    cases jm with
    |nil=>rw[List.zip_nil_right]at hz;cases hz
    |cons c u adl=>
     rw[W1]at hz
     injection hz with hyx acE
     injection hyx with hy hx
     subst hy hx
     rw[dq]at hR
     simp only[Os]at hlen
     obtain⟨e,he,Oz⟩:=YG A.in1 ⟨hp,g,d,tk,os⟩ a t c u
     refine bd (he prog w _ _ ?_)
     cases e with
     |true=>
      rw[if_pos (Oz.mp rfl)]at hR
      wp_walk
      exact⟨rfl,rfl,_,_,_,_,acE,adj,adl,by lia,hR⟩
     |false=>
      rw[if_neg (λq=>absurd (Oz.mpr q) bI)]at hR
      have hri:=Zk A.in1 ⟨hp,g,d,tk,os⟩ a t c u prog w
      wp_walk using hri
      exact⟨_,rfl,by simpa using hR⟩
  case fin=>
   rintro⟨b1,b2⟩ s' ⟨hb',rfl,vs,ws,ns',ms',hz,FT,jm,hlen,hR⟩
   simp only at hb'
   subst hb'
   have hv:lexLt ns' ms'=decide (items.size<items2.size):=by
    cases FT with
    |nil=>
     cases jm with
     |nil=>
      simp only[mX]at hlen
      rw[Hq]
      exact(decide_eq_false (by lia)).symm
     |cons c u hw=>
      simp only[mX,Os]at hlen
      rw[Rx]
      exact(decide_eq_true (by lia)).symm
    |cons a t hv=>
     cases jm with
     |nil=>
      simp only[mX,Os]at hlen
      rw[Rw]
      exact(decide_eq_false (by lia)).symm
     |cons c u hw=>
      rw[W1]at hz
      cases hz
   rw[hv]at hR
   wp_walk
   exact⟨_,rfl,by simpa[Builtin.Tuple.tupleCompareSizes]using hR⟩
  case h=>
   exact⟨rfl,rfl,items.toList,items2.toList,ns,ms,rfl,hi,hj,by lia,h⟩
end
section
variable{prog:lw}{w:li}{A:ww}{E:al->ap->Prop}{s:ap}
theorem V4{l b:ac}{items items2:Array al}{ns ms:List Int}{Q:al->ap->Prop}(hl:IsTup s.heap l items)(hb:IsTup s.heap b items2)(hi:dU items.toList ns)(hj:dU items2.toList ms)
 (hu:A.units<cLine)(h:Q (.bool (lexLt ns ms)) s):wpAny (model prog w) A (compareOp .Lt (.ref l) (.ref b)) Q E s:=by
 obtain⟨⟨cls,dd,data,sl⟩,ho,hc,n,hd⟩:=id hl
 obtain⟨⟨cls2,dd2,data2,sl2⟩,ho2,hc2,n2,hd2⟩:=id hb
 simp only at hc hd hc2 hd2
 subst hc hd hc2 hd2
 exact richCompare_meets_room (op:=.Lt) ⟨_,ho,rfl⟩ ⟨_,ho2,rfl⟩ PySem.F.slot_tuple_lt PySem.F.entry_tuple_lt (PySem.F.args_tuple_lt_2 _ _) (SK l b items items2 n n2 dd dd2 sl sl2 ns ms hi hj)
  ⟨ho,ho2,show nT (lexLt ns ms)≠Value.notImplemented/\Q (.bool (lexLt ns ms)) s from⟨(λx=>nomatch x),h⟩⟩ hu
noncomputable def bq(n d:Nat):Option Int->Nat
 |none=>d
 |some v=>if v<0 then(v+(n:Int)).toNat else min v.toNat n
theorem LS(n d:Nat):bq n d none=d:=rfl
theorem wC(n d k:Nat):bq n d (some (k:Int))=min k n:=by
 show(if(k:Int)<0 then((k:Int)+(n:Int)).toNat else min (k:Int).toNat n)=min k n
 rw[if_neg (by lia),fk]
end
end HT
namespace L2
open PySem PySem.Spec PyProof.Rows
abbrev TO:=St->Hp->(Option Int->Hp->Prop)->Prop
def PO(X:Cx)(e:Option lv)(t:TO):Prop:=
 ∀(pins:List (ac×Obj))(s:ap)(σ:St)(H:Hp)(Q:Option Int->Hp->Prop),Inv X pins σ H s->t σ H Q->
  wpAny (model X.prog X.w) X.A (evalPart e X.env) (λu s'=>∃o H',Inv X pins σ H' s'/\IsPart u o/\Q o H') X.xe s
def M3:TO:=λ_ H Q=>Q none H
def Of(t:TE):TO:=λσ H Q=>t σ H λx H1=>∃i,x=.int i/\Q (some i) H1
theorem intsAre_of{ns:List Int}:∀{us:List al},Vals (ns.map V.int) us->dU us ns:=by
 induction ns with
 |nil=>intro us r;rw[gO]at r;cases r;exact .nil
 |cons n ns ih=>
  intro us r
  rw[FS]at r
  cases r with
  |cons r1 r2=>
   obtain⟨t,e⟩:=r1
   subst e
   exact .cons n t (ih r2)
section
variable{X:Cx}{e:lv}{te:TE}{lo hi:Option lv}{tl th:TO}{pos p2:Pos}
theorem qU:PO X none M3:=by
 intro pins s σ H Q I h
 rw[evalPart_none]
 exact eg ⟨none,H,I,.none,h⟩
theorem lj(h:PE X e te):PO X (some e) (Of te):=by
 intro pins s σ H Q I hw
 rw[evalPart_some]
 refine rs (h pins s σ H _ I hw) λu s1⟨x,H1,I1,r1,q1⟩=> ?_
 obtain⟨i,rfl,q⟩:=q1
 obtain⟨t,rfl⟩:=r1
 exact⟨some i,H1,I1,.int i t,q⟩
def Fu(X:Cx)(r:V->Option Int->Option Int->Hp->VK->Prop):Prop:=
 ∀(pins:List (ac×Obj))(s:ap)(σ:St)(H:Hp)(x:V)(v vl vu:al)(lo hi:Option Int)(sl:ac)(Q:VK),Inv X pins σ H s->RelV x v->s.heap.IsSliceOf sl vl vu .none->IsPart vl lo->IsPart vu hi->r x lo hi H Q->
  ∃T id,typeLookup (.type T) "__getitem__"=pure (some (.builtin id))/\s.TypeIs v T/\wpAny (model X.prog X.w) X.A (getItem v (.ref sl)) (EP X pins σ Q) X.xe s
def Qe(r:V->Option Int->Option Int->Hp->VK->Prop)(te:TE)(tl th:TO):TE:=λσ H Q=>te σ H λx H1=>tl σ H1 λl H2=>th σ H2 λu H3=>r x l u H3 Q
theorem nZ{r:V->Option Int->Option Int->Hp->VK->Prop}(hr:Fu X r)(he:PE X e te)(hl:PO X lo tl)(hu:PO X hi th):PE X (.Subscript e (.Slice lo hi none p2) pos) (Qe r te tl th):=by
 intro pins s σ H Q I h
 refine Subscript_ (rs (he pins s σ H _ I h) λv s1⟨x,H1,I1,r1,q1⟩=> ?_)
 refine wpAny_Slice (rs (hl pins s1 σ H1 _ I1 q1) λvl s2⟨l,H2,I2,pl,q2⟩=>rs (hu pins s2 σ H2 _ I2 q2) λvu s3⟨u,H3,I3,pu,q3⟩=> ?_)
 rw[evalPart_none]
 refine eg ?_
 have I4:Inv X pins σ H3 {s3 with heap:=s3.heap.push {cls:=.type "slice",data:=.fields #[vl,vu,.none]}}:=I3.kept (t':=s3.toks) λb ob q=>P5 _ q
 obtain⟨T,id,hT,ht,hg⟩:=hr pins {s3 with heap:=s3.heap.push {cls:=.type "slice",data:=.fields #[vl,vu,.none]}} σ H3 x v vl vu l u s3.heap.objs.size Q I4 r1 (Heap.IsSliceOf.new ..) pl pu q3
 show wpAny (model X.prog X.w) X.A (subscriptTail e (.Slice lo hi none p2) v (.ref s3.heap.objs.size)) (EP X pins σ Q) X.xe {s3 with heap:=s3.heap.push {cls:=.type "slice",data:=.fields #[vl,vu,.none]}}
 exact tail_any (ops:=[.ref s3.heap.objs.size,v]) ht hT hg (by with_unfolding_all rfl)
noncomputable def aU(xs:List V)(lo hi:Option Int):List V:=(xs.drop (HT.bq xs.length 0 lo)).take (HT.bq xs.length xs.length hi-HT.bq xs.length 0 lo)
theorem Uz(xs:List V)(lo hi:Option Int):(aU xs lo hi).length<=xs.length:=by
 unfold aU
 rw[dG,pZ]
 lia
end
end L2
namespace L2
open PySem PySem.Spec PyProof.Rows
noncomputable def iA(n:Nat)(i:Int):Option Nat:=if 0<=i then(if i<n then some i.toNat else none)else if-(n:Int)<=i then some (i+n).toNat else none
noncomputable def e9{α:Type}(xs:List α)(i:Int):Option α:=(iA xs.length i).bind λj=>xs[j]?
theorem My{n:Nat}{i:Int}{j:Nat}(h:iA n i=some j):seqIndex? i n=some j/\j<n/\-(n:Int)<=i/\i<n:=by
 unfold iA at h
 by_cases h0:0<=i
 .rw[if_pos h0]at h
  by_cases h1:i<n
  .rw[if_pos h1]at h
   have e:i.toNat=j:=TD h
   exact⟨by rw[seqIndex_of h0 h1,e],by lia,by lia,h1⟩
  .rw[if_neg h1]at h;cases h
 .rw[if_neg h0]at h
  by_cases h1: -(n:Int)<=i
  .rw[if_pos h1]at h
   have e:(i+n).toNat=j:=TD h
   exact⟨by rw[seqIndex_neg (by lia) h1,e],by lia,h1,by lia⟩
  .rw[if_neg h1]at h;cases h
theorem Mh{α:Type}{xs:List α}{i:Int}{v:α}(h:e9 xs i=some v):∃j,seqIndex? i xs.length=some j/\xs[j]? =some v/\j<xs.length/\-(xs.length:Int)<=i/\i<xs.length:=by
 unfold e9 at h
 cases e:iA xs.length i with
 |none=>rw[e]at h;cases h
 |some j=>
  rw[e]at h
  obtain⟨h1,h2,h3,h4⟩:=My e
  exact⟨j,h1,h,h2,h3,h4⟩
theorem la{α:Type}{xs:List α}{j:Nat}{v:α}(h:xs[j]? =some v):e9 xs (j:Int)=some v:=by
 have hj:j<xs.length:=(P4.mp h).1
 have e:iA xs.length (j:Int)=some j:=by
  unfold iA
  rw[if_pos (by lia),if_pos (by lia)];simp
 unfold e9;rw[e];exact h
theorem Yw{α:Type}(xs:List α)(v:α):e9 (xs++[v]) (-1)=some v:=by
 have hl:(xs++[v]).length=xs.length+1:=by simp
 have e:iA (xs++[v]).length (-1)=some xs.length:=by
  unfold iA
  rw[hl,if_neg (by decide),if_pos (by lia)]
  congr 1
  lia
 unfold e9
 rw[e]
 show(xs++[v])[xs.length]? =some v
 simp
def ZN(b:lv):Prop:=∀o i,subscripted b false o i=operate [o,i] (getItem o i)
def rZ(X:Cx)(r:R2):Prop:=
 ∀(value slice:lv)(pins:List (ac×Obj))(s:ap)(σ:St)(H:Hp)(x y:V)(v u:al)(Q:VK),Inv X pins σ H s->RelV x v->RelV y u->r x y H Q->
  subscripted slice false v u=operate [v,u] (getItem v u)->wpAny (model X.prog X.w) X.A (subscriptTail value slice v u) (EP X pins σ Q) X.xe s
def xw(X:Cx)(id:String)(r:V->List V->Hp->VK->Prop):Prop:=
 ∀(pins:List (ac×Obj))(s:ap)(σ:St)(H:Hp)(x:V)(xs:List V)(v:al)(us:List al)(Q:VK),Inv X pins σ H s->RelV x v->Vals xs us->r x xs H Q->
  wpAny (model X.prog X.w) X.A (call (.builtin id) (v::us)) (EP X pins σ Q) X.xe s
section
variable{X:Cx}{a b:lv}{ta tb:TE}{pos:Pos}
theorem ul{r:R2}(hr:rZ X r)(ha:PE X a ta)(hb:PE X b tb)(hs:ZN b):PE X (.Subscript a b pos) (sP r ta tb):=by
 intro pins s σ H Q I h
 exact Subscript_ (ET ha hb I h λv u s2 x y H2 I2 rx ry q=>hr a b pins s2 σ H2 x y v u Q I2 rx ry q (hs _ _))
def xu(K:ge):R2:=λx y H Q=>∃p xs i v,x=.ref p/\y=.int i/\aa K H p xs/\e9 xs i=some v/\Q v H
def Fd(K:ge):R2:=λx y H Q=>∃p xs i v,x=.ref p/\y=.int i/\P3 K H p xs/\e9 xs i=some v/\Q v H
theorem Z8:rZ X (xu X.K):=by
 intro value slice pins s σ H x y v u Q I rx ry h hs
 obtain⟨p,xs,i,z,rfl,rfl,hq,he,q⟩:=h
 cases rx
 obtain⟨t,rfl⟩:=ry
 obtain⟨ci,r,pl,hz⟩:=I.list hq
 obtain⟨j,h1,h2,h3,h4,h5⟩:=Mh he
 obtain⟨w,ew,rw'⟩:=r.get h2
 have hl:=r.length
 have hn:=rj
 have fin:EP X pins σ Q w s:=⟨z,H,I,rw',q⟩
 by_cases h0:0<=i
 .have hj:i.toNat=j:=by
   rw[seqIndex_of h0 h5]at h1
   exact TD h1
  exact item_listR pl.isList h0 (by lia) (by rw[hj];simpa using ew) fin hs
 .have hj:(i+(ci.toArray.size:Int)).toNat=j:=by
   rw[seqIndex_neg (by lia) h4]at h1
   rw[XV,<-hl]
   exact TD h1
  exact Yn (x:=w) pl.isList.typeIs slot_list_getitem.lookup
   (wpAny_getItem_list_neg (Q:=λr s'=>r=w/\EP X pins σ Q r s') pl.isList (by lia) (by rw[XV]<;>lia) (by lia) (by rw[hj];simpa using ew) ⟨rfl,fin⟩) hs
theorem rf:rZ X (Fd X.K):=by
 intro value slice pins s σ H x y v u Q I rx ry h hs
 obtain⟨p,xs,i,z,rfl,rfl,hq,he,q⟩:=h
 cases rx
 obtain⟨t,rfl⟩:=ry
 obtain⟨ci,r,pl,hz⟩:=I.tuple hq
 obtain⟨j,h1,h2,h3,h4,h5⟩:=Mh he
 obtain⟨w,ew,rw'⟩:=r.get h2
 have hl:=r.length
 have hn:=rj
 have fin:EP X pins σ Q w s:=⟨z,H,I,rw',q⟩
 exact Yn (x:=w) pl.typeIs slot_tuple_getitem.lookup
  (getItem_tuple (j:=j) (Q:=λr s'=>r=w/\EP X pins σ Q r s') pl (by lia) (by lia) (by rw[XV,<-hl];exact h1) (by simpa using ew) ⟨rfl,fin⟩) hs
theorem V7(ci:List al)(n j:Nat)(u:al):aX (·.setIfInBounds j u) {cls:=.type "list",data:=.seq ci.toArray n}={cls:=.type "list",data:=.seq (ci.set j u).toArray n}:=by
 simp[aX]
theorem Inv.lst{pins:List (ac×Obj)}{σ:St}{H:Hp}{s:ap}{p:ac}{xs:List V}(I:Inv X pins σ H s)(h:H p=some (.lst xs)):
 ∃(ci:List al)(n:Nat),Vals xs ci/\s.heap.get? p=some {cls:=.type "list",data:=.seq ci.toArray n}/\xs.length<=sizeLine:=by
 obtain⟨z,ci,n,r,e⟩:=I.ab p _ h
 exact⟨ci,n,r,e,z⟩
theorem Inv.abw{pins:List (ac×Obj)}{σ:St}{H:Hp}{s:ap}{p:ac}{xs ys:List V}{ci its':List al}{n n':Nat}{f:Obj->Obj}(I:Inv X pins σ H s)(h:H p=some (.lst xs))
 (ho:s.heap.get? p=some {cls:=.type "list",data:=.seq ci.toArray n})(hf:f {cls:=.type "list",data:=.seq ci.toArray n}={cls:=.type "list",data:=.seq its'.toArray n'})(r:Vals ys its')(hz:ys.length<=sizeLine)(t:Nat):
 Inv X pins σ (upd H p (.lst ys)) {s with heap:=s.heap.update p f,toks:=t}:=by
 have e:(s.heap.update p f).get? p=some {cls:=.type "list",data:=.seq its'.toArray n'}:=by
  rw[kl f ho (by rw[hf]<;>rfl),hf]
 refine I.write (x:=p) (e:=p) (by rw[h];trivial) (.inl rfl) (λb u hb q=>(mE _ _ (dS hb)).trans q) ⟨_,e⟩ ?_
 exact⟨hz,its',n',r,e⟩
def acP:V->V->V->Hp->(Hp->Prop)->Prop:=λo i v H Q=>∃p xs k j,o=.ref p/\i=.int k/\H p=some (.lst xs)/\iA xs.length k=some j/\Q (upd H p (.lst (xs.set j v)))
theorem set_list:Oo X acP:=by
 intro pins s σ H o i v ov iv u Q I ro ri rv h
 obtain⟨p,xs,k,j,rfl,rfl,hp,hj,q⟩:=h
 cases ro
 obtain⟨t,rfl⟩:=ri
 obtain⟨ci,n,r,ho,hz⟩:=I.lst hp
 obtain⟨h1,h2,h3,h4⟩:=My hj
 have hl:=r.length
 have hn:=rj
 have I':Inv X pins σ (upd H p (.lst (xs.set j v))) {s with heap:=s.heap.update p (aX (·.setIfInBounds j u))}:=
  I.abw hp ho (V7 ci n j u) (r.set rv j) (by rw[uq];exact hz) s.toks
 by_cases h0:0<=k
 .have hk:k.toNat=j:=by
   rw[seqIndex_of h0 h4]at h1
   exact TD h1
  exact PySem.W.ki_setAt ho h0 (by lia) (by rw[XV,<-hl];exact h4) (by rw[hk];exact⟨_,I',q⟩)
 .have hk:(k+(ci.toArray.size:Int)).toNat=j:=by
   rw[seqIndex_neg (by lia) h3]at h1
   rw[XV,<-hl]
   exact TD h1
  exact PySem.W.ki_setBack ho (by lia) (by rw[XV,<-hl];exact h3) (by lia) (by rw[hk];exact⟨_,I',q⟩)
theorem T5(lo hi:Option Int)(n:Nat):(sliceBounds lo hi none n).1=((HT.bq n 0 lo:Nat):Int)/\(sliceBounds lo hi none n).2.1=((HT.bq n n hi:Nat):Int)/\(sliceBounds lo hi none n).2.2=1:=by
 refine⟨?_,?_,rfl⟩
 .cases lo with
  |none=>simp[sliceBounds,HT.bq]
  |some i=>
   simp only[sliceBounds,HT.bq,W2,show(1:Int)>0 by decide,if_true]
   by_cases h:i<0
   .simp only[h,if_true]<;>lia
   .simp only[h,if_false]<;>lia
 .cases hi with
  |none=>simp[sliceBounds,HT.bq]
  |some i=>
   simp only[sliceBounds,HT.bq,W2,show(1:Int)>0 by decide,if_true]
   by_cases h:i<0
   .simp only[h,if_true]<;>lia
   .simp only[h,if_false]<;>lia
theorem SH(ci:List al)(lo hi:Option Int):slicePick ci.toArray lo hi none=((ci.drop (HT.bq ci.length 0 lo)).take (HT.bq ci.length ci.length hi-HT.bq ci.length 0 lo)).toArray:=by
 obtain⟨h1,h2,h3⟩:=T5 lo hi ci.toArray.size
 unfold slicePick
 rw[h1,h2,h3]
 simp only[sliceRange_one,pick_run,XV]<;>rfl
def Fg(K:ge):V->Option Int->Option Int->Hp->VK->Prop:=λx lo hi H Q=>∃a xs,x=.ref a/\aa K H a xs/\∀p,H p=none->Q (.ref p) (upd H p (.lst (aU xs lo hi)))
theorem aaK:Fu X (Fg X.K):=by
 intro pins s σ H x v vl vu lo hi sl Q I rx hs pl pu h
 obtain⟨a,xs,rfl,hx,q⟩:=h
 cases rx
 obtain⟨ci,r,ht,hz⟩:=I.list hx
 have hlen:=r.length
 refine⟨"list",_,slot_list_getitem.lookup,ht.isList.typeIs,?_⟩
 refine wpAny_getItem_list_slice ht.isList hs pl pu .none (by simp) ?_ (by rw[XV]<;>lia)
 rw[SH,<-hlen]
 refine⟨.ref s.heap.objs.size,_,I.laid (t':=s.toks) (o:=.lst (aU xs lo hi)) (λb ob q=>P5 _ q) (nn _) ?_,rfl,q _ (I.ab.fresh (nn _))⟩
 exact⟨Ch (Uz xs lo hi) hz,_,0,(r.drop (HT.bq xs.length 0 lo)).take (HT.bq xs.length xs.length hi-HT.bq xs.length 0 lo),Tl _ rfl⟩
theorem Tf:ak X (.builtin "len") (λxs H Q=>∃p ys,xs=[.ref p]/\(aa X.K H p ys\/P3 X.K H p ys)/\Q (.int ys.length) H):=by
 intro pins s σ H xs us Q I r h
 obtain⟨p,ys,rfl,hq,q⟩:=h
 obtain⟨u,rfl,rx⟩:=vals1 r
 cases rx
 have hn:=rj
 rcases hq with hq|hq
 .obtain⟨ci,r',pl,hz⟩:=I.list hq
  have hlen:=r'.length
  exact Calls.call_len_list pl.isList (by simp only[XV]<;>lia) ⟨.int ys.length,H,I.tok _,⟨s.toks+1,by rw[XV,hlen]⟩,q⟩
 .obtain⟨ci,r',pl,hz⟩:=I.tuple hq
  have hlen:=r'.length
  exact len_tuple pl (by simp only[XV]<;>lia) ⟨.int ys.length,H,I.tok _,⟨s.toks+1,by rw[XV,hlen]⟩,q⟩
theorem Th:ak X (.type "list") (λxs H Q=>∃p ys,xs=[.ref p]/\(aa X.K H p ys\/P3 X.K H p ys)/\∀l,H l=none->Q (.ref l) (upd H l (.lst ys))):=by
 intro pins s σ H xs us Q I r h
 obtain⟨p,ys,rfl,hq,q⟩:=h
 obtain⟨u,rfl,rx⟩:=vals1 r
 cases rx
 have fin:∀(ci:List al),Vals ys ci->ys.length<=sizeLine->∀(h':io)(c':Nat),(∀b o',s.heap.get? b=some o'->h'.get? b=some o')->
  h'.get? s.heap.objs.size=some {cls:=.type "list",dict:=none,data:=.seq ci.toArray c',slots:= #[]}->EP X pins σ Q (.ref s.heap.objs.size) {s with heap:=h'}:=λci r' hz h' c' kp e=>
  ⟨.ref s.heap.objs.size,_,I.laid (t':=s.toks) kp (nn _) (show aA X.prog X.w _ h' _ (.lst ys)from⟨hz,ci,c',r',e⟩),rfl,q _ (I.ab.fresh (nn _))⟩
 rcases hq with hq|hq
 .obtain⟨ci,r',pl,hz⟩:=I.list hq
  have hlen:=r'.length
  obtain⟨o,ho,hc,n,hd⟩:=pl.isList
  exact call_list_seq p (.inl rfl) ho hc hd (λh' c' kp e=>fin ci r' hz h' c' kp e) (by simp only[XV]<;>lia)
 .obtain⟨ci,r',pl,hz⟩:=I.tuple hq
  have hlen:=r'.length
  obtain⟨o,ho,hc,n,hd⟩:=pl
  exact call_list_seq p (.inr rfl) ho hc hd (λh' c' kp e=>fin ci r' hz h' c' kp e) (by simp only[XV]<;>lia)
def F1(K:ge)(T:String)(x:V)(H:Hp):Prop:=match x with
 |.str _=>T="str"
 |.int _=>T="int"
 |.ref p=>(T="list"/\∃xs,aa K H p xs)\/(T="tuple"/\∃o,K.lookup p=some o/\o.cls=.type "tuple"/\o.dict=none)\/
   (T="dict"/\((∃kvs,H p=some (.dK kvs))\/∃kvs,H p=some (.dT kvs)))\/(T="set"/\∃S n,H p=some (.set S n))
 |_=>False
theorem NM{pins:List (ac×Obj)}{σ:St}{H:Hp}{s:ap}{T:String}{x:V}{v:al}(I:Inv X pins σ H s)(r:RelV x v)(ty:F1 X.K T x H):
 s.TypeIs v T/\∀a,v=.ref a->∃ob,s.heap.get? a=some ob/\ob.dict=none:=by
 cases x with
 |str z=>
  obtain⟨t,rfl⟩:=r
  cases(show T="str" from ty)
  exact⟨typeIs_str s z t,λ_ e=>nomatch e⟩
 |int i=>
  obtain⟨t,rfl⟩:=r
  cases(show T="int" from ty)
  exact⟨typeIs_int s i t,λ_ e=>nomatch e⟩
 |ref p=>
  cases r
  rcases ty with⟨rfl,xs,hq⟩|⟨rfl,o,hk,hc,hd⟩|⟨rfl,hk⟩|⟨rfl,S,n,hk⟩
  .obtain⟨ci,_,pl,_⟩:=I.list hq
   refine⟨pl.isList.typeIs,λa e=> ?_⟩
   cases e
   obtain⟨o,n,e,c,hd,_⟩:=pl
   exact⟨o,e,hd⟩
  .refine⟨⟨o,I.eG p o hk,hc⟩,λa e=> ?_⟩
   cases e
   exact⟨o,I.eG _ o hk,hd⟩
  .have z:∃o,s.heap.get? p=some o/\o.ExactDict:=by
    rcases hk with⟨kvs,hk⟩|⟨kvs,hk⟩
    .obtain⟨_,_,_,_,o,_,_,e,ex,_⟩:=I.ab p _ hk
     exact⟨o,e,ex⟩
    .obtain⟨_,_,_,_,o,_,_,e,ex,_⟩:=I.ab p _ hk
     exact⟨o,e,ex⟩
   obtain⟨o,e,ex⟩:=z
   refine⟨⟨o,e,ex.1⟩,λa e2=> ?_⟩
   cases e2
   exact⟨o,e,ex.2.1⟩
  .obtain⟨o,_,_,_,e,ex,_⟩:=I.ab p _ hk
   refine⟨⟨o,e,ex.1⟩,λa e2=> ?_⟩
   cases e2
   exact⟨o,e,ex.2.1⟩
 |_=>exact bR ty
def OV(K:ge)(T:String)(r:V->List V->Hp->VK->Prop)(to:TE):TE:=λσ H Q=>to σ H λx H1=>F1 K T x H1/\r x [] H1 Q
def Qa(K:ge)(T:String)(r:V->List V->Hp->VK->Prop)(to:TE)(t:TA):TE:=λσ H Q=>to σ H λx H1=>F1 K T x H1/\t σ H1 λxs H2=>r x xs H2 Q
variable{o e:lv}{es:List lv}{to:TE}{t:TA}{name:Str}{apos bj:Pos}{T id:String}{r:V->List V->Hp->VK->Prop}
theorem abD(pa:PlainAttrs T)(slot:Slot T name id)(jl:typeOf (.builtin id)=pure (.type "method_descriptor"))(hm:xw X id r)(ho:PE X o to)
 (Et:attributeBase o name X.env (eval o X.env)=eval o X.env:=by rfl)(Ex:(apos.endLine==bj.line)=true:=by rfl):PE X (.Call (.Attribute o name apos) [] [] bj) (OV X.K T r to):=by
 intro pins s σ H Q I h
 refine wpAny_Call_method0_late Et Ex (rs (ho pins s σ H _ I h) λv s1⟨x,H1,I1,r1,ty,q1⟩=> ?_)
 obtain⟨h1,h2⟩:=NM I1 r1 ty
 exact⟨T,id,pa,slot,jl,h1,h2,Gz rfl (PySem.evalArgs_none (hm pins s1 σ H1 x [] v [] Q I1 r1 .nil q1))⟩
theorem cJ(pa:PlainAttrs T)(slot:Slot T name id)(jl:typeOf (.builtin id)=pure (.type "method_descriptor"))(hm:xw X id r)(ho:PE X o to)(ha:PA X (e::es) t)
 (Et:attributeBase o name X.env (eval o X.env)=eval o X.env:=by rfl)
 (rQ:((backTo bj (starEach (e::es) X.env)).all (λx=> !x.1)&&(backToKw bj (keywordEach [] X.env)).all (λx=>x.1.isSome)
   &&decide ((e::es).length+([]:List oG).length+(if([]:List oG).isEmpty then 0 else 1)<30))=true:=by rfl)
 (Ex:(apos.endLine==bj.line)=true:=by rfl)(hs:starEach (e::es) X.env=(false,eval e X.env)::starEach es X.env:=by rfl)(abk:(backTo bj (starEach es X.env)).any (·.1)=false:=by rfl):
 PE X (.Call (.Attribute o name apos) (e::es) [] bj) (Qa X.K T r to t):=by
 intro pins s σ H Q I h
 refine wpAny_Call_method_late Et rQ Ex rfl (rs (ho pins s σ H _ I h) λv s1⟨x,H1,I1,r1,ty,q1⟩=> ?_)
 obtain⟨h1,h2⟩:=NM I1 r1 ty
 refine⟨T,id,pa,slot,jl,h1,h2,?_⟩
 have hA:=ha bj pins s1 σ H1 _ I1 q1
 rw[hs]at hA⊢
 refine Gz (by show(false||(backTo bj (starEach es X.env)).any (·.1))=false;rw[abk]<;>rfl) (Vi ?_)
 exact rs hA λus s2⟨vs,H2,I2,r2,q2⟩=>hm pins s2 σ H2 x vs v us Q I2 r1 r2 q2
end
end L2
namespace L2
open PySem PySem.Spec PyProof.Rows
def Fs(X:Cx)(id:String)(r:V->List V->Hp->VK->Prop):Prop:=
 ∀(pins:List (ac×Obj))(s:ap)(σ:St)(H:Hp)(x:V)(xs:List V)(v:al)(us:List al)(Q:VK),Inv X pins σ H s->RelV x v->Vals xs us->r x xs H Q->
  wpAny (model X.prog X.w) X.A (call (.builtin id) (v::us)) (EP X pins σ Q) X.xe s
theorem Vals.one:∀{x:V}{us:List al},Vals [x] us->∃u,us=[u]/\RelV x u
 |_,_,.cons r .nil=>⟨_,rfl,r⟩
theorem Vals.zero:∀{us:List al},Vals [] us->us=[]
 |_,.nil=>rfl
theorem Vals.dropLast{xs:List V}{us:List al}(h:Vals xs us):Vals xs.dropLast us.dropLast:=by
 induction h with
 |nil=>exact .nil
 |cons r t ih=>
  cases t with
  |nil=>exact .nil
  |cons q t'=>exact .cons r ih
theorem VX{α:Type}(l:List α):l.eraseIdx (l.length-1)=l.dropLast:=by
 induction l with
 |nil=>rfl
 |cons a r ih=>
  cases r with
  |nil=>rfl
  |cons b r=>
   have e:(a::b::r).length-1=((b::r).length-1)+1:=by
    have h1:(a::b::r).length=r.length+2:=rfl
    have h2:(b::r).length=r.length+1:=rfl
    lia
   rw[e,Gw,ih]
   all_goals rfl
section
variable{X:Cx}{pins:List (ac×Obj)}{σ:St}{H:Hp}{s:ap}{l b:ac}{xs ys zs:List V}
theorem Inv.E_{ci its':List al}{n:Nat}{f:Array al->Array al}{t':Nat}(I:Inv X pins σ H s)(hH:H l=some (.lst xs))
 (e:s.heap.get? l=some {cls:=.type "list",data:=.seq ci.toArray n})(hf:f ci.toArray=its'.toArray)(hv:Vals ys its')(hz:ys.length<=sizeLine):
 Inv X pins σ (upd H l (.lst ys)) {s with heap:=s.heap.update l (aX f),toks:=t'}:=by
 have q:=PySem.IsL.update e f
 rw[hf]at q
 refine I.write (x:=l) (e:=l) (by rw[hH];exact trivial) (.inl rfl) (λb' u hb hu=>(mE s.heap (aX f) (dS hb)).trans hu) ⟨_,q⟩ ?_
 exact⟨hz,its',_,hv,q⟩
theorem Inv.ado{ci:List al}{t':Nat}(I:Inv X pins σ H s)(hv:Vals ys ci)(hz:ys.length<=sizeLine):
 Inv X pins σ (upd H s.heap.objs.size (.lst ys)) {s with heap:=s.heap.push {cls:=.type "list",data:=.seq ci.toArray},toks:=t'}:=
 I.laid (λ_ _ q=>P5 _ q) (nn _) ⟨hz,ci,0,hv,Tl _ rfl⟩
theorem Inv.fresh(I:Inv X pins σ H s):H s.heap.objs.size=none:=I.ab.fresh (nn _)
theorem Inv.oZ(I:Inv X pins σ H s)(hH:H l=some (.lst xs)):xs.length<=sizeLine/\∃(ci:List al)(n:Nat),Vals xs ci/\xs.length=ci.length/\s.heap.get? l=some {cls:=.type "list",data:=.seq ci.toArray n}:=by
 obtain⟨z,ci,n,r,e⟩:=I.ab l _ hH
 exact⟨z,ci,n,r,r.length,e⟩
theorem Y7{n:Nat}(h:n<=sizeLine):F5 n=false:=by
 unfold F5
 exact decide_eq_false (by lia)
end
section
variable{X:Cx}
def aaE:V->List V->Hp->VK->Prop:=λx vs H Q=>∃l xs y,x=.ref l/\vs=[y]/\H l=some (.lst xs)/\xs.length<sizeLine/\Q .ag (upd H l (.lst (xs++[y])))
theorem iQ:Fs X "list.append" aaE:=by
 intro pins s σ H x vs v us Q I rx rv h
 obtain⟨l,xs,y,rfl,rfl,hH,hz,q⟩:=h
 cases rx
 obtain⟨u,rfl,ru⟩:=rv.one
 obtain⟨z,ci,n,r,hl,e⟩:=I.oZ hH
 refine DW F.slot_list_append ⟨_,e,rfl⟩ F.entry_list_append (F.args_list_append_2 _ _) (PySem.list_append l ci.toArray n u (by rw[XV];lia)) ⟨e,?_⟩
 refine⟨.ag,_,I.E_ (its':=ci++[u]) hH e (by simp) (r.append (.cons ru .nil)) ?_,rfl,q⟩
 rw[Rs,fW]
 lia
def MP:V->List V->Hp->VK->Prop:=λx vs H Q=>∃l b xs zs,x=.ref l/\vs=[.ref b]/\H l=some (.lst xs)/\H b=some (.lst zs)/\xs.length+zs.length<=sizeLine/\Q .ag (upd H l (.lst (xs++zs)))
theorem kU:Fs X "list.extend" MP:=by
 intro pins s σ H x vs v us Q I rx rv h
 obtain⟨l,b,xs,zs,rfl,rfl,hH,hB,hz,q⟩:=h
 cases rx
 obtain⟨u,rfl,ru⟩:=rv.one
 cases ru
 obtain⟨z,ci,n,r,hl,e⟩:=I.oZ hH
 obtain⟨z2,its2,n2,r2,hl2,e2⟩:=I.oZ hB
 have hsz:ci.toArray.size+its2.toArray.size<=sizeLine:=by rw[XV,XV];lia
 have acC:¬(!ci.toArray.isEmpty&&F5 (ci.toArray.size+its2.toArray.size))=true:=by
  rw[Y7 hsz,J_]
  exact bI
 refine DW F.slot_list_extend ⟨_,e,rfl⟩ F.entry_list_extend (F.args_list_extend_2 _ _)
  (AutoSeq1.list_extend_list_list_0 l ci.toArray n b its2.toArray n2 acC (by rw[XV];lia) (by lia)) ⟨e,e2,?_⟩
 refine⟨.ag,_,I.E_ (its':=ci++its2) hH e (by simp) (r.append r2) ?_,rfl,q⟩
 rw[Rs]
 lia
def adu:V->List V->Hp->VK->Prop:=λx vs H Q=>∃l xs y,x=.ref l/\vs=[]/\H l=some (.lst xs)/\xs[xs.length-1]? =some y/\Q y (upd H l (.lst xs.dropLast))
theorem abx:Fs X "list.pop" adu:=by
 intro pins s σ H x vs v us Q I rx rv h
 obtain⟨l,xs,y,rfl,rfl,hH,hy,q⟩:=h
 cases rx
 have wE:=rv.zero
 subst wE
 obtain⟨z,ci,n,r,hl,e⟩:=I.oZ hH
 obtain⟨u,hu,ru⟩:=r.get hy
 have hy':ci.toArray[ci.toArray.size-1]? =some u:=by
  show ci.toArray[ci.length-1]? =some u
  rw[<-de,<-hl]
  exact hu
 refine DW F.slot_list_pop ⟨_,e,rfl⟩ F.entry_list_pop (F.args_list_pop_1 _) (MeetsSeq.list_pop_last l ci.toArray n u hy' (by rw[XV];lia)) ⟨e,?_⟩
 refine⟨y,_,I.E_ (its':=ci.dropLast) hH e ?_ r.dropLast ?_,ru,q⟩
 .show ci.toArray.eraseIdxIfInBounds (ci.toArray.size-1)=ci.dropLast.toArray
  rw[XV,List.eraseIdxIfInBounds_toArray,VX]
 .rw[List.length_dropLast]
  lia
def adt:R2:=λx y H Q=>∃l b xs zs,x=.ref l/\y=.ref b/\H l=some (.lst xs)/\H b=some (.lst zs)/\xs.length+zs.length<=sizeLine/\∀p,H p=none->Q (.ref p) (upd H p (.lst (xs++zs)))
theorem gj:aM X (binaryOp .Add) adt:=by
 intro pins s σ H x y v u Q I rx ry h
 obtain⟨l,b,xs,zs,rfl,rfl,hH,hB,hz,q⟩:=h
 cases rx
 cases ry
 obtain⟨z,ci,n,r,hl,e⟩:=I.oZ hH
 obtain⟨z2,its2,n2,r2,hl2,e2⟩:=I.oZ hB
 refine PySem.P.add_list e e2 ?_ (by rw[XV,XV];lia)
 have ea:ci.toArray++its2.toArray=(ci++its2).toArray:=by simp
 rw[ea]
 exact⟨.ref _,_,I.ado (t':=s.toks) (r.append r2) (by rw[Rs];lia),rfl,q _ I.fresh⟩
end
section
variable{prog:lw}{w:li}{A:ww}{E:al->ap->Prop}{s:ap}
end
section
variable{X:Cx}
end
end L2
namespace L2
open PySem PySem.Spec PyProof.Rows
theorem Vals.ints:∀{ns:List Int}{us:List al},Vals (ns.map V.int) us->dU us ns
 |[],us,h=>by
  rw[gO]at h
  cases h
  exact IntsAre.nil
 |n::ns,us,h=>by
  rw[FS]at h
  cases h with
  |cons r t=>
   obtain⟨k,rfl⟩:=r
   exact IntsAre.cons n k (Vals.ints t)
theorem Ae:∀{us:List al}{ns:List Int},dU us ns->Vals (ns.map V.int) us
 |_,_,.nil=>by rw[gO];exact Paired.nil
 |_,_,.cons n t h=>by rw[FS];exact Paired.cons (show RelV (V.int n) (eO n t)from⟨t,rfl⟩) (Ae h)
theorem Vals.O9:∀{bs:List Bool}{us:List al},Vals (bs.map V.bl) us->us=bs.map nT
 |[],us,h=>by
  rw[gO]at h
  cases h
  rfl
 |b::bs,us,h=>by
  rw[FS]at h
  cases h with
  |cons r t=>
   cases r
   rw[Vals.O9 t,FS]
theorem Vals.d4{a:ac}{us:List al}(r:Vals [V.ref a] us):us=[im a]:=by
 cases r with
 |cons r t=>
  cases t
  cases r
  rfl
section
variable{prog:lw}{w:li}{A:ww}{E:al->ap->Prop}{s:ap}{l:ac}{ci:List al}{ns:List Int}{Q:al->ap->Prop}
theorem aaM(hh:A.handled=none)(hl:s.heap.IsList l ci.toArray)(hi:dU ci ns)
 (h:∀h' tk t',(∀b o,s.heap.get? b=some o->h'.get? b=some o)->Q (.int ns.sum t') {s with heap:=h',toks:=tk}):wpAny (model prog w) A (call (.builtin "sum") [.ref l]) Q E s:=by
 obtain⟨xs,e⟩:=hi.allInts.items
 have hn:numsOf (intItems xs).toList=ns:=by rw[<-e];exact hi.numsOf
 rw[Mb]at hn
 rw[e]at hl
 refine PySem.sum_intListG hh hl λh' tk t' hk=> ?_
 have:=h h' tk t' hk
 rw[preSum_eq,ki (by simp),hn];exact this
theorem aaj(hh:A.handled=none)(hl:s.heap.IsList l ci.toArray)(hi:dU ci ns)(bn:0<ns.length)
 (h:∀h' tk M t',(∀b o,s.heap.get? b=some o->h'.get? b=some o)->M∈ns->(∀a,a∈ns->a<=M)->Q (.int M t') {s with heap:=h',toks:=tk}):wpAny (model prog w) A (call (.builtin "max") [.ref l]) Q E s:=by
 obtain⟨xs,e⟩:=hi.allInts.items
 have hn:numsOf (intItems xs).toList=ns:=by rw[<-e];exact hi.numsOf
 rw[Mb]at hn
 subst hn
 rw[e]at hl
 have hsz:0<xs.size:=by simpa using bn
 refine PySem.max_intList hh hl hsz λv h' tk hv hk=> ?_
 obtain⟨t,rfl⟩:=intItems_at hv
 obtain⟨h1,h2⟩:=argBest_gt (numAt xs) (xs.size-1)
 refine h h' tk _ t hk ?_ λa ha=> ?_
 .rw[numAt_eq];exact PySem.getD_mem (by rw[dL,wr];lia)
 .obtain⟨j,hj,rfl⟩:=mem_getD ha
  rw[dL,wr]at hj
  rw[<-numAt_eq];exact h2 j (by lia)
theorem aal(hh:A.handled=none)(hl:s.heap.IsList l ci.toArray)(hi:dU ci ns)(bn:0<ns.length)
 (h:∀h' tk M t',(∀b o,s.heap.get? b=some o->h'.get? b=some o)->M∈ns->(∀a,a∈ns->M<=a)->Q (.int M t') {s with heap:=h',toks:=tk}):wpAny (model prog w) A (call (.builtin "min") [.ref l]) Q E s:=by
 obtain⟨xs,e⟩:=hi.allInts.items
 have hn:numsOf (intItems xs).toList=ns:=by rw[<-e];exact hi.numsOf
 rw[Mb]at hn
 subst hn
 rw[e]at hl
 have hsz:0<xs.size:=by simpa using bn
 refine PySem.min_intList hh hl hsz λv h' tk hv hk=> ?_
 obtain⟨t,rfl⟩:=intItems_at hv
 obtain⟨h1,h2⟩:=argBest_lt (numAt xs) (xs.size-1)
 refine h h' tk _ t hk ?_ λa ha=> ?_
 .rw[numAt_eq];exact PySem.getD_mem (by rw[dL,wr];lia)
 .obtain⟨j,hj,rfl⟩:=mem_getD ha
  rw[dL,wr]at hj
  rw[<-numAt_eq];exact h2 j (by lia)
end
section
variable{X:Cx}
def OP(K:ge):List V->Hp->VK->Prop:=λvs H Q=>∃(a:ac)(ns:List Int),vs=[V.ref a]/\aa K H a (ns.map V.int)/\Q (.int ns.sum) H
def Fe(K:ge):List V->Hp->VK->Prop:=λvs H Q=>∃(a:ac)(ns:List Int),vs=[V.ref a]/\aa K H a (ns.map V.int)/\0<ns.length/\∀m,m∈ns->(∀y,y∈ns->y<=m)->Q (.int m) H
def Ff(K:ge):List V->Hp->VK->Prop:=λvs H Q=>∃(a:ac)(ns:List Int),vs=[V.ref a]/\aa K H a (ns.map V.int)/\0<ns.length/\∀m,m∈ns->(∀y,y∈ns->m<=y)->Q (.int m) H
theorem abf(hc:X.calm=true):ak X (.builtin "sum") (OP X.K):=by
 intro pins s σ H vs us Q I r h
 obtain⟨a,ns,rfl,hs,q⟩:=h
 obtain⟨ci,rv,hl,_⟩:=I.list hs
 rw[Vals.d4 r]
 exact aaM (I.ok.hd hc) hl.isList rv.ints λh' tk t' hk=>⟨.int _,H,I.kept hk,⟨_,rfl⟩,q⟩
theorem abd(hc:X.calm=true):ak X (.builtin "max") (Fe X.K):=by
 intro pins s σ H vs us Q I r h
 obtain⟨a,ns,rfl,hs,bn,q⟩:=h
 obtain⟨ci,rv,hl,_⟩:=I.list hs
 rw[Vals.d4 r]
 exact aaj (I.ok.hd hc) hl.isList rv.ints bn λh' tk m t' hk h1 h2=>⟨.int _,H,I.kept hk,⟨_,rfl⟩,q m h1 h2⟩
theorem abe(hc:X.calm=true):ak X (.builtin "min") (Ff X.K):=by
 intro pins s σ H vs us Q I r h
 obtain⟨a,ns,rfl,hs,bn,q⟩:=h
 obtain⟨ci,rv,hl,_⟩:=I.list hs
 rw[Vals.d4 r]
 exact aal (I.ok.hd hc) hl.isList rv.ints bn λh' tk m t' hk h1 h2=>⟨.int _,H,I.kept hk,⟨_,rfl⟩,q m h1 h2⟩
def MQ(K:ge):List V->Hp->VK->Prop:=λvs H Q=>∃(a:ac)(ns:List Int),vs=[V.ref a]/\aa K H a (ns.map V.int)/\ns.length<64/\
 ∀(ns':List Int)(p:ac),ns'.Perm ns->ns'.Pairwise (·<=·)->H p=none->Q (.ref p) (upd H p (.lst (ns'.map V.int)))
theorem aaL{n:Nat}(h:n<64):n<=sizeLine:=by rw[bu];lia
theorem Xe:ak X (.builtin "sorted") (MQ X.K):=by
 intro pins s σ H vs us Q I r h
 obtain⟨a,ns,rfl,hs,h64,q⟩:=h
 obtain⟨ci,rv,hl,_⟩:=I.list hs
 rw[Vals.d4 r]
 have hi:=rv.ints
 refine PyProof.Rows.sorted_ints hl.isList hi (by rw[hi.length];exact h64) λout ns' h1 h2 h3=> ?_
 obtain⟨ep,he'⟩:=QE s.heap ci out
 have hlen:(ns'.map V.int).length<=sizeLine:=by rw[dL,h2.length_eq];exact aaL h64
 exact⟨.ref _,upd H (s.heap.objs.size+1) (.lst (ns'.map V.int)),I.laid (t':=s.toks) (λ_ _=>Qv) (gg _) ⟨hlen,out.toList,ep,Ae h1,he'⟩,rfl,q ns' _ h2 h3 (I.ab.fresh (gg _))⟩
end
section
variable{X:Cx}
end
section
variable{X:Cx}
end
theorem YO{prog:lw}{w:li}{A:ww}{E:al->ap->Prop}{s:ap}{l:ac}{items:Array al}{Q:al->ap->Prop}(hl:s.heap.IsList l items)
 (h:∀s₂:ap,s₂={s with heap:=s.heap.push {cls:=.type "list_iterator",data:=.fields #[.ref l,.int 0 0]}}->
   (s₂.heap.IsListIter s.heap.objs.size l 0/\s₂.heap.IsList l items)->l≠s.heap.objs.size->Q (.ref s.heap.objs.size) s₂):wpAny (model prog w) A (pyIter (.ref l)) Q E s:=by
 have rc:l<s.heap.objs.size:=by obtain⟨_,e,_⟩:=hl;exact FB e
 exact An hl (h _ rfl ⟨⟨_,Tl _ rfl,rfl,rfl⟩,hl.push _⟩ (Ps rc))
theorem Vf{prog:lw}{w:li}{A:ww}{bs:List Bool}{ci:List al}(e:ci=bs.map nT):
 TruthOf prog w A (λi v=>ci.toArray[i]? =some v) (λi=>bs.getD i false):=λi v s Q E hv hq=>by
 have hv':ci[i]? =some v:=by simpa using hv
 rw[e,wP]at hv'
 obtain⟨b,hb,rfl⟩:=kh.mp hv'
 have hg:bs.getD i false=b:=by rw[Sc,hb]<;>rfl
 have hq':Q (bs.getD i false) s:=hq
 rw[hg]at hq'
 exact iJ hq'
theorem any_range:∀bs:List Bool,(sw bs.length).any (λi=>bs.getD i false)=bs.any id
 |[]=>rfl
 |b::bs=>by
  rw[Os,x9,uX,List.any_map,uX,<-any_range bs]
  all_goals rfl
theorem all_range:∀bs:List Bool,(sw bs.length).all (λi=>bs.getD i false)=bs.all id
 |[]=>rfl
 |b::bs=>by
  rw[Os,x9,List.all_cons,BW,List.all_cons,<-all_range bs]
  all_goals rfl
section
variable{X:Cx}
def ON(K:ge):List V->Hp->VK->Prop:=λvs H Q=>∃(a:ac)(bs:List Bool),vs=[V.ref a]/\aa K H a (bs.map V.bl)/\Q (.bl (bs.all id)) H
theorem abc(hc:X.calm=true):ak X (.builtin "all") (ON X.K):=by
 intro pins s σ H vs us Q I r h
 obtain⟨a,bs,rfl,hs,q⟩:=h
 obtain⟨ci,rv,hl,_⟩:=I.list hs
 rw[Vals.d4 r]
 have hb:=rv.O9
 refine call_all_walk (YO hl.isList λs₂ e2 st bn=> ?_)
 subst e2
 refine⟨_,_,_,_,_,_,_,rfl,C9 (A:=X.A.in1) (I.ok.hd hc) _ a bn ci.toArray,st,Vf hb,λh' tk hk=> ?_⟩
 refine⟨.bl _,H,I.kept λb o eo=>hk b o (λbo=> ?_) (P5 _ eo),?_,q⟩
 .rcases wl.mp bo with e1|bo
  .exact absurd (e1▸FB eo) (f9 _)
  .cases bo
 .show nT _=nT _
  rw[<-all_range,hb,XV,dL]
end
mutual
inductive Dp (K:ge) (H:Hp):V->lK->Prop
 |ag:Dp K H .ag .none
 |bl (b:Bool):Dp K H (.bl b) (.bool b)
 |int (i:Int):Dp K H (.int i) (.int i)
 |str (x:Str):Dp K H (.str x) (.str x)
 |lst {a:ac} {xs:List V} {ds:List lK}:aa K H a xs->ly K H xs ds->Dp K H (.ref a) (.list ds)
 |tup {a:ac} {xs:List V} {ds:List lK}:P3 K H a xs->ly K H xs ds->Dp K H (.ref a) (.tuple ds)
inductive ly (K:ge) (H:Hp):List V->List lK->Prop
 |nil:ly K H [] []
 |cons {v:V} {vs:List V} {d:lK} {ds:List lK}:Dp K H v d->ly K H vs ds->ly K H (v::vs) (d::ds)
end
section
variable{X:Cx}{pins:List (ac×Obj)}{σ:St}{H:Hp}{s:ap}
mutual
theorem Dp.reads(I:Inv X pins σ H s):∀(d:lK)(v:V)(u:al),Dp X.K H v d->RelV v u->∃as,Reads s.heap u d as
 |.none,_,_,h,r=>by
  cases h
  cases r
  exact⟨_,Reads.none⟩
 |.bool b,_,_,h,r=>by
  cases h
  cases r
  exact⟨_,Reads.bool b⟩
 |.int i,_,_,h,r=>by
  cases h
  obtain⟨t,rfl⟩:=r
  exact⟨_,Reads.int i t⟩
 |.str x,_,_,h,r=>by
  cases h
  obtain⟨t,rfl⟩:=r
  exact⟨_,Reads.str x t⟩
 |.list ds,_,_,h,r=>by
  cases h with
  |lst hs ha=>
   cases r
   obtain⟨ci,rv,⟨o,n,ho,hc,_,hd⟩,_⟩:=I.list hs
   obtain⟨as,hr⟩:=Dp.readsAll I ds _ ci ha rv
   exact⟨_,Reads.list ho hc hd hr⟩
 |.tuple ds,_,_,h,r=>by
  cases h with
  |tup hs ha=>
   cases r
   obtain⟨ci,rv,⟨o,ho,hc,n,hd⟩,_⟩:=I.tuple hs
   obtain⟨as,hr⟩:=Dp.readsAll I ds _ ci ha rv
   exact⟨_,Reads.tuple ho hc hd hr⟩
 |.dict _,_,_,h,_=>by cases h
theorem Dp.readsAll(I:Inv X pins σ H s):∀(ds:List lK)(vs:List V)(us:List al),ly X.K H vs ds->Vals vs us->∃as,ReadsAll s.heap us ds as
 |[],_,_,h,r=>by
  cases h
  cases r
  exact⟨_,ReadsAll.nil⟩
 |d::ds,_,_,h,r=>by
  cases h with
  |cons h1 h2=>
   cases r with
   |cons r1 r2=>
    obtain⟨as,q1⟩:=Dp.reads I d _ _ h1 r1
    obtain⟨bs,q2⟩:=Dp.readsAll I ds _ _ h2 r2
    exact⟨_,ReadsAll.cons q1 q2⟩
end
end
section
variable{X:Cx}
end
end L2
namespace L2
open PySem PySem.Spec PyProof.Rows
abbrev Na(h:io)(c:ac)(v:Option al):Prop:=h.IsCell c v
noncomputable def adv(scope sc:aK):aK:=
 {scope with names:=scope.names.map λ(n,k)=>if(k== .free&&sc.kind== .function&&sc.names.lookup n==some .cell)then(n,.cell)else(n,k)}
noncomputable def bJ(cells:List (Str×ac)):List (Str×dO)->List (Str×ac)->List (Str×ac)
 |[],acc=>acc
 |(n,k)::r,acc=>if k== .free then bJ cells r ((n,(cells.lookup n).getD 0)::acc)else bJ cells r acc
theorem Ib(env:Env)(f:Str×dO->List (Str×ac)->Sem (ForInStep (List (Str×ac))))
 (hf:∀n k c,f (n,k) c=if k== .free then(do let a <-cellOf env n;pure (.yield ((n,a)::c)))else pure (.yield c)):
 ∀(names:List (Str×dO))(acc:List (Str×ac)),(∀y∈names,y.2=.free->∃c,env.cells.lookup y.1=some c)->forIn names acc f=pure (bJ env.cells names acc)
 |[],acc,_=>by rw[List.forIn_nil];rfl
 |(n,k)::r,acc,h=>by
  rw[List.forIn_cons,hf]
  have ih:=λacc=>Ib env f hf r acc λy hy=>h y (AT _ hy)
  unfold bJ
  by_cases hk:(k==qh)=true
  .rw[if_pos hk,if_pos hk]
   obtain⟨c,hc⟩:=h (n,k) Go (by simpa using hk)
   have e:cellOf env n=pure c:=by unfold cellOf;rw[hc]
   rw[e]
   have e2:(env.cells.lookup n).getD 0=c:=by rw[hc];rfl
   rw[e2]
   exact ih _
  .rw[if_neg hk,if_neg hk]
   exact ih _
theorem VR{scope:aK}{env:Env}(h:∀y∈scope.names,y.2=.free->∃c,env.cells.lookup y.1=some c):closureFor scope env=pure (bJ env.cells scope.names []):=by
 simp only[closureFor]
 rw[Ib env _ (λn k c=>rfl) scope.names [] h]
 rfl
theorem mem_lookup{α:Type}:∀{l:List (Str×α)}{n:Str}{c:α},(n,c)∈l->∃c',l.lookup n=some c'
 |(k,v)::r,n,c,h=>by
  rw[kD]
  cases hb:n==k with
  |true=>exact⟨_,rfl⟩
  |false=>
   rcases wl.mp h with e|h
   .cases e;simp at hb
   .exact mem_lookup h
theorem uO{cells:List (Str×ac)}:∀{names:List (Str×dO)}{acc:List (Str×ac)}{n:Str}{c:ac},(n,c)∈bJ cells names acc->(n,c)∈acc\/((n,.free)∈names/\c=(cells.lookup n).getD 0)
 |[],_,_,_,h=>.inl h
 |(m,k)::r,acc,n,c,h=>by
  unfold bJ at h
  split at h
  .rename_i hk
   have hk:k=.free:=by simpa using hk
   rcases uO h with h|⟨h1,h2⟩
   .rcases wl.mp h with e|h
    .cases e;exact .inr ⟨hk▸Go,rfl⟩
    .exact .inl h
   .exact .inr ⟨AT _ h1,h2⟩
  .rcases uO h with h|⟨h1,h2⟩
   .exact .inl h
   .exact .inr ⟨AT _ h1,h2⟩
theorem AA{cells:List (Str×ac)}:∀{names:List (Str×dO)}{acc:List (Str×ac)}{p:Str×ac},p∈acc->p∈bJ cells names acc
 |[],_,_,h=>h
 |(m,k)::r,acc,p,h=>by
  unfold bJ
  split
  .exact AA (AT _ h)
  .exact AA h
theorem AB{cells:List (Str×ac)}:∀{names:List (Str×dO)}{acc:List (Str×ac)}{n:Str},(n,.free)∈names->(n,(cells.lookup n).getD 0)∈bJ cells names acc
 |(m,k)::r,acc,n,h=>by
  unfold bJ
  rcases wl.mp h with e|h
  .cases e
   exact AA Go
  .split
   .exact AB h
   .exact AB h
theorem qH:∀{names:List (Str×dO)}{h:io}{acc:List (Str×ac)}{x:Str}{c:ac},(x,c)∈cellsFrom h.objs.size names acc->
 (x,c)∈acc\/((x,.cell)∈names/\h.objs.size<=c/\Na (pushCells h names) c none)
 |[],_,_,_,_,h=>.inl h
 |(n,k)::r,h,acc,x,c,hm=>by
  unfold cellsFrom at hm
  unfold pushCells
  split at hm
  .rename_i hk
   rw[if_pos hk]
   have hk:k=.cell:=by simpa using hk
   rw[<-eL h {cls:=.type "cell",data:=.cell none}]at hm
   rcases qH hm with hm|⟨h1,h2,h3⟩
   .rcases wl.mp hm with e|hm
    .cases e
     exact .inr ⟨hk▸Go,nn _,_,A_ r _ _ _ (Tl _ rfl),rfl⟩
    .exact .inl hm
   .rw[eL]at h2
    exact .inr ⟨AT _ h1,zx h2,h3⟩
  .rename_i hk
   rw[if_neg hk]
   rcases qH hm with hm|⟨h1,h2,h3⟩
   .exact .inl hm
   .exact .inr ⟨AT _ h1,h2,h3⟩
theorem vC:∀{names:List (Str×dO)}{n:Nat}{acc:List (Str×ac)}{p:Str×ac},p∈acc->p∈cellsFrom n names acc
 |[],_,_,_,h=>h
 |(m,k)::r,n,acc,p,h=>by
  unfold cellsFrom
  split
  .exact vC (AT _ h)
  .exact vC h
theorem B1:∀{names:List (Str×dO)}{n:Nat}{acc:List (Str×ac)}{x:Str},(x,.cell)∈names->∃c,(x,c)∈cellsFrom n names acc
 |(m,k)::r,n,acc,x,h=>by
  unfold cellsFrom
  rcases wl.mp h with e|h
  .cases e
   exact⟨n,vC Go⟩
  .split
   .exact B1 h
   .exact B1 h
theorem B2:∀{names:List (Str×dO)}{h:io}{acc:List (Str×ac)}{x y:Str}{c:ac},(∀p∈acc,p.2<h.objs.size)->(∀x y c,(x,c)∈acc->(y,c)∈acc->x=y)->
 (x,c)∈cellsFrom h.objs.size names acc->(y,c)∈cellsFrom h.objs.size names acc->x=y
 |[],_,_,_,_,_,_,hi,h1,h2=>hi _ _ _ h1 h2
 |(n,k)::r,h,acc,x,y,c,hl,hi,h1,h2=>by
  unfold cellsFrom at h1 h2
  split at h1
  .rename_i hk
   rw[if_pos hk]at h2
   rw[<-eL h {cls:=.type "cell",data:=.cell none}]at h1 h2
   refine B2 (h:=h.push _) (λp hp=> ?_) (λx y c a b=> ?_) h1 h2
   .rw[eL]
    rcases wl.mp hp with rfl|hp
    .exact uk _
    .exact iI (hl p hp)
   .rcases wl.mp a with e|a<;>rcases wl.mp b with e'|b
    .cases e;cases e';rfl
    .cases e;exact absurd (hl _ b) (f9 _)
    .cases e';exact absurd (hl _ a) (f9 _)
    .exact hi _ _ _ a b
  .rename_i hk
   rw[if_neg hk]at h2
   exact B2 hl hi h1 h2
theorem UP{M:Model}{A:ww}{E:al->ap->Prop}{s:ap}{scope:aK}{globals:ac}{closure:List (Str×ac)}{qual:Str}{func:Option ac}{code:al}{around:Env}{builtins:ac}{Q:Env->ap->Prop}
 (h:Q (newEnv scope s.heap.objs.size globals (cellsFrom (s.heap.objs.size+1) scope.names closure) qual func code (some around) builtins)
   {s with heap:=pushCells (s.heap.push {cls:=.type "dict",data:=.dict #[]}) scope.names}):
 wpAny M A (newFunctionEnv scope globals closure [] qual func code (some around) builtins) Q E s:=by
 simp only[newFunctionEnv,yE,if_true]
 refine bd (wpAny_alloc ?_)
 refine bd (wpAny_layCells _ (λn k c=>rfl) scope.names closure _ _ ?_)
 rw[show({s with heap:=s.heap.push {cls:=.type "dict",data:=.dict #[]}}:ap).heap.objs.size=s.heap.objs.size+1 from eL ..]
 rw[List.forIn_nil]
 exact bd (eg (eg h))
theorem AM{sc:aK}:∀{names:List (Str×dO)}{x:Str}{k:dO},
 (names.map λ(n,k)=>if(k==qh&&sc.kind== .function&&sc.names.lookup n==some .cell)then(n,Jw)else(n,k)).lookup x=some k->
 ∃k',names.lookup x=some k'/\(k=k'\/(k'=.free/\k=.cell))
 |[],_,_,h=>by simp at h
 |(n,k₀)::r,x,k,h=>by
  have ih:= @AM sc r x k
  have h':kQ x ((if(k₀==qh&&sc.kind== .function&&sc.names.lookup n==some .cell)=true then(n,Jw)else(n,k₀))::(r.map _))=some k:=h
  cases hx:x==n with
  |true=>
   simp only[kD,hx]
   by_cases hc:(k₀==qh&&sc.kind== .function&&sc.names.lookup n==some .cell)=true
   .rw[if_pos hc]at h'
    simp only[kD,hx]at h'
    cases h'
    simp only[cQ,beq_iff_eq]at hc
    exact⟨k₀,rfl,.inr ⟨hc.1.1,rfl⟩⟩
   .rw[if_neg hc]at h'
    simp only[kD,hx]at h'
    cases h'
    exact⟨_,rfl,.inl rfl⟩
  |false=>
   simp only[kD,hx]
   by_cases hc:(k₀==qh&&sc.kind== .function&&sc.names.lookup n==some .cell)=true
   .rw[if_pos hc]at h'
    simp only[kD,hx]at h'
    exact ih h'
   .rw[if_neg hc]at h'
    simp only[kD,hx]at h'
    exact ih h'
structure rp (N:List Str) (sc scope:aK) (own:List (Str×Nat)):Prop where
 kind:scope.kind=.function
 uniq:∀y∈scope.names,scope.names.lookup y.1=some y.2
 ix:∀p∈own,N[p.2]? =some p.1
 free:∀y∈scope.names,y.2=.free->sc.names.lookup y.1=some .cell\/sc.names.lookup y.1=some .free
 own:∀y∈scope.names,y.2=.local\/y.2=.cell->y.1∈own.map (·.1)\/y.1∉N
noncomputable def wipe(σ:St):List Nat->St
 |[]=>σ
 |v::vs=>(wipe σ vs).set v none
theorem A6(σ:St):∀vs:List Nat,(wipe σ vs).length=σ.length
 |[]=>rfl
 |v::vs=>by unfold wipe;rw[uq,A6 σ vs]
theorem Cq{σ:St}{i:Nat}{x:V}:∀{vs:List Nat},(wipe σ vs)[i]? =some (some x)->σ[i]? =some (some x)/\i∉vs
 |[],h=>⟨h,by simp⟩
 |v::vs,h=>by
  unfold wipe at h
  by_cases hi:v=i
  .subst hi
   by_cases hv:v<(wipe σ vs).length
   .rw[GS hv]at h;cases h
   .rw[GX (by simpa using hv)]at h;cases h
  .rw[Hh hi]at h
   obtain⟨h1,h2⟩:=Cq h
   exact⟨h1,by simp only[wl,not_or];exact⟨λe=>hi e.symm,h2⟩⟩
noncomputable abbrev Cx.cv(X:Cx)(s:ap)(H:Hp)(scope:aK)(aB:Env)(fp:List ac):Cx:={X with bY:=s,lY:=H,env:=aB,outer:=X.stack,ex:=fp,fn:=λx=>scope.names.lookup x==some .cell,pn:=[],xe:=λ_ _=>False}
section
variable{X:Cx}{pins:List (ac×Obj)}{σ:St}{H:Hp}{s:ap}
theorem Ux{scope:aK}{own:List (Str×Nat)}{fp:List ac}(I:Inv X pins σ H s)(ok:rp X.N X.env.scope scope own)(hN:X.N.Nodup)(pA:∀b∈fp,gk X pins H b/\b<s.heap.objs.size):
 Inv (X.cv s H scope (compEnvC scope (cellsFrom (s.heap.objs.size+1) scope.names (bJ X.env.cells scope.names [])) s.heap.objs.size X.env) fp) [] (wipe σ (own.map (·.2))) H {s with heap:=pushCells (s.heap.push {cls:=.type "dict",data:=.dict #[]}) scope.names}:=by
 have oK:∀y∈scope.names,y.2=.free->∃c,X.env.cells.lookup y.1=some c:=λy hy e=>by
  rcases ok.free y hy e with k|k
  .exact I.ok.has _ (.inl k)
  .exact I.ok.has _ (.inr k)
 generalize rB:compEnvC scope (cellsFrom (s.heap.objs.size+1) scope.names (bJ X.env.cells scope.names [])) s.heap.objs.size X.env=aB
 have kp:∀b o,s.heap.get? b=some o->(pushCells (s.heap.push {cls:=.type "dict",data:=.dict #[]}) scope.names).get? b=some o:=λb o e=>A_ _ _ _ _ (P5 _ e)
 have hL:aB.locals=s.heap.objs.size:=by rw[<-rB];rfl
 have bG:aB.cells=cellsFrom (s.heap.objs.size+1) scope.names (bJ X.env.cells scope.names []):=by rw[<-rB];rfl
 have FQ:aB.scope=adv scope X.env.scope:=by rw[<-rB];rfl
 rw[<-eL s.heap {cls:=.type "dict",data:=.dict #[]}]at bG
 have cm:∀{y c},(y,c)∈bJ X.env.cells scope.names []->X.env.cells.lookup y=some c/\c<s.heap.objs.size:=λ{y c}hm=>by
  rcases uO hm with hm|⟨h1,rfl⟩
  .cases hm
  .obtain⟨c,hc⟩:=oK _ h1 rfl
   rw[hc]
   obtain⟨w,z⟩:=I.cell _ _ hc
   exact⟨rfl,z.lt⟩
 have mem:∀{y c},aB.cells.lookup y=some c->(X.env.cells.lookup y=some c/\c<s.heap.objs.size)\/(s.heap.objs.size+1<=c/\Na (pushCells (s.heap.push {cls:=.type "dict",data:=.dict #[]}) scope.names) c none):=λ{y c}e=>by
  rw[bG]at e
  rcases qH (d_ e)with hm|⟨_,h2,h3⟩
  .exact .inl (cm hm)
  .rw[eL]at h2;exact .inr ⟨h2,h3⟩
 have look:∀{y},scope.names.lookup y=some .free->∃c,aB.cells.lookup y=some c/\X.env.cells.lookup y=some c:=λ{y}hl=>by
  have hy:(y,qh)∈scope.names:=d_ hl
  obtain⟨c',e'⟩:=mem_lookup (vC (names:=scope.names) (n:=(s.heap.push {cls:=.type "dict",data:=.dict #[]}).objs.size) (AB (cells:=X.env.cells) (acc:=[]) hy))
  rw[<-bG]at e'
  refine⟨c',e',?_⟩
  rw[bG]at e'
  rcases qH (d_ e')with hm|⟨h1,_,_⟩
  .exact(cm hm).1
  .have:=ok.uniq _ h1
   rw[hl]at this;cases this
 have okB:(X.cv s H scope aB fp).Ok:=by
  refine⟨I.ok.mod,by show aB.scope.kind=_;rw[FQ];exact ok.kind,by show aB.globals=_;rw[<-rB];exact I.ok.glob,by show aB.builtins=_;rw[<-rB];exact I.ok.blt,by show s.heap.objs.size<=aB.locals;rw[hL];exact nn _,
   λy z c e1 e2=> ?_,λy hy=> ?_,λy c z e=> ?_,I.ok.hd,I.ok.frames,.inl rfl,λb hb=>⟨?_,λy c e z=> ?_⟩,I.bs,Ch I.ok.ip I.sz,λb o e hb=> ?_,λb hb z=> ?_,I.stack,I.MX⟩
  .have e1:aB.cells.lookup y=some c:=e1
   have e2:aB.cells.lookup z=some c:=e2
   rw[bG]at e1 e2
   refine B2 (λp hp=> ?_) (λy z c a b=>I.ok.inj y z c (cm a).1 (cm b).1) (d_ e1) (d_ e2)
   rw[eL]
   exact iI (cm (y:=p.1) (c:=p.2) hp).2
  .show ∃c,aB.cells.lookup y=some c
   have key:∀k,aB.kindOf y=some k->(k=.cell\/k=.free)->∃c,aB.cells.lookup y=some c:=λk hk hk'=>by
    unfold Env.kindOf at hk
    rw[FQ]at hk
    obtain⟨k',e,r⟩:=AM hk
    have:k'=.cell\/k'=.free:=by
     rcases r with rfl|⟨rfl,_⟩
     .exact hk'
     .exact .inr rfl
    rcases this with rfl|rfl
    .obtain⟨c,hm⟩:=B1 (n:=(s.heap.push {cls:=.type "dict",data:=.dict #[]}).objs.size) (acc:=bJ X.env.cells scope.names []) (d_ e)
     obtain⟨c',e'⟩:=mem_lookup hm
     exact⟨c',by rw[bG];exact e'⟩
    .obtain⟨c,h1,_⟩:=look e
     exact⟨c,h1⟩
   rcases hy with hy|hy
   .exact key _ hy (.inl rfl)
   .exact key _ hy (.inr rfl)
  .have z:(scope.names.lookup y==some Jw)=true:=z
   have z:scope.names.lookup y=some .cell:=by simpa using z
   have e:aB.cells.lookup y=some c:=e
   rw[bG]at e
   rcases qH (d_ e)with hm|⟨_,h2,_⟩
   .rcases uO hm with hm|⟨h1,_⟩
    .cases hm
    .have q:=ok.uniq _ h1
     rw[z]at q;cases q
   .rw[eL]at h2
    exact zx h2
  .show b≠aB.locals
   rw[hL];exact Ps (pA b hb).2
  .have e:aB.cells.lookup y=some c:=e
   rcases mem e with⟨h1,_⟩|⟨h1,_⟩
   .exact(pA b hb).1.2.2.2.2.1 y c h1 z
   .have h2:s.heap.objs.size+1<=b:=by rw[<-z];exact h1
    exact absurd (b7 (pA b hb).2 (zx h2)) (f9 _)
  .rcases(pA b hb).1.2.2.2.1 with z|z
   .exact I.ok.rV b o e z
   .exact absurd (b7 (FB e) (Ch I.ok.ip z)) (f9 _)
  .rcases wl.mp (I.Eh b z)with z|z
   .exact(pA b hb).1.2.1 z
   .exact(pA b hb).1.2.2.1 z
 refine⟨okB,rfl,I.bare,Un.kept kp,⟨λ_=>none,?_,λi y av e1 e2 e3=> ?_⟩,λy c e=> ?_,?_,λy c e=> ?_,λp hp=> ?_,I.ab.kept kp,by rw[A6];exact I.len⟩
 .show Heap.Ns _ aB.locals _
  rw[hL]
  exact Heap.Ns.keeps (Heap.Ns.new ..) λb o e=>A_ _ _ _ _ e
 .obtain⟨e2,bn⟩:=Cq e2
  have d7:scope.names.lookup y=some .free/\(aB.kindOf y=some .cell\/aB.kindOf y=some .free):=by
   have key:∀k,aB.scope.names.lookup y=some k->k=.local\/k=.cell\/k=.free->scope.names.lookup y=some .free/\(aB.kindOf y=some .cell\/aB.kindOf y=some .free):=λk hk hk'=>by
    have hk0:=hk
    rw[FQ]at hk
    obtain⟨k',e,r⟩:=AM hk
    have no:¬(k'=.local\/k'=.cell):=λhh=>by
     rcases ok.own _ (d_ e) hh with e'|e'
     .obtain⟨p,hp,hpy⟩:=nw.mp e'
      have e3:=ok.ix p hp
      have:p.1=y:=hpy
      rw[this]at e3
      exact bn (nw.mpr ⟨p,hp,CL hN e3 e1⟩)
     .exact e' (Tk e1)
    rcases r with rfl|⟨rfl,rfl⟩
    .rcases hk' with rfl|rfl|rfl
     .exact absurd (.inl rfl) no
     .exact absurd (.inr rfl) no
     .exact⟨e,.inr hk0⟩
    .exact⟨e,.inl hk0⟩
   have e3:pf aB.scope y:=e3
   rcases e3 with e3|e3|e3
   .exact key _ e3 (.inl rfl)
   .exact key _ e3 (.inr (.inl rfl))
   .exact key _ e3 (.inr (.inr rfl))
  obtain⟨m,hn,hl⟩:=I.loc
  have adk:pf X.env.scope y:=(ok.free _ (d_ d7.1) rfl).elim (λk=>.inr (.inl k)) (λk=>.inr (.inr k))
  obtain⟨w,r,q⟩:=hl i y av e1 e2 adk
  refine⟨w,r,.inr ⟨d7.2,?_⟩⟩
  obtain⟨c,h1,h2⟩:=look d7.1
  rcases q with⟨k,_⟩|⟨_,c',e',z⟩
  .have k:X.env.scope.names.lookup y=some .local:=k
   rcases ok.free _ (d_ d7.1) rfl with k'|k'<;>rw[show X.env.scope.names.lookup y=_ from k']at k<;>cases k
  .rw[h2]at e';cases e'
   exact⟨c,h1,z.keeps kp⟩
 .have e:aB.cells.lookup y=some c:=e
  rcases mem e with⟨h1,_⟩|⟨_,z⟩
  .obtain⟨w,z⟩:=I.cell y c h1
   exact⟨w,z.keeps kp⟩
  .exact⟨_,z⟩
 .show H aB.locals=none
  rw[hL];exact I.ab.fresh (nn _)
 .have e:aB.cells.lookup y=some c:=e
  rcases mem e with⟨h1,_⟩|⟨h1,_⟩
  .exact I.freeC y c h1
  .exact I.ab.fresh (zx h1)
 .exact absurd (show p∈([]:List (ac×Obj))++[]from hp) (by simp)
theorem aaV{E:al->ap->Prop}{D:ac}{xs:List V}{y:V}{v:al}{Q:al->ap->Prop}(I:Inv X pins σ H s)(hD:H D=some (.lst xs))(hz:xs.length<sizeLine)(r:RelV y v)
 (h:∀s',Inv X pins σ (upd H D (.lst (xs++[y]))) s'->Q .none s'):wpAny (model X.prog X.w) X.A (call (.builtin "list.append") [.ref D,v]) Q E s:=by
 obtain⟨hz',ci,n,ri,e⟩:=I.ab D _ hD
 have hl:=ri.length
 refine append_at (hsz:=by rw[XV];lia) e λh' sb ho'=> ?_
 refine h {s with heap:=h'} (I.write (t':=s.toks) (by rw[hD];trivial) (.inl rfl) (λb u hb q=>(sb.2 b hb).trans q) ⟨_,ho'⟩ ⟨by rw[Rs];exact hz,ci++[v],n+1,ri.append (.cons r .nil),?_⟩)
 rw[ho']
 simp
def r6(X:Cx)(ifs:List lv)(t:TT):Prop:=
 ∀(pins:List (ac×Obj))(s:ap)(σ:St)(H:Hp)(Q:Bool->Hp->Prop),Inv X pins σ H s->t σ H Q->
  wpAny (model X.prog X.w) X.A (forIn ifs true λc r=>if r=true then do let ok <-isTrue c X.env (eval c X.env);pure (tX ok)else pure (tX r)) (TP X pins σ Q) X.xe s
def j0:TT:=λ_ H Q=>Q true H
theorem T0:r6 X [] j0:=λ_ _ _ H _ I h=>wpAny_tests_nil ⟨H,I,h⟩
theorem qV{c:lv}{t:TT}(h:PT X c t):r6 X [c] t:=λpins s σ H Q I hw=>wpAny_tests_one (h pins s σ H Q I hw)
end
theorem o_{α:Type}{t:Sem α}{Q Q':α->ap->Prop}{M:Model}{A:ww}{E:al->ap->Prop}{s:ap}(h:wpAny M A t Q (λ_ _=>False) s)(hQ:∀a s,Q a s->Q' a s):wpAny M A t Q' E s:=cE h hQ λ_ _ z=>bR z
theorem Ti{prog:lw}{w:li}{A:ww}{R:lL->ap->Prop}{s:ap}{elt target iter:lv}{ifs:List lv}{scope:aK}{pos:Pos}{it acc:al}{env:Env}(I:Nat->ap->Prop)
 (turn:∀n s,I n s->wpAny (model prog w) A (pyNext it) (λr s₁=>match r with
   |none=>R (.ok .next) s₁
   |some v=>wpAny (model prog w) A (letOwnedTupleGo target it v) (λ_ s₁'=>wpAny (model prog w) A (assign target env v) (λ_ s₂=>
     wpAny (model prog w) A (forIn ifs true λc r=>if r=true then do let ok <-isTrue c env (eval c env);pure (tX ok)else pure (tX r)) (λok s₃=>
      if ok=true then wpAny (model prog w) A (eval elt env) (λx s₄=>
       wpAny (model prog w) A (call (.builtin "list.append") [acc,x]) (λ_ s₅=>∃m,m<n/\I m s₅) (notedBy (model prog w) A env λe s'=>R (.error e) s') s₄) (notedBy (model prog w) A env λe s'=>R (.error e) s') s₃
      else ∃m,m<n/\I m s₃) (notedBy (model prog w) A env λe s'=>R (.error e) s') s₂) (notedBy (model prog w) A env λe s'=>R (.error e) s') s₁') (notedBy (model prog w) A env λe s'=>R (.error e) s') s₁) (notedBy (model prog w) A env λe s'=>R (.error e) s') s)
 (n:Nat)(h:I n s):
 codeAny (model prog w) A (.compLoop (.ListComp elt [⟨target,iter,ifs,0⟩] scope pos) 0 it acc env) R s:=by
 refine codeAny_loop rfl I (λn s hI=> ?_) n h
 show wpAny _ A ((compTurn (.ListComp elt [⟨target,iter,ifs,0⟩] scope pos) 0 it acc env).onRaise (λx=>do noteFrame x env;theTreesLotGoes x)) _ _ s
 refine wpAny_noted ?_
 rw[compTurn_list]
 refine bd (Mc (bd (cE (turn n s hI) (λr s₁ h₁=> ?_) λ_ _ h'=>h')))
 cases r with
 |none=>exact eg h₁
 |some v=>
  refine bd (cE h₁ (λ_ s₁' h₁'=> ?_) λ_ _ h'=>h')
  refine bd (cE h₁' (λ_ s₂ h₂=>bd (cE h₂ (λok s₃ h₃=> ?_) λ_ _ h'=>h')) λ_ _ h'=>h')
  cases ok with
  |false=>exact eg ⟨rfl,h₃⟩
  |true=>
   exact bd (bd (cE h₃ (λx s₄ h₄=>bd (cE h₄ (λ_ s₅ h₅=>eg (eg ⟨rfl,h₅⟩)) λ_ _ h'=>h')) λ_ _ h'=>h'))
section
variable{X:Cx}
def sO(wi:TI)(g:TG)(tt:TT)(te:TE)(vs:List Nat):TE:=λσ H Q=>wi σ H λJ H1=>∀D,H1 D=none->∃W:Nat->Nat->Hp->Prop,(∃m,W 0 m (upd H1 D (.lst [])))/\∀i m H,W i m H->
 (J.stop i H/\Q (.ref D) H)\/(J.go i H/\∃Nx:Hp->Prop,(∀H',Nx H'->∃m',m'<m/\W (i+1) m' H')/\∀x H',J.bZ i H x H'->g x (wipe σ vs) H' λσ2 H2=>wipe σ2 vs=wipe σ vs/\tt σ2 H2 λb H3=>
   if b=true then te σ2 H3 λy H4=>∃acc,H4 D=some (.lst acc)/\acc.length<sizeLine/\Nx (upd H4 D (.lst (acc++[y])))else Nx H3)
theorem Mz{pins:List (ac×Obj)}{s:ap}{σ:St}{H:Hp}{Q:VK}{elt tg iter:lv}{ifs:List lv}{scope:aK}{own:List (Str×Nat)}{pos pos':Pos}{wi:TI}{g:TG}{tt:TT}{te:TE}{use:Option (al->Sem Unit)}{Qf:al->ap->Prop}
 (hc:X.calm=true)(hN:X.N.Nodup)(I:Inv X pins σ H s)(hi:PI X tg iter wi)(ok:rp X.N X.env.scope scope own)
 (hg:∀(s:ap)(H:Hp)(C:ac)(cl:List (Str×ac))(fp:List ac),PG (X.cv s H scope (compEnvC scope cl C X.env) fp) tg g)(ht:∀(s:ap)(H:Hp)(C:ac)(cl:List (Str×ac))(fp:List ac),r6 (X.cv s H scope (compEnvC scope cl C X.env) fp) ifs tt)
 (he:∀(s:ap)(H:Hp)(C:ac)(cl:List (Str×ac))(fp:List ac),PE (X.cv s H scope (compEnvC scope cl C X.env) fp) elt te)(hs:∀x,foldedSetIterable iter X.env x=pure x)
 (h:sO wi g tt te (own.map (·.2)) σ H Q)
 (hRR:∀D C s' m H',Inv X pins σ H' s'->Q (.ref D) H'->s'.heap.Ns C m->gk X pins H' C->compPost (model X.prog X.w) X.A X.xe use Qf (.ref D) C (.ok .next) s'):
 wpAny (model X.prog X.w) X.A (comprehension (.ListComp elt [⟨tg,iter,ifs,0⟩] scope pos) scope X.env pos' (newList []) false (eval iter X.env) use) Qf X.xe s:=by
 have oK:∀y∈scope.names,y.2=.free->∃c,X.env.cells.lookup y.1=some c:=λy hy e=>by
  rcases ok.free y hy e with k|k
  .exact I.ok.has _ (.inl k)
  .exact I.ok.has _ (.inr k)
 refine wpAny_comprehension_free (use:=use) rfl hs (VR oK) ok.kind (λy hy e=>by rw[ok.uniq y hy,e])
  (rs (hi pins s σ H _ I h) λxv s1 hx=>rs hx λFV s2 h2=> ?_)
 obtain⟨it,fp,tn,J,H2,e,I2,T,st2,f2,q⟩:=h2
 subst e
 refine kz (UP ?_) (by show 0<=sizeLine;decide)
 generalize hD:s2.heap.objs.size=D
 have hDn:H2 D=none:=I2.ab.fresh (nz hD)
 obtain⟨W,⟨m0,w0⟩,turn⟩:=q D hDn
 generalize hs3:({s2 with heap:=s2.heap.push {cls:=.type "list",data:=.seq ([]:List al).toArray}}:ap)=s3
 have I3:Inv X pins σ (upd H2 D (.lst [])) s3:=by
  rw[<-hs3]
  refine I2.laid (t':=s2.toks) (λb o e=>P5 _ e) (nz hD) ⟨SC _,[],0,.nil,?_⟩
  rw[<-hD]
  exact Tl _ rfl
 have h3:s3.heap=s2.heap.push {cls:=.type "list",data:=.seq ([]:List al).toArray}:=by rw[<-hs3]
 have sz:∀b∈fp,b<s2.heap.objs.size:=λb hb=>by
  obtain⟨o,e,_⟩:=T.obj _ _ st2 b hb
  exact FB e
 have f3:∀b∈fp,gk X pins (upd H2 D (.lst [])) b/\b<s3.heap.objs.size:=λb hb=>by
  have rc:=sz b hb
  refine⟨⟨?_,(f2 b hb).2⟩,by rw[h3,eL];exact iI rc⟩
  rw[gl (by rw[<-hD];exact Ps rc)]
  exact(f2 b hb).1
 have st3:tn 0 s3.heap:=T.keep _ _ _ st2 λb _ o e=>by rw[h3];exact P5 _ e
 have I4:=Ux I3 ok hN f3
 have pg:=hg s3 (upd H2 D (.lst [])) s3.heap.objs.size (cellsFrom (s3.heap.objs.size+1) scope.names (bJ X.env.cells scope.names [])) fp
 have pt:=ht s3 (upd H2 D (.lst [])) s3.heap.objs.size (cellsFrom (s3.heap.objs.size+1) scope.names (bJ X.env.cells scope.names [])) fp
 have pe:=he s3 (upd H2 D (.lst [])) s3.heap.objs.size (cellsFrom (s3.heap.objs.size+1) scope.names (bJ X.env.cells scope.names [])) fp
 show codeAny _ _ (.compStart (.ListComp elt [⟨tg,iter,ifs,0⟩] scope pos) 0 (.ref it) (.ref D) (compEnvC scope (cellsFrom (s3.heap.objs.size+1) scope.names (bJ X.env.cells scope.names [])) s3.heap.objs.size X.env)) (compPost (model X.prog X.w) X.A X.xe use Qf (.ref D) s3.heap.objs.size) {s3 with heap:=pushCells (s3.heap.push {cls:=.type "dict",data:=.dict #[]}) scope.names}
 have PZ:∀b∈fp,(upd H2 D (.lst [])) b=none:=λb hb=>(f3 b hb).1.1
 generalize hce:compEnvC scope (cellsFrom (s3.heap.objs.size+1) scope.names (bJ X.env.cells scope.names [])) s3.heap.objs.size X.env=ce at I4 pg pt pe⊢
 have cL:ce.locals=s3.heap.objs.size:=by subst hce;rfl
 generalize hH3:upd H2 D (.lst [])=H3 at I3 I4 pg pt pe w0 PZ f3
 generalize hs4:({s3 with heap:=pushCells (s3.heap.push {cls:=.type "dict",data:=.dict #[]}) scope.names}:ap)=s4 at I4⊢
 have st4:tn 0 s4.heap:=T.keep _ _ _ st3 λb _ o e=>by rw[<-hs4];exact A_ _ _ _ _ (P5 _ e)
 have lS:∀{σ':St}{H':Hp}{s':ap},Inv (X.cv s3 H3 scope ce fp) [] σ' H' s'->(∀b∈fp,H' b=none)->∀b∈fp,gk (X.cv s3 H3 scope ce fp) [] H' b:=λ{σ' H' s'}I' hn b hb=>
  ⟨hn b hb,(I'.ok.xC b hb).1,I'.ok.rN b hb,.inl hb,λx c e=>(I'.ok.xC b hb).2 x c e,λp hp=>absurd (show p∈([]:List (ac×Obj))++[]from hp) (by simp)⟩
 have loop:codeAny (model X.prog X.w) X.A (.compLoop (.ListComp elt [⟨tg,iter,ifs,0⟩] scope pos) 0 (.ref it) (.ref D) ce) (compPost (model X.prog X.w) X.A X.xe use Qf (.ref D) s3.heap.objs.size) s4:=by
  refine Ti (λn s'=>∃i H',Inv (X.cv s3 H3 scope ce fp) [] (wipe σ (own.map (·.2))) H' s'/\tn i s'.heap/\(∀b∈fp,H' b=none)/\W i n H') ?_ m0 ⟨0,H3,I4,st4,PZ,w0⟩
  rintro n s5 ⟨i,H5,I5,st5,n5,w5⟩
  rcases turn i n H5 w5 with⟨stop,qq⟩|⟨go,Nx,hNx,step⟩
  .have td:=T.done (X.cv s3 H3 scope ce fp) rfl rfl rfl hc i [] s5 _ H5 (λ_ _=>False) I5 (lS I5 n5) st5 stop
   refine o_ td λr s6⟨hr,I6⟩=> ?_
   subst hr
   have I7:Inv X pins σ H5 s6:=I3.aci (ch:=fp) I6.os I6.base I6.ab I6.bare λb hb=>⟨(f3 b hb).1.2.2.2.1,(f3 b hb).1.2.1,(f3 b hb).1.2.2.2.2.1,(f3 b hb).1.2.2.2.2.2⟩
   have nC:H5 s3.heap.objs.size=none:=by
    have z:H5 ce.locals=none:=I6.free
    rw[cL]at z
    exact z
   obtain⟨m,hn,_⟩:=I6.loc
   have hn:s6.heap.Ns ce.locals m:=hn
   rw[cL]at hn
   exact hRR D s3.heap.objs.size s6 m H5 I7 qq hn (I3.oW (nn _) nC)
  .have ti:=T.item (X.cv s3 H3 scope ce fp) rfl rfl rfl hc i [] s5 _ H5 (λ_ _=>False) I5 (lS I5 n5) st5 go
   refine o_ ti λr s6⟨u,hr,h6⟩=> ?_
   subst hr
   refine o_ h6 λ_ s7⟨x,H7,I7,r7,y7,st7,n7⟩=> ?_
   have I7':=I7.pinned (lS I7 n7) (T.obj _ _ st7)
   refine o_ (pg _ s7 _ H7 x u _ I7' r7 (step x H7 y7)) λ_ s8⟨σ8,H8,I8,hw8,q8⟩=> ?_
   refine o_ (pt _ s8 σ8 H8 _ I8 q8) λb s9⟨H9,I9,q9⟩=> ?_
   have fin:∀{s':ap}{H':Hp},Inv (X.cv s3 H3 scope ce fp) ([]++rm fp s7.heap) σ8 H' s'->Nx H'->∃m,m<n/\∃i H',Inv (X.cv s3 H3 scope ce fp) [] (wipe σ (own.map (·.2))) H' s'/\tn i s'.heap/\(∀b∈fp,H' b=none)/\W i m H':=λ{s' H'}I' nx=>by
    obtain⟨m',hm,w'⟩:=hNx H' nx
    have OM:∀b∈fp,∀o,s7.heap.get? b=some o->s'.heap.get? b=some o/\H' b=none:=λb hb o e=>
     let z:=I'.pin (b,o) (iD _ (iD _ (Bl hb e)))
     ⟨z.1,z.2.1⟩
    have hl:(wipe σ (own.map (·.2))).length=σ8.length:=by rw[<-hw8,A6]
    refine⟨m',hm,i+1,H',(I'.vZ (pins:=[])).weak hl (λj v e=> ?_),T.keep _ _ _ st7 λb hb o e=>(OM b hb o e).1,λb hb=> ?_,w'⟩
    .rw[<-hw8]at e
     exact(Cq e).1
    .obtain⟨o,e,_⟩:=T.obj _ _ st7 b hb
     exact(OM b hb o e).2
   cases b with
   |false=>
    simp only[gG,if_false]at q9⊢
    exact fin I9 q9
   |true=>
    simp only[if_true]at q9⊢
    refine o_ (pe _ s9 σ8 H9 _ I9 q9) λz s10⟨yv,H10,I10,r10,acc,hD10,hz10,nx⟩=> ?_
    exact aaV (X:=X.cv s3 H3 scope ce fp) I10 hD10 hz10 r10 λs11 I11=>fin I11 nx
 exact codeAny_compStart_list loop (T.self X.A 0 _ _ _ st4 loop)
theorem ao{elt tg iter:lv}{ifs:List lv}{scope:aK}{own:List (Str×Nat)}{pos:Pos}{wi:TI}{g:TG}{tt:TT}{te:TE}(hc:X.calm=true)(hN:X.N.Nodup)(hi:PI X tg iter wi)(ok:rp X.N X.env.scope scope own)
 (hg:∀(s:ap)(H:Hp)(C:ac)(cl:List (Str×ac))(fp:List ac),PG (X.cv s H scope (compEnvC scope cl C X.env) fp) tg g)(ht:∀(s:ap)(H:Hp)(C:ac)(cl:List (Str×ac))(fp:List ac),r6 (X.cv s H scope (compEnvC scope cl C X.env) fp) ifs tt)
 (he:∀(s:ap)(H:Hp)(C:ac)(cl:List (Str×ac))(fp:List ac),PE (X.cv s H scope (compEnvC scope cl C X.env) fp) elt te)(hs:∀x,foldedSetIterable iter X.env x=pure x:=by intro _;rfl):
 PE X (.ListComp elt [⟨tg,iter,ifs,0⟩] scope pos) (sO wi g tt te (own.map (·.2))):=by
 intro pins s σ H Q I h
 rw[eval_ListComp]
 refine Mz hc hN I hi ok hg ht he hs h λD C s' m H' I' q hn f=>⟨m,hn,λh'' sb=> ?_⟩
 obtain⟨f0,f1,f2,f3,f4,f5⟩:=f
 exact⟨.ref D,H',I'.turned (t':=s'.toks) (λb o hb e=>(sb.2 b hb).trans e) f0 f1 f3 f4 f5,rfl,q⟩
theorem jK{i:Nat}{y:Str}{py:Pos}{elt tg iter:lv}{ifs:List lv}{scope:aK}{own:List (Str×Nat)}{pos OS:Pos}{wi:TI}{g:TG}{tt:TT}{te:TE}(hc:X.calm=true)(hN:X.N.Nodup)(hy:X.N[i]? =some y)(iy:X.env.scope.names.lookup y=some .local)
 (FR:swapsWith (.ListComp elt [⟨tg,iter,ifs,0⟩] scope pos) (some (.Name y py)) OS.line X.env=pure true)(hi:PI X tg iter wi)(ok:rp X.N X.env.scope scope own)
 (hg:∀(s:ap)(H:Hp)(C:ac)(cl:List (Str×ac))(fp:List ac),PG (X.cv s H scope (compEnvC scope cl C X.env) fp) tg g)(ht:∀(s:ap)(H:Hp)(C:ac)(cl:List (Str×ac))(fp:List ac),r6 (X.cv s H scope (compEnvC scope cl C X.env) fp) ifs tt)
 (he:∀(s:ap)(H:Hp)(C:ac)(cl:List (Str×ac))(fp:List ac),PE (X.cv s H scope (compEnvC scope cl C X.env) fp) elt te)(hs:∀x,foldedSetIterable iter X.env x=pure x:=by intro _;rfl):
 PS X (.Assign [.Name y py] (.ListComp elt [⟨tg,iter,ifs,0⟩] scope pos) OS) (rX (sO wi g tt te (own.map (·.2))) (eV i)):=by
 intro pins s σ H D I h
 rw[exec_Assign_Name_used _ _ _ _ FR]
 refine bd (Mc (bd ?_))
 show wpAny _ X.A (do let _ <-comprehension (.ListComp elt [⟨tg,iter,ifs,0⟩] scope pos) scope X.env (firstIterPos [⟨tg,iter,ifs,0⟩] pos) (newList []) false (eval iter X.env) (some (assign (.Name y py) X.env))) _ _ s
 have h:sO wi g tt te (own.map (·.2)) σ H (λx H1=>eV i x σ H1 D.nx):=h
 refine bd (rs (Mz (Qf:=λ_ s'=>SP X pins D .next s') hc hN I hi ok hg ht he hs h λL C s' m H' I' q hn f=> ?_) λ_ s' hq=>eg (eg hq))
 show wpAny _ _ (assign (.Name y py) X.env (.ref L)) _ _ _
 refine wpAny_assign_Name (KY (v:=V.ref L) I' hN hy (.inl iy) rfl (λs2 I2⟨a,sb,ha⟩=> ?_) (.inr iy))
 obtain⟨f0,f1,f2,f3,f4,f5⟩:=f
 have haC:C≠a:=by
  rcases ha with z|z
  .rw[z];exact f1
  .exact λe=>f4 y a z e.symm
 refine⟨m,hn.sameBut sb haC,λh3 sb3=> ?_⟩
 exact⟨_,H',I2.turned (t':=s2.toks) (λb o hb e=>(sb3.2 b hb).trans e) f0 f1 f3 f4 f5,q⟩
theorem jN{elt:lv}{gs:List Comprehension}{scope:aK}{pos py:Pos}{y:Str}{l:Nat}{env:Env}(hk:env.scope.kind=.function)(hy:env.scope.names.lookup y=some .local)(hl:(py.line==pos.line)=true)
 (ha:(scope.names.any λ(n,k)=>n==y&&(k== .local||k== .cell))=false):swapsWith (.ListComp elt gs scope pos) (some (.Name y py)) l env=pure true:=by
 have ky:env.kindOf y=some .local:=hy
 have hb:env.blockKind=.function:=by unfold Env.blockKind;rw[hk];rfl
 unfold swapsWith
 simp only[hb,ky,ha,Expr.pos,hl]
 rfl
end
theorem aae{K:ge}{a:ac}{xs:List V}{g:TG}{tt:TT}{te:TE}{vs:List Nat}{σ:St}{H1:Hp}{D:ac}{Qd:Hp->Prop}(Pv:Nat->Hp->Prop)(h0:Pv 0 (upd H1 D (.lst [])))(hl:∀i H,i<=xs.length->Pv i H->aa K H a xs)
 (hs:∀i x H,xs[i]? =some x->Pv i H->g x (wipe σ vs) H λσ2 H2=>wipe σ2 vs=wipe σ vs/\tt σ2 H2 λb H3=>
   if b=true then te σ2 H3 λy H4=>∃acc,H4 D=some (.lst acc)/\acc.length<sizeLine/\Pv (i+1) (upd H4 D (.lst (acc++[y])))else Pv (i+1) H3)(hd:∀H,Pv xs.length H->Qd H):
 ∃W:Nat->Nat->Hp->Prop,(∃m,W 0 m (upd H1 D (.lst [])))/\∀i m H,W i m H->
  ((a9 K a).stop i H/\Qd H)\/((a9 K a).go i H/\∃Nx:Hp->Prop,(∀H',Nx H'->∃m',m'<m/\W (i+1) m' H')/\∀x H',(a9 K a).bZ i H x H'->g x (wipe σ vs) H' λσ2 H2=>wipe σ2 vs=wipe σ vs/\tt σ2 H2 λb H3=>
    if b=true then te σ2 H3 λy H4=>∃acc,H4 D=some (.lst acc)/\acc.length<sizeLine/\Nx (upd H4 D (.lst (acc++[y])))else Nx H3):=by
 refine⟨λi m H=>m=xs.length-i/\i<=xs.length/\Pv i H,⟨xs.length,by simp,SC _,h0⟩,?_⟩
 rintro i m H ⟨rfl,hi,p⟩
 have q:=hl i H hi p
 by_cases rc:i<xs.length
 .refine .inr ⟨⟨xs,xs[i],q,by simp[rc]⟩,Pv (i+1),λH' p'=>⟨xs.length-(i+1),by lia,rfl,rc,p'⟩,λx H' y=> ?_⟩
  obtain⟨e,y⟩:=y
  subst e
  exact hs i x _ (y xs q) p
 .have e:i=xs.length:=by lia
  subst e
  exact .inl ⟨⟨xs,q,nn _⟩,hd H p⟩
noncomputable def Ot(N:List Str)(sc scope:aK)(own:List (Str×Nat)):Bool:=
 (match scope.kind with|.function=>true|_=>false)&&(scope.names.all λy=>decide (scope.names.lookup y.1=some y.2))&&(own.all λp=>decide (N[p.2]? =some p.1))&&
   (scope.names.all λy=>match y.2 with
     |.free=>(match sc.names.lookup y.1 with|some .cell=>true|some .free=>true|_=>false)
     |.local=>decide (y.1∈own.map (·.1))||decide (y.1∉N)
     |.cell=>decide (y.1∈own.map (·.1))||decide (y.1∉N)
     |_=>true)
theorem Re{N:List Str}{sc scope:aK}{own:List (Str×Nat)}(h:Ot N sc scope own=true):rp N sc scope own:=by
 unfold Ot at h
 simp only[cQ,kC,decide_eq_true_eq]at h
 obtain⟨⟨⟨h1,h2⟩,h3⟩,h4⟩:=h
 refine⟨?_,h2,h3,λy hy e=> ?_,λy hy e=> ?_⟩
 .split at h1
  .assumption
  .cases h1
 .have q:=h4 y hy
  simp only[e]at q
  split at q<;>first|exact .inl (by assumption)|exact .inr (by assumption)|cases q
 .have q:=h4 y hy
  rcases e with e|e<;>(simp only[e,uo,decide_eq_true_eq]at q;exact q)
end L2
namespace L2
open PySem PySem.Spec PyProof.Rows
section
variable{prog:lw}{w:li}{A:ww}{R:lL->ap->Prop}{s:ap}{elt t0 i0 t1 i1:lv}{ifs0 ifs1:List lv}{scope:aK}{pos:Pos}{it acc:al}{env:Env}
end
section
variable{X:Cx}
end
end L2
namespace L2
open PySem PySem.Spec PyProof.Rows
section
variable{κ:Type}[DecidableEq κ]
noncomputable def On(kvs:List (κ×V))(k:κ):Option V:=(kvs.find? λkv=>decide (kv.1=k)).map (·.2)
noncomputable def putK(kvs:List (κ×V))(k:κ)(v:V):List (κ×V):=
 if(kvs.any λkv=>decide (kv.1=k))=true then kvs.map (λkv=>if kv.1=k then(kv.1,v)else kv)else kvs++[(k,v)]
theorem fC{p:κ×V}{r:List (κ×V)}{k:κ}(e:p.1=k):On (p::r) k=some p.2:=by simp[On,kG,e]
theorem fB{p:κ×V}{r:List (κ×V)}{k:κ}(e:¬p.1=k):On (p::r) k=On r k:=by simp[On,kG,e]
theorem oa(k:κ):∀kvs:List (κ×V),(kvs.any λkv=>decide (kv.1=k))=(On kvs k).isSome
 |[]=>rfl
 |p::r=>by
  rw[uX]
  by_cases e:p.1=k
  .simp only[fC e,decide_eq_true e,Bool.true_or,yE]
  .rw[fB e,decide_eq_false e,Bool.false_or];exact oa k r
theorem L4(k j:κ)(y:V):∀kvs:List (κ×V),On (kvs.map λkv=>if kv.1=k then(kv.1,y)else kv) j=(On kvs j).map λx=>if j=k then y else x
 |[]=>rfl
 |p::r=>by
  have ih:=L4 k j y r
  rw[FS]
  by_cases h:p.1=k
  .rw[if_pos h]
   by_cases e:p.1=j
   .rw[fC (p:=(p.1,y)) e,fC e,Ai,if_pos (e.symm.trans h)]
   .rw[fB (p:=(p.1,y)) e,fB e,ih]
  .rw[if_neg h]
   by_cases e:p.1=j
   .rw[fC (p:=p) e,fC e,Ai,if_neg (λz=>h (e.trans z))]
   .rw[fB (p:=p) e,fB e,ih]
theorem K2(k j:κ)(y:V):∀kvs:List (κ×V),On kvs k=none->On (kvs++[(k,y)]) j=if j=k then some y else On kvs j
 |[],_=>by
  by_cases e:k=j
  .rw[if_pos e.symm];exact fC (p:=(k,y)) e
  .rw[if_neg (λz=>e z.symm)];exact fB (p:=(k,y)) e
 |p::r,hn=>by
  rw[ui]
  have hk:¬p.1=k:=λz=>by rw[fC z]at hn;cases hn
  rw[fB hk]at hn
  have ih:=K2 k j y r hn
  by_cases e:p.1=j
  .rw[fC e,fC e,if_neg (λz=>hk (e.trans z))]
  .rw[fB e,fB e,ih]
theorem C8(kvs:List (κ×V))(k j:κ)(y:V):On (putK kvs k y) j=if j=k then some y else On kvs j:=by
 unfold putK
 by_cases a:(kvs.any λkv=>decide (kv.1=k))=true
 .rw[if_pos a,L4]
  rw[oa]at a
  by_cases e:j=k
  .obtain⟨x,hx⟩:=RU.mp a
   rw[if_pos e,e,hx,Ai,if_pos rfl]
  .rw[if_neg e]
   cases On kvs j with
   |none=>rfl
   |some x=>rw[Ai,if_neg e]
 .rw[if_neg a]
  refine K2 k j y kvs ?_
  rw[oa]at a
  cases q:On kvs k with
  |none=>rfl
  |some x=>rw[q]at a;exact(a rfl).elim
theorem IT(kvs:List (κ×V))(k:κ)(v:V):(putK kvs k v).length<=kvs.length+1:=by
 unfold putK
 split
 .rw[dL];lia
 .rw[Rs,Os,mX];lia
theorem CV{kvs:List (κ×V)}{k:κ}(v:V)(h:On kvs k=none):putK kvs k v=kvs++[(k,v)]:=by
 unfold putK
 rw[oa,h]
 exact if_neg (by decide)
theorem dw.Ca{o:Option V}{u:Option al}(r:dw o u):o.isSome=u.isSome:=by
 cases o with
 |none=>cases u with
  |none=>rfl
  |some _=>exact(show False from r).elim
 |some _=>cases u with
  |none=>exact(show False from r).elim
  |some _=>rfl
theorem dw.getD{o:Option V}{u:Option al}{d:V}{d':al}(r:dw o u)(rd:RelV d d'):RelV (o.getD d) (u.getD d'):=by
 cases o with
 |none=>cases u with
  |none=>exact rd
  |some _=>exact(show False from r).elim
 |some _=>cases u with
  |none=>exact(show False from r).elim
  |some _=>exact r
theorem KV.val{kvs:List (κ×V)}{vs:List (κ×al)}(r:KV kvs vs)(k:κ):dw (On kvs k) (valueAt vs k):=by
 unfold KV at r
 induction r with
 |nil=>exact qI
 | @cons p q ps qs h t ih=>
   obtain⟨h1,h2⟩:=h
   by_cases e:p.1=k
   .have e':q.1=k:=h1.symm.trans e
    have b:valueAt (q::qs) k=some q.2:=by simp[valueAt,kG,e']
    rw[fC e,b];exact h2
   .have e':¬q.1=k:=λz=>e (h1.trans z)
    have b:valueAt (q::qs) k=valueAt qs k:=by simp[valueAt,kG,e']
    rw[fB e,b];exact ih
theorem KV.any{kvs:List (κ×V)}{vs:List (κ×al)}(r:KV kvs vs)(k:κ):(kvs.any λkv=>decide (kv.1=k))=vs.any λkv=>decide (kv.1=k):=by
 unfold KV at r
 induction r with
 |nil=>rfl
 |cons h t ih=>rw[uX,uX,ih,h.1]
theorem KV.Fh{kvs:List (κ×V)}{vs:List (κ×al)}(r:KV kvs vs)(k:κ){y:V}{u:al}(ry:RelV y u):
 KV (kvs.map λkv=>if kv.1=k then(kv.1,y)else kv) (vs.map λkv=>if kv.1=k then(kv.1,u)else kv):=by
 unfold KV at r⊢
 induction r with
 |nil=>exact .nil
 | @cons p q ps qs h t ih=>
   rw[FS,FS]
   refine .cons ?_ ih
   obtain⟨h1,h2⟩:=h
   by_cases e:p.1=k
   .rw[if_pos e,if_pos (h1.symm.trans e)];exact⟨h1,ry⟩
   .rw[if_neg e,if_neg (λz=>e (h1.trans z))];exact⟨h1,h2⟩
theorem KV.put{kvs:List (κ×V)}{vs:List (κ×al)}(r:KV kvs vs)(k:κ){y:V}{u:al}(ry:RelV y u):KV (putK kvs k y) (stored vs k u):=by
 unfold putK stored
 rw[r.any k]
 by_cases e:(vs.any λkv=>decide (kv.1=k))=true
 .rw[if_pos e,if_pos e];exact r.Fh k ry
 .rw[if_neg e,if_neg e];exact Paired.snoc r ⟨rfl,ry⟩
theorem KV.keys{kvs:List (κ×V)}{vs:List (κ×al)}(r:KV kvs vs):kvs.map (·.1)=vs.map (·.1):=by
 unfold KV at r
 induction r with
 |nil=>rfl
 |cons h t ih=>rw[FS,FS,ih,h.1]
theorem KV.length{kvs:List (κ×V)}{vs:List (κ×al)}(r:KV kvs vs):kvs.length=vs.length:=ng r
end
theorem rC{P:lw}{w:li}{k:Key}{u:al}(r:RelV (kV k) u):(cG P w).is k u=true:=by
 cases k with
 |inl i=>obtain⟨t,e⟩:=(show ∃t,u=eO i t from r);subst e;exact UD P w i t
 |inr x=>obtain⟨t,e⟩:=(show ∃t,u=De x t from r);subst e;exact UE P w x t
theorem Kv{P:lw}{w:li}:∀{ks:List Key}{us:List al},Vals (ks.map kV) us->ItemsAre (cG P w) ks us
 |[],_,r=>by rw[gO]at r;cases r;exact .nil
 |k::ks,_,r=>by
  rw[FS]at r
  cases r with
  |cons h t=>exact .cons (rC h) (Kv t)
abbrev KT(H:Hp):List (List Key×V)->List (List Key×ac×al)->Prop:=Paired λp q=>p.1=q.1/\H q.2.1=some (.tup (p.1.map kV))/\RelV p.2 q.2.2
theorem KT.val{H:Hp}{kvs:List (List Key×V)}{xs:List (List Key×ac×al)}(r:KT H kvs xs)(k:List Key):dw (On kvs k) ((atKey xs k).map (·.2)):=by
 induction r with
 |nil=>exact qI
 | @cons p q ps qs h t ih=>
   obtain⟨h1,_,h2⟩:=h
   by_cases e:p.1=k
   .have e':q.1=k:=h1.symm.trans e
    have b:atKey (q::qs) k=some q.2:=by simp[atKey,kG,e']
    rw[fC e,b];exact h2
   .have e':¬q.1=k:=λz=>e (h1.trans z)
    have b:atKey (q::qs) k=atKey qs k:=by simp[atKey,kG,e']
    rw[fB e,b];exact ih
theorem KT.Fh{H:Hp}{kvs:List (List Key×V)}{xs:List (List Key×ac×al)}(r:KT H kvs xs)(k:List Key){y:V}{u:al}(ry:RelV y u):
 KT H (kvs.map λkv=>if kv.1=k then(kv.1,y)else kv) (xs.map (putAt k u)):=by
 induction r with
 |nil=>exact .nil
 | @cons p q ps qs h t ih=>
   rw[FS,FS]
   refine .cons ?_ ih
   obtain⟨h1,h2,h3⟩:=h
   unfold putAt
   by_cases e:p.1=k
   .rw[if_pos e,if_pos (h1.symm.trans e)];exact⟨h1,h2,ry⟩
   .rw[if_neg e,if_neg (λz=>e (h1.trans z))];exact⟨h1,h2,h3⟩
theorem KT.put{H:Hp}{kvs:List (List Key×V)}{xs:List (List Key×ac×al)}(r:KT H kvs xs)(k:List Key){b:ac}{y:V}{u:al}(hb:H b=some (.tup (k.map kV)))(ry:RelV y u):
 KT H (putK kvs k y) (storedH xs k b u):=by
 have e:(kvs.any λkv=>decide (kv.1=k))=(atKey xs k).isSome:=by
  rw[oa,(r.val k).Ca,WQ]
 unfold putK storedH
 rw[e]
 by_cases q:(atKey xs k).isSome=true
 .rw[if_pos q,if_pos q];exact r.Fh k ry
 .rw[if_neg q,if_neg q];exact Paired.snoc r ⟨rfl,hb,ry⟩
theorem KT.keeps{H H':Hp}{kvs:List (List Key×V)}{xs:List (List Key×ac×al)}(r:KT H kvs xs)(ht:∀b ys,H b=some (.tup ys)->H' b=some (.tup ys)):KT H' kvs xs:=
 Paired.jY r λ_ _ z=>⟨z.1,ht _ _ z.2.1,z.2.2⟩
section
variable{P:lw}{w:li}{H:Hp}{h:io}{a:ac}
theorem N8{u:HO}(ok:SL P w H h)(e:Rd H a u):aA P w H h a u:=e.ok ok
theorem oH{kvs:List (Key×V)}(ok:SL P w H h)(e:Rd H a (.dK kvs)):kvs.length<=sizeLine/\(a==sysModules)=false/\∃vs,KV kvs vs/\h.DictOf (cG P w) a vs:=
 show aA P w H h a (.dK kvs)from N8 ok e
theorem acv{kvs:List (Key×V)}(ok:SL P w H h)(e:H a=some (.dK kvs)):kvs.length<=sizeLine/\(a==sysModules)=false/\∃vs,KV kvs vs/\h.DictOf (cG P w) a vs:=oH ok (.inl e)
theorem rh{ks:List Key}(ok:SL P w H h)(e:H a=some (.tup (ks.map kV))):(tupleKind (cG P w)).is h ks a:=by
 obtain⟨_,ci,r,o,h1,h2,n,h3⟩:=(show aA P w H h a (.tup (ks.map kV))from ok a _ e)
 exact⟨o,ci.toArray,n,h1,h2,h3,by simpa using Kv r⟩
theorem oI{kvs:List (List Key×V)}(ok:SL P w H h)(e:Rd H a (.dT kvs)):kvs.length<=sizeLine/\(a==sysModules)=false/\
 ∃xs,KT H kvs xs/\h.DictOfH (tupleKind (cG P w)) a xs:=by
 obtain⟨z,y,xs,r,o,es,ep,h1,h2,h3,h4,h5⟩:=(show aA P w H h a (.dT kvs)from N8 ok e)
 refine⟨z,y,xs,r,o,es,ep,h1,h2,h3,h4,λx hx=> ?_,h5⟩
 have all:∀{l:List (List Key×V)}{m:List (List Key×ac×al)},KT H l m->∀x∈m,(tupleKind (cG P w)).is h x.1 x.2.1:=by
  intro l m q
  induction q with
  |nil=>intro x hx;exact nomatch hx
  | @cons p q ps qs hq t ih=>
    intro x hx
    rcases wl.mp hx with e|hx
    .subst e
     exact rh ok (by rw[<-hq.1];exact hq.2.1)
    .exact ih x hx
 exact all r x hx
theorem acw{kvs:List (List Key×V)}(ok:SL P w H h)(e:H a=some (.dT kvs)):kvs.length<=sizeLine/\(a==sysModules)=false/\
 ∃xs,KT H kvs xs/\h.DictOfH (tupleKind (cG P w)) a xs:=oI ok (.inl e)
end
def cV(H:Hp)(a:ac)(y:V)(r:Option V):Prop:=
 (∃kvs k,Rd H a (.dK kvs)/\y=kV k/\r=On kvs k)\/∃kvs k b,Rd H a (.dT kvs)/\y=.ref b/\H b=some (.tup (k.map kV))/\r=On kvs k
def jT(H:Hp)(a:ac)(y v:V)(H':Hp):Prop:=
 (∃kvs k,H a=some (.dK kvs)/\y=kV k/\kvs.length<sizeLine/\H'=upd H a (.dK (putK kvs k v)))\/
 ∃kvs k b,H a=some (.dT kvs)/\y=.ref b/\H b=some (.tup (k.map kV))/\kvs.length<sizeLine/\H'=upd H a (.dT (putK kvs k v))
theorem cV.k{H:Hp}{a:ac}{kvs:List (Key×V)}{k:Key}(e:H a=some (.dK kvs)):cV H a (kV k) (On kvs k):=.inl ⟨kvs,k,.inl e,rfl,rfl⟩
theorem jT.k{H:Hp}{a:ac}{kvs:List (Key×V)}{k:Key}{v:V}(e:H a=some (.dK kvs))(hl:kvs.length<sizeLine):jT H a (kV k) v (upd H a (.dK (putK kvs k v))):=.inl ⟨kvs,k,e,rfl,hl,rfl⟩
section
variable{X:Cx}{pins:List (ac×Obj)}{σ:St}{H:Hp}{s:ap}{a:ac}{y v:V}{u r:al}{o:Option V}{A:ww}{E:al->ap->Prop}
theorem Inv.O8(I:Inv X pins σ H s):sysModules<s.heap.objs.size:=by
 have h:mainGlobals<s.heap.objs.size:=(I.mod.glob.keeps I.bk).lt
 exact Nat.lt_trans (by decide) h
theorem Xg{Q:al->ap->Prop}(hu:A.units+1<cLine)(I:Inv X pins σ H s)(g:cV H a y (some v))(ry:RelV y u)(h:∀w' s',Inv X pins σ H s'->RelV v w'->Q w' s'):
 wpAny (model X.prog X.w) A (getItem (.ref a) u) Q E s:=by
 rcases g with⟨kvs,k,e,ey,l⟩|⟨kvs,k,b,e,ey,eb,l⟩
 .subst ey
  obtain⟨z,hd,vs,rel,dd⟩:=oH I.ab e
  obtain⟨w',hw,rw'⟩:=dw.some_of (v:=v) (o:=valueAt vs k) (by rw[l];exact rel.val k)
  exact wpAny_getItem_of (rC ry) dd.mapOf hw (h w' _ (I.tok _) rw')
 .subst ey
  cases(show u=im b from ry)
  obtain⟨z,hd,xs,rel,dd⟩:=oI I.ab e
  obtain⟨w',hw,rw'⟩:=dw.some_of (v:=v) (o:=(atKey xs k).map (·.2)) (by rw[l];exact rel.val k)
  obtain⟨p,hp,hp2⟩:=kh.mp hw
  refine wpAny_getItem_heap (zB hu) (rh I.ab eb) dd hp ?_
  rw[hp2]
  exact h w' _ (I.tok _) rw'
theorem ac1{Q:al->ap->Prop}(hu:A.units+1<cLine)(I:Inv X pins σ H s)(g:cV H a y o)(ry:RelV y u)(h:∀s',Inv X pins σ H s'->Q (.bool o.isSome) s'):
 wpAny (model X.prog X.w) A (compareOp .In u (.ref a)) Q E s:=by
 rcases g with⟨kvs,k,e,ey,l⟩|⟨kvs,k,b,e,ey,eb,l⟩
 .subst ey
  obtain⟨z,hd,vs,rel,dd⟩:=oH I.ab e
  refine wpAny_in_of (rC ry) hd dd.mapOf ?_
  rw[<-(rel.val k).Ca,<-l]
  exact h _ (I.tok _)
 .subst ey
  cases(show u=im b from ry)
  obtain⟨z,hd,xs,rel,dd⟩:=oI I.ab e
  refine wpAny_in_heap (zB hu) (rh I.ab eb) hd dd ?_
  have q:=(rel.val k).Ca
  rw[WQ]at q
  rw[<-q,<-l]
  exact h _ (I.tok _)
theorem Mm{h':io}{t':Nat}{ob:HO}(I:Inv X pins σ H s)(mu:lZ (H a))(hs:aC a s.heap h')(he:∃q,h'.get? a=some q)(new:aA X.prog X.w (upd H a ob) h' a ob):
 Inv X pins σ (upd H a ob) {s with heap:=h',toks:=t'}:=
 I.write (x:=a) (e:=a) mu (.inl rfl) (λb q hb z=>(hs.2 b hb).trans z) he new
theorem abi{P:lw}{w:li}{H':Hp}{h':io}{kvs:List (Key×V)}{vs:List (Key×al)}(z:kvs.length<=sizeLine)(hd:(a==sysModules)=false)(rel:KV kvs vs)(dd:h'.DictOf (cG P w) a vs):
 aA P w H' h' a (.dK kvs):=⟨z,hd,vs,rel,dd⟩
theorem Xh{H':Hp}{Q:Unit->ap->Prop}(hu:A.units+1<cLine)(I:Inv X pins σ H s)(g:jT H a y v H')(ry:RelV y u)(rv:RelV v r)(h:∀s',Inv X pins σ H' s'->Q () s'):
 wpAny (model X.prog X.w) A (setItem (.ref a) u r) Q E s:=by
 rcases g with⟨kvs,k,e,ey,l,eH⟩|⟨kvs,k,b,e,ey,eb,l,eH⟩
 .subst ey eH
  obtain⟨z,hd,vs,rel,dd⟩:=acv I.ab e
  have hz:vs.length<=sizeLine:=by rw[<-rel.length];exact z
  have hl:(putK kvs k v).length<=sizeLine:=by have:=IT kvs k v;lia
  refine wpAny_setItem_pairs (hsz:=hz) (rC ry) dd λh' dd' hs=>h _ ?_
  have he:∃q,h'.get? a=some q:=let⟨q,_,_,hq,_⟩:=dd';⟨q,hq⟩
  exact Mm I (by rw[e];exact qI) hs he (abi hl hd (rel.put k rv) dd')
 .subst ey eH
  cases(show u=im b from ry)
  obtain⟨z,hd,xs,rel,dd⟩:=acw I.ab e
  have hz:xs.length<=sizeLine:=by rw[<-ng rel];exact z
  have hl:(putK kvs k v).length<=sizeLine:=by have:=IT kvs k v;lia
  refine wpAny_setItem_heap (hsz:=hz) (zB hu) (rh I.ab eb) dd λh' dd' hs=>h _ ?_
  obtain⟨q,es,ep,hq,h2,h3,h4,_,h5⟩:=dd'
  refine Mm I (by rw[e];exact qI) hs ⟨q,hq⟩ ⟨hl,hd,_,(rel.put k eb rv).keeps λc ys ec=> ?_,q,es,ep,hq,h2,h3,h4,h5⟩
  rw[gl (P8 ec e (λz=>nomatch z))]
  exact ec
end
section
variable{X:Cx}{pins:List (ac×Obj)}{σ:St}{H:Hp}{s:ap}{a:ac}{kvs:List (Key×V)}{k:Key}{u:al}{A:ww}{E:al->ap->Prop}
end
def xi(i:lv):Prop:=∀ov iv,subscripted i false ov iv=operate [ov,iv] (getItem ov iv)
theorem MY{prog:lw}{w:li}{A:ww}{E:al->ap->Prop}{s:ap}{env:Env}{value slice:lv}{pos:Pos}{T id:String}{Q:al->ap->Prop}
 (hl:typeLookup (.type T) "__getitem__"=pure (some (.builtin id)))(hs:xi slice)
 (h:wpAny (model prog w) A (eval value env) (λo s₁=>wpAny (model prog w) A (eval slice env) (λi s₂=>s₂.TypeIs o T/\wpAny (model prog w) A (getItem o i) Q E s₂) E s₁) E s):
 wpAny (model prog w) A (eval (.Subscript value slice pos) env) Q E s:=by
 refine Subscript_ (cE h (λo s₁ h₁=>cE h₁ (λi s₂ h₂=> ?_) λ_ _ x=>x) λ_ _ x=>x)
 obtain⟨hT,h₂⟩:=h₂
 unfold subscriptTail
 refine bd ?_
 rw[getitemInPython_of_ne hT.not_modules]
 refine bd (La hT hl ?_)
 have fin:wpAny (model prog w) A (subscripted slice false o i) (λr s₃=>wpAny (model prog w) A (letTemporaryGo value o r >>= λ_=>pure r) Q E s₃) E s₂:=by
  rw[hs o i]
  exact wpAny_operating (cE h₂ (λr s₃ h₃=>bd (wpAny_letTemporaryGo (eg h₃))) λ_ _ x=>x)
 first
  |exact eg (bd fin)
  |exact bd (eg (bd fin))
  |exact bd fin
theorem UA{X:Cx}{pins:List (ac×Obj)}{σ:St}{H:Hp}{s:ap}{a:ac}{y:V}{o:Option V}(I:Inv X pins σ H s)(g:cV H a y o):s.TypeIs (.ref a) "dict":=by
 rcases g with⟨kvs,k,e,_,_⟩|⟨kvs,k,b,e,_,_,_⟩
 .obtain⟨_,_,vs,_,dd⟩:=oH I.ab e
  exact dd.typeIs
 .obtain⟨_,_,xs,_,dd⟩:=oI I.ab e
  exact dd.typeIs
def Oc(td ty:TE):TE:=λσ H Q=>td σ H λx H1=>ty σ H1 λy H2=>∃a v,x=.ref a/\cV H2 a y (some v)/\Q v H2
def OW(ty td:TE):TE:=λσ H Q=>ty σ H λy H1=>td σ H1 λx H2=>∃a o,x=.ref a/\cV H2 a y o/\Q (.bl o.isSome) H2
def N_(td ty tv:TE):TS:=λD σ H=>tv σ H λv H1=>td σ H1 λx H2=>ty σ H2 λy H3=>∃a H4,x=.ref a/\jT H3 a y v H4/\D.nx σ H4
section
variable{X:Cx}{o i e value:lv}{pos pos' lT:Pos}{td ty tv:TE}
theorem iY(hu:X.A.units+1<cLine)(ho:PE X o td)(hi:PE X i ty)(hs:xi i):PE X (.Subscript o i pos) (Oc td ty):=by
 intro pins s σ H Q I h
 refine MY Rh.lookup hs (rs (ho pins s σ H _ I h) λu s1⟨x,H1,I1,rx,q1⟩=>rs (hi pins s1 σ H1 _ I1 q1) λiv s2⟨y,H2,I2,ry,a,v,ex,g,q2⟩=> ?_)
 subst ex
 obtain rfl:u=im a:=rx
 exact⟨UA I2 g,Xg hu I2 g ry λw' s3 I3 rw'=>⟨v,H2,I3,rw',q2⟩⟩
theorem Nz(hu:X.A.units+1<cLine)(hi:PE X i ty)(ho:PE X o td):PC X .In i o (OW ty td):=by
 intro pins s σ H Q I h
 refine rs (hi pins s σ H _ I h) λiv s1⟨y,H1,I1,ry,q1⟩=>rs (ho pins s1 σ H1 _ I1 q1) λu s2⟨x,H2,I2,rx,a,ov,ex,g,q2⟩=> ?_
 subst ex
 obtain rfl:u=im a:=rx
 exact ac1 hu I2 g ry λs3 I3=>⟨.bl ov.isSome,H2,I3,rfl,q2⟩
theorem om(hu:X.A.units+1<cLine)(ho:PE X o td)(hi:PE X i ty)(hv:PE X value tv)(hs:swapsWith value (some (.Subscript o i pos')) pos.line X.env=pure false):
 PS X (.Assign [.Subscript o i pos'] value pos) (N_ td ty tv):=by
 intro pins s σ H D I h
 refine wpAny_Assign_Subscript (rs (hv pins s σ H _ I h) λr s1⟨v,H1,I1,rv,q1⟩=>rs (ho pins s1 σ H1 _ I1 q1) λu s2⟨x,H2,I2,rx,q2⟩=>rs (hi pins s2 σ H2 _ I2 q2) λiv s3⟨y,H3,I3,ry,a,H4,ex,g,q3⟩=> ?_) hs
 subst ex
 obtain rfl:u=im a:=rx
 exact Xh hu I3 g ry rv λs4 I4=>⟨σ,H4,I4,q3⟩
end
theorem YC{P:lw}{w:li}{H:Hp}(h:io)(hb:sysModules<h.objs.size):aA P w H (h.push {cls:=.type "dict",data:=.dict #[]}) h.objs.size (.dK []):=
 ⟨SC _,beq_eq_false_iff_ne.mpr (dS (Ps hb)),[],.nil,Heap.DictOf.new h⟩
theorem YD{P:lw}{w:li}{H:Hp}(h:io)(hb:sysModules<h.objs.size):aA P w H (h.push {cls:=.type "dict",data:=.dict #[]}) h.objs.size (.dT []):=
 ⟨SC _,beq_eq_false_iff_ne.mpr (dS (Ps hb)),[],.nil,_,#[],0,Tl _ rfl,⟨rfl,rfl,rfl⟩,rfl,rfl,List.nodup_nil⟩
def NK:TE:=λ_ H Q=>∀p,H p=none->Q (.ref p) (upd H p (.dK []))
def NL:TE:=λ_ H Q=>∀p,H p=none->Q (.ref p) (upd H p (.dT []))
section
variable{X:Cx}{pos:Pos}
theorem CS:PE X (.Dict [] [] pos) NK:=λpins s σ H Q I h=>
 wpAny_Dict_empty ⟨.ref s.heap.objs.size,_,I.laid (a:=s.heap.objs.size) (o:=.dK []) (t':=s.toks) (λ_ _ q=>P5 _ q) (nn _) (YC s.heap I.O8),rfl,h _ (I.ab.fresh (nn _))⟩
theorem LK:PE X (.Dict [] [] pos) NL:=λpins s σ H Q I h=>
 wpAny_Dict_empty ⟨.ref s.heap.objs.size,_,I.laid (a:=s.heap.objs.size) (o:=.dT []) (t':=s.toks) (λ_ _ q=>P5 _ q) (nn _) (YD s.heap I.O8),rfl,h _ (I.ab.fresh (nn _))⟩
end
structure M1 (X:Cx) (o:lv) (m:Str) (apos:Pos) (e:lv) (bj:Pos):Prop where
 base:attributeBase o m X.env (eval o X.env)=eval o X.env
 e_:((backTo bj (starEach [e] X.env)).all (λx=> !x.1)&&(backToKw bj (keywordEach [] X.env)).all (λx=>x.1.isSome)
  &&decide (([e]:List lv).length+([]:List oG).length+(if([]:List oG).isEmpty then 0 else 1)<30))=true
 line:(apos.endLine==bj.line)=true
 trees:backTo bj (starEach [e] X.env)=[(false,eval e X.env)]
structure M2 (X:Cx) (o:lv) (m:Str) (apos:Pos) (e f:lv) (bj:Pos):Prop where
 base:attributeBase o m X.env (eval o X.env)=eval o X.env
 e_:((backTo bj (starEach [e,f] X.env)).all (λx=> !x.1)&&(backToKw bj (keywordEach [] X.env)).all (λx=>x.1.isSome)
  &&decide (([e,f]:List lv).length+([]:List oG).length+(if([]:List oG).isEmpty then 0 else 1)<30))=true
 line:(apos.endLine==bj.line)=true
 trees:backTo bj (starEach [e,f] X.env)=[(false,eval e X.env),(false,eval f X.env)]
def O4(H:Hp)(a:ac):Prop:=(∃kvs,Rd H a (.dK kvs))\/∃kvs,Rd H a (.dT kvs)
theorem abm{X:Cx}{pins:List (ac×Obj)}{σ:St}{H:Hp}{s:ap}{a:ac}(I:Inv X pins σ H s)(d:O4 H a):
 s.TypeIs (.ref a) "dict"/\(∀b,im a=.ref b->∃ob,s.heap.get? b=some ob/\ob.dict=none)/\(a==sysModules)=false:=by
 rcases d with⟨kvs,e⟩|⟨kvs,e⟩
 .obtain⟨_,hd,vs,_,dd⟩:=oH I.ab e
  refine⟨dd.typeIs,λb q=> ?_,hd⟩
  cases q
  obtain⟨ob,_,_,h1,h2,_⟩:=dd
  exact⟨ob,h1,h2.2.1⟩
 .obtain⟨_,hd,xs,_,dd⟩:=oI I.ab e
  refine⟨dd.typeIs,λb q=> ?_,hd⟩
  cases q
  obtain⟨ob,_,_,h1,h2,_⟩:=dd
  exact⟨ob,h1,h2.2.1⟩
section
variable{X:Cx}{pins:List (ac×Obj)}{σ:St}{H:Hp}{s:ap}{a:ac}{y d:V}{u r:al}{o:Option V}{A:ww}{E:al->ap->Prop}
theorem abh{Q:al->ap->Prop}(hu:A.units+1<cLine)(I:Inv X pins σ H s)(g:cV H a y o)(ry:RelV y u)(rd:RelV d r)(h:∀w' s',Inv X pins σ H s'->RelV (o.getD d) w'->Q w' s'):
 wpAny (model X.prog X.w) A (call (.builtin "dict.get") [.ref a,u,r]) Q E s:=by
 rcases g with⟨kvs,k,e,ey,l⟩|⟨kvs,k,b,e,ey,eb,l⟩
 .subst ey
  obtain⟨z,hd,vs,rel,dd⟩:=oH I.ab e
  refine call_meetsIn GA dd.typeIs SS (RV _ _ _) (meets_dict_get_default (cG X.prog X.w) a (rC ry) hd r) ⟨_,dd.mapOf,h _ _ (I.tok _) ?_⟩
  rw[l]
  exact(rel.val k).getD rd
 .subst ey
  cases(show u=im b from ry)
  obtain⟨z,hd,xs,rel,dd⟩:=oI I.ab e
  refine call_meetsIn GA dd.typeIs SS (RV _ _ _) (meetsH_dict_get_default (tupleKind (cG X.prog X.w)) a b hd r) ⟨zB hu,k,xs,rh I.ab eb,dd,h _ _ (I.tok _) ?_⟩
  rw[l]
  exact(rel.val k).getD rd
end
def NJ(td ty tx:TE):TE:=λσ H Q=>td σ H λx H1=>∃a,x=.ref a/\O4 H1 a/\ty σ H1 λy H2=>tx σ H2 λz H3=>∃o,cV H3 a y o/\Q (o.getD z) H3
section
variable{X:Cx}{o e f:lv}{apos bj:Pos}{td ty tx:TE}
theorem CQ(hu:X.A.units+1<cLine)(ho:PE X o td)(he:PE X e ty)(hf:PE X f tx)(m:M2 X o "get" apos e f bj):PE X (.Call (.Attribute o "get" apos) [e,f] [] bj) (NJ td ty tx):=by
 intro pins s σ H Q I h
 refine wpAny_Call_method m.base m.e_ m.line PySem.F.plainAttrs_dict GA PySem.F.type_dict_get (rs (ho pins s σ H _ I h) λu s1⟨x,H1,I1,rx,a,ex,d,q1⟩=> ?_)
 subst ex
 obtain rfl:u=im a:=rx
 obtain⟨t1,t2,_⟩:=abm I1 d
 refine⟨t1,t2,?_⟩
 rw[m.trees]
 refine Gz rfl (Vi (yW (rs (he pins s1 σ H1 _ I1 q1) λiv s2⟨y,H2,I2,ry,q2⟩=>
  yW (rs (hf pins s2 σ H2 _ I2 q2) λfv s3⟨z,H3,I3,rz,ov,g,q3⟩=>Iz ?_))))
 exact abh hu I3 g ry rz λw' s4 I4 rw'=>⟨_,H3,I4,rw',q3⟩
end
section
variable{X:Cx}{pins:List (ac×Obj)}{σ:St}{H:Hp}{s:ap}{a:ac}{kvs:List (Key×V)}{A:ww}{E:al->ap->Prop}
end
section
variable{X:Cx}{pins:List (ac×Obj)}{σ:St}{H:Hp}{s:ap}{a:ac}{y:V}{u:al}{A:ww}{E:al->ap->Prop}
end
end L2
namespace L2
open PySem PySem.Spec PyProof.Rows
section
variable{prog:lw}{w:li}{A:ww}{E:al->ap->Prop}
end
section
variable{X:Cx}
end
end L2
namespace L2
open PySem PySem.Spec PyProof.Rows
theorem Rr:bootBuiltins "reversed"=some (.type "reversed"):=by decide+kernel
section
variable{X:Cx}{pins:List (ac×Obj)}{σ:St}{H:Hp}{s:ap}{h':io}
theorem Inv.X_{t':Nat}{ch:List ac}{T:ac}{ob:HO}(I:Inv X pins σ H s)(k:∀b o,b∉ch->s.heap.get? b=some o->h'.get? b=some o)(hf:∀b∈ch,gk X pins H b)(hT:s.heap.objs.size<=T)
 (new:aA X.prog X.w (upd H T ob) h' T ob):Inv X pins σ (upd H T ob) {s with heap:=h',toks:=t'}:=by
 have hn:H T=none:=I.ab.fresh hT
 have sG:∀b u,H b=some u->b∉ch:=λb u e z=>by
  have q:=(hf b z).1
  rw[q]at e;cases e
 refine I.step (g':=s.gens) (d':=s.drawn) (ch:=ch) (λb hb=>⟨(hf b hb).2.2.2.1,(hf b hb).2.1,(hf b hb).2.2.2.2.1,(hf b hb).2.2.2.2.2⟩) (λb o _ _ hc e _=>k b o hc e) (λb o _ _ hc e _=>⟨o.slots,k b o hc e⟩)
  (λb o _ e n=> ?_) (λb o hc e=>⟨o,k b o hc e⟩) (λb xs e=> ?_) (λb o u e=> ?_) (λb ps e=>⟨#[],?_⟩) (λm hm=> ?_) (λb u e=> ?_) I.bare
 .rw[gl (Ps (b7 (FB e) hT))];exact n
 .rw[gl (wT e hn)];exact e
 .rw[gl (wT e hn)];exact e
 .rw[gl (wT e hn),e];simp
 .obtain⟨o,es,ep,ho,r⟩:=hm
  exact⟨o,es,ep,k _ o (λz=>(hf _ z).2.1 rfl) ho,r⟩
 .by_cases hb:b=T
  .subst hb
   rw[bv]at e
   cases e
   exact new
  .rw[gl hb]at e
   refine(I.ab b u e).gq (λc v hc q=>k c v ?_ q) (λc q=>by rw[gl (wT q hn)];exact q) λc xs q=>by rw[gl (wT q hn)];exact q
   rcases hc with z|z
   .rw[z];exact sG b u e
   .exact sG c _ z
theorem Inv.lock{d:ac}{u:HO}(I:Inv X pins σ H s)(h:H d=some u)(mu:lZ (some u)):∃od,Inv X pins σ (upd H d (.ai od u)) s:=by
 have x:=I.ab d u h
 have ex:∃od,s.heap.get? d=some od:=by
  cases u with
  |lst xs=>obtain⟨_,_,_,_,e⟩:=x;exact⟨_,e⟩
  |dK kvs=>obtain⟨_,_,_,_,o,_,_,e,_⟩:=x;exact⟨o,e⟩
  |dT kvs=>obtain⟨_,_,_,_,o,_,_,e,_⟩:=x;exact⟨o,e⟩
  |set S n=>obtain⟨o,_,_,_,e,_⟩:=x;exact⟨o,e⟩
  |ins C dx fs=>obtain⟨_,_,_,e,_⟩:=x;exact⟨_,e⟩
  |ext φ=>obtain⟨_,⟨_,e⟩,_⟩:=x;exact⟨_,e⟩
  |lam pos q=>obtain⟨_,e,_⟩:=x;exact⟨_,e⟩
  |_=>exact bR mu
 obtain⟨od,e⟩:=ex
 have new:aA X.prog X.w (upd H d (.ai od u)) s.heap d (.ai od u):=by
  refine⟨e,x.gq (λb v _ q=>q) (λb q=> ?_) λb xs q=> ?_⟩
  .rw[gl (λz=>by rw[z,h]at q;cases q;exact mu)];exact q
  .rw[gl (λz=>by rw[z,h]at q;cases q;exact mu)];exact q
 exact⟨od,I.write (x:=d) (e:=d) (t':=s.toks) (h':=s.heap) (by rw[h];exact mu) (.inl rfl) (λb v _ q=>q) ⟨od,e⟩ new⟩
theorem Inv.acL{d:ac}{u:HO}(I:Inv X pins σ H s)(h:H d=some u)(mu:lZ (some u)):∀o' u',X.lY d≠some (.ai o' u'):=λo' u' e=>by
 have q:=I.base.gp d o' u' e
 rw[h]at q
 cases q
 exact mu
theorem Inv.unlock{d:ac}{od:Obj}{u:HO}(I:Inv X pins σ H s)(h:H d=some (.ai od u))(hn:∀o' u',X.lY d≠some (.ai o' u')):Inv X pins σ (upd H d u) s:=by
 have neH:∀b o,H b=some o->(∀o' u',o≠.ai o' u')->b≠d:=λb o e bn z=>by
  rw[z,h]at e
  cases e
  exact bn _ _ rfl
 have neN:∀b,H b=none->b≠d:=λb e z=>by rw[z,h]at e;cases e
 refine⟨I.ok,I.os,I.bare,⟨I.base.keep,I.base.slot,λb o e n hx=> ?_,I.base.there,λb xs e=> ?_,λb o x e=> ?_,λb ps e=> ?_⟩,I.loc,I.cell,?_,λx c e=> ?_,λp hp=> ?_,λb o e=> ?_,I.len⟩
 .rw[gl (neN b (I.base.free b o e n hx))];exact I.base.free b o e n hx
 .have q:=I.base.je b xs e
  rw[gl (neH b _ q (λ_ _ z=>nomatch z))];exact q
 .have q:=I.base.gp b o x e
  rw[gl (λz=>by rw[z]at e;exact hn _ _ e)];exact q
 .obtain⟨m,q⟩:=I.base.jc b ps e
  exact⟨m,by rw[gl (neH b _ q (λ_ _ z=>nomatch z))];exact q⟩
 .rw[gl (neN _ I.free)];exact I.free
 .rw[gl (neN c (I.freeC x c e))];exact I.freeC x c e
 .obtain⟨e,n,r⟩:=I.pin p hp
  exact⟨e,by rw[gl (neN _ n)];exact n,r⟩
 .by_cases hb:b=d
  .rw[hb,bv]at e
   cases e
   rw[hb]
   obtain⟨_,x⟩:=I.ab d _ h
   exact x.gq (λc v _ q=>q) (λc q=>by rw[gl (neH c _ q (λ_ _ z=>nomatch z))];exact q) λc xs q=>by rw[gl (neH c _ q (λ_ _ z=>nomatch z))];exact q
  .rw[gl hb]at e
   exact(I.ab b o e).gq (λc v _ q=>q) (λc q=>by rw[gl (neH c _ q (λ_ _ z=>nomatch z))];exact q) λc xs q=>by rw[gl (neH c _ q (λ_ _ z=>nomatch z))];exact q
end
section
variable{X:Cx}
theorem NA{tg:lv}{pins:List (ac×Obj)}{σ:St}{H:Hp}{s:ap}{R:It->Hp->Prop}{J:It}{tn:Nat->io->Prop}{tk:Nat}(I:Inv X pins σ H s)(o:Obj)
 (T:Turn X.prog X.w X.K tg J [s.heap.objs.size] s.heap.objs.size tn)(st:tn 0 (s.heap.push o))(q:R J H):Ft X pins σ tg R (.ref s.heap.objs.size) {s with heap:=s.heap.push o,toks:=tk}:=by
 refine⟨s.heap.objs.size,[s.heap.objs.size],tn,J,H,rfl,I.kept λb ob e=>P5 _ e,T,st,λb hb=> ?_,q⟩
 have e:b=s.heap.objs.size:=by simpa using hb
 subst e
 exact I.oW (nn _) (I.ab.fresh (nn _))
end
noncomputable def Fo(lo c:Int)(n:Nat):It:=⟨λi _=>i<n,λi H x H'=>H'=H/\x=.int (lo+(i:Nat)*c),λi _=>n<=i⟩
theorem Vg{P:lw}{w:li}{K:ge}{tg:lv}(it:ac)(lo c:Int)(n:Nat):Turn P w K tg (Fo lo c n) [it] it (λi h=>Dc h it (lo+(i:Nat)*c) ((n:Int)-(i:Nat)) c) where
 mem:=by simp
 obj:=λi h st b hb=>by
  have e:b=it:=by simpa using hb
  subst e
  exact⟨_,st,λv z=>nomatch z⟩
 keep:=λi h h' st k=>k it (by simp) _ st
 item:=by
  intro X hP hw hK hc i pins s σ H E I hf st hg
  subst hP hw hK
  obtain⟨f0,f1,f2,f3,f4,f5⟩:=hf it (by simp)
  have W:=Walks.range (prog:=X.prog) (w:=X.w) (I.ok.hd hc) it lo c n
  refine W.item i s _ _ hg st λv h' tk hv st' kk=> ?_
  obtain⟨t,rfl⟩:=hv
  have I1:Inv X pins σ H {s with heap:=h',toks:=tk}:=I.turned (λb o hb e=>kk b o (by simpa using hb) e) f0 f1 f3 f4 f5
  exact⟨_,rfl,rq (s:={s with heap:=h',toks:=tk}) (n:="range_iterator") st' rfl rfl (by decide) ⟨.int (lo+(i:Nat)*c),H,I1,⟨t,rfl⟩,⟨rfl,rfl⟩,st',λb hb=>(hf b hb).1⟩⟩
 done:=by
  intro X hP hw hK hc i pins s σ H E I hf st hg
  subst hP hw hK
  obtain⟨f0,f1,f2,f3,f4,f5⟩:=hf it (by simp)
  exact Yp (I.ok.hd hc) st (by have:n<=i:=hg;lia) λh' eb=>⟨rfl,I.turned (t':=s.toks) (λb o hb e=>eb b o hb e) f0 f1 f3 f4 f5⟩
 self:=λA i s Q E st h=>Yo st h
def O6(i j c:Int)(n:Nat):Prop:=c≠0/\c.natAbs<1073741824/\Rf i j c=true/\pK i j c=n
def N0(ta:TA):TI:=λσ H R=>ta σ H λvs H1=>∃(i j c:Int)(n:Nat),vs=[.int i,.int j,.int c]/\O6 i j c n/\R (Fo i c n) H1
section
variable{X:Cx}{tg:lv}
theorem XW{a b c:lv}{ta:TA}{p pos:Pos}(hg:Gl X "range")(hm:X.mg "range"=none)(ha:PA X [a,b,c] ta)
 (hs:starEach [a,b,c] X.env=(false,eval a X.env)::starEach [b,c] X.env:=by rfl)(SZ:(backTo pos (starEach [b,c] X.env)).any (·.1)=false:=by rfl):
 PI X tg (.Call (.Name "range" p) [a,b,c] [] pos) (N0 ta):=by
 intro pins s σ H R I h
 refine Call_ (i7 I hg hm DV (mw (rs (ha pos pins s σ H _ I h) λus s1⟨vs,H1,I1,r1,q1⟩=> ?_) hs SZ))
 obtain⟨i,j,k,n,e,⟨c0,c1,c2,c3⟩,q⟩:=q1
 subst e
 cases r1 with
 |cons r rr=>
  cases rr with
  |cons r' rr=>
   cases rr with
   |cons r'' rr=>
    cases rr
    obtain⟨t,rfl⟩:=r
    obtain⟨t',rfl⟩:=r'
    obtain⟨t'',rfl⟩:=r''
    refine call_range_3 c0 ?_ (.inl (SR c1))
    refine wpAny_pyIter_range (IsRange.new ..) c2 ?_
    have I2:Inv X pins σ H1 {s1 with heap:=s1.heap.push {cls:=.type "range",data:=.fields #[.int i t,.int j t',.int k t'']}}:=I1.kept (t':=s1.toks) λb o e=>P5 _ e
    refine NA (tk:=s1.toks) I2 _ (Vg _ i k n) ?_ q
    have e1:i+((0:Nat):Int)*k=i:=by simp
    have e2:(n:Int)-((0:Nat):Int)=pK i j k:=by rw[c3];simp
    show Dc _ _ (i+((0:Nat):Int)*k) ((n:Int)-((0:Nat):Int)) k
    rw[e1,e2]
    exact Tl _ rfl
end
noncomputable def Fq(K:ge)(a:ac)(n:Nat):It:=
 ⟨λi H=>i<n/\∃(xs:List V)(x:V),aa K H a xs/\xs[n-1-i]? =some x,λi H x H'=>H'=H/\∀xs,aa K H a xs->xs[n-1-i]? =some x,λi _=>n<=i⟩
theorem ZD{P:lw}{w:li}{K:ge}{tg:lv}(a it:ac)(n:Nat):Turn P w K tg (Fq K a n) [it] it (λi h=>i<=n/\h.IsRevIter it a ((n:Int)-1-(i:Nat))) where
 mem:=by simp
 obj:=λi h st b hb=>by
  have e:b=it:=by simpa using hb
  subst e
  obtain⟨_,o,e,c,d⟩:=st
  exact⟨o,e,λv z=>by rw[d]at z;cases z⟩
 keep:=λi h h' st k=>⟨st.1,st.2.at λo e=>k it (by simp) o e⟩
 item:=by
  intro X hP hw hK hc i pins s σ H E I hf st hg
  subst hP hw hK
  obtain⟨bH,xs,x,hq,hx⟩:=hg
  obtain⟨ci,rv,p,hz⟩:=I.list hq
  obtain⟨u,hu,ru⟩:=rv.get hx
  obtain⟨f0,f1,f2,f3,f4,f5⟩:=hf it (by simp)
  obtain⟨_,hit⟩:=st
  have e1:(n:Int)-1-((i:Nat):Int)=((n-1-i:Nat):Int):=by lia
  rw[e1]at hit
  refine wpAny_pyNext_rev_item hit p.isList (x:=u) (by simpa using hu) λh' st' sb=> ?_
  have e2:((n-1-i:Nat):Int)-1=(n:Int)-1-((i+1:Nat):Int):=by lia
  rw[e2]at st'
  have I1:Inv X pins σ H {s with heap:=h'}:=I.turned (t':=s.toks) (λb o hb e=>(sb.2 b hb).trans e) f0 f1 f3 f4 f5
  obtain⟨o,e,c,d⟩:=id st'
  exact⟨u,rfl,rq (s:={s with heap:=h'}) e c d (by decide) ⟨x,H,I1,ru,⟨rfl,λys hy=>by rw[I.CJ hy hq];exact hx⟩,⟨bH,st'⟩,λb hb=>(hf b hb).1⟩⟩
 done:=by
  intro X hP hw hK hc i pins s σ H E I hf st hg
  subst hP hw hK
  obtain⟨f0,f1,f2,f3,f4,f5⟩:=hf it (by simp)
  obtain⟨bH,hit⟩:=st
  have Ph:n<=i:=hg
  have e1:(n:Int)-1-((i:Nat):Int)= -1:=by lia
  rw[e1]at hit
  exact wpAny_pyNext_rev_end (I.ok.hd hc) hit λh' eb=>⟨rfl,I.turned (t':=s.toks) (λb o hb e=>eb b o hb e) f0 f1 f3 f4 f5⟩
 self:=λA i s Q E st h=>wpAny_pyIter_revIter st.2 h
def E8(K:ge)(ta:TA):TI:=λσ H R=>ta σ H λvs H1=>∃(a:ac)(xs:List V),vs=[.ref a]/\aa K H1 a xs/\R (Fq K a xs.length) H1
section
variable{X:Cx}{tg:lv}
theorem U8{e:lv}{ta:TA}{p pos:Pos}(hg:Gl X "reversed")(hm:X.mg "reversed"=none)(ha:PA X [e] ta)(hs:starEach [e] X.env=[(false,eval e X.env)]:=by rfl):PI X tg (.Call (.Name "reversed" p) [e] [] pos) (E8 X.K ta):=by
 intro pins s σ H R I h
 refine Call_ (i7 I hg hm Rr (mw (rs (ha pos pins s σ H _ I h) λus s1⟨vs,H1,I1,r1,q1⟩=> ?_) hs rfl))
 obtain⟨a,xs,e,hq,q⟩:=q1
 subst e
 cases r1 with
 |cons r rr=>
  cases rr
  cases r
  obtain⟨ci,rv,p',hz⟩:=I1.list hq
  have hl:=rv.length
  have e1:((ci.toArray.size:Nat):Int)-1=(xs.length:Int)-1-((0:Nat):Int):=by simp only[XV];lia
  refine call_reversed_list p'.isList (wpAny_pyIter_revIter (l:=a) (i:=((ci.toArray.size:Nat):Int)-1) ⟨_,Tl _ rfl,rfl,rfl⟩ ?_)
  refine NA (tk:=s1.toks) I1 _ (ZD a _ xs.length) ⟨SC _,?_⟩ q
  rw[<-e1]
  exact⟨_,Tl _ rfl,rfl,rfl⟩
end
section
variable{prog:lw}{w:li}{A:ww}{E:al->ap->Prop}{s:ap}
theorem Xs{d:ac}{o:Obj}{es:Array gY}{ep:Nat}{Q:al->ap->Prop}(hd:(d==sysModules)=false)(ho:s.heap.get? d=some o)(hc:o.ExactDict)(Ox:o.data=.dict es ep)
 (hQ:Q (.ref s.heap.objs.size) {s with heap:=s.heap.push {cls:=.type "dict_keyiterator",data:=.fields #[.ref d,.int 0 0,.int es.size 0,.int ep 0]}}):
 wpAny (model prog w) A (pyIter (.ref d)) Q E s:=by
 have hT:s.TypeIs (.ref d) "dict":=⟨o,ho,hc.1⟩
 refine J9 hT F.slot_dict_iter (jz F.slot_dict_iter hT F.entry_dict_iter ?_ (F.args_dict_iter_1 _))
 unfold Builtin.«dict.__iter__»
 refine bd ?_
 unfold Builtin.Dict.dictSlotNone
 refine bd (wpAny_notOrdered_dict hT ?_)
 show wpAny _ _ (pure (im d)) _ _ s
 refine eg ?_
 show wpAny _ _ (Rc d >>= _) _ _ s
 unfold Rc
 rw[if_neg (by rw[hd];exact bI)]
 refine bd (eg ?_)
 refine bd (J8 ho Ox ?_)
 refine bd (K' ho Ox ?_)
 refine bd (kz (eg ⟨_,rfl,"dict_keyiterator",_,⟨_,Tl _ rfl,rfl⟩,sV.lookup,?_⟩))
 simpa[rawInt]using hQ
theorem Sn{it d:ac}{i n ep:Nat}{od:Obj}{es:Array gY}{en:gY}{Q:Option al->ap->Prop}(hit:s.heap.IsKeyIter it d i n ep)(gA:s.heap.get? d=some od)(j7:od.data=.dict es ep)
 (hsz:es.size=n)(hx:es[i]? =some en)(hQ:∀h',h'.IsKeyIter it d (i+1) n ep->aC it s.heap h'->Q (some en.key) {s with heap:=h'}):wpAny (model prog w) A (pyNext (.ref it)) Q E s:=by
 obtain⟨o,ho,hc,hd⟩:=id hit
 unfold pyNext
 refine bd (vy (x_ (name:=kO "__next__") hit.typeIs sV
  (jz sV hit.typeIs RS ?_ (RQ _))))
 refine bd (eg ?_)
 refine bd ?_
 refine bd ?_
 first|refine bd (xW hit.typeIs (eg ?_))|refine bd (x8 hit.typeIs (eg ?_))
 refine bd (BU ho hd ?_)
 have xo:Ql "dict_keyiterator"=false:=by decide
 simp only[xo,gG,if_false]
 show wpAny _ _ (if(im d==iP)=true then _ else _) _ _ s
 rw[if_neg (show ¬((im d==iP)=true)from bI)]
 refine bd (eg ?_)
 refine bd (J8 gA j7 ?_)
 rw[if_neg (by rw[hsz];simp)]
 refine bd (eg ?_)
 refine bd (K' gA j7 ?_)
 rw[if_neg (by simp)]
 refine eg ?_
 obtain⟨ac_,fe⟩:=xX.mp hx
 simp only[show ¬((i:Int)<0)from by lia,if_false,fk,kf ac_]
 refine bd ?_
 first|refine bd (xW hit.typeIs (eg ?_))|refine bd (x8 hit.typeIs (eg ?_))
 refine bd (wpAny_isOneOf_keyiter hit.typeIs ?_)
 show wpAny _ _ (setField (.ref it) 1 (rawInt ((i:Int)+1)) >>= _) _ _ s
 refine bd (u5 ho hd (by simp) ?_)
 have oX:(s.heap.update it (nj (·.setIfInBounds 1 (rawInt ((i:Int)+1))))).IsKeyIter it d (i+1) n ep:=
  ⟨_,kl _ ho (yl (mI hd _)),(Obj.cls_mapFields ..).trans hc,by rw[mI hd];simp[rawInt]⟩
 refine bd (b_ ?_)
 refine bd (wpAny_isOneOf_keyiter (s:={s with heap:=s.heap.update it (nj (·.setIfInBounds 1 (rawInt ((i:Int)+1))))}) oX.typeIs ?_)
 show wpAny _ _ (pure es[i].key) _ _ _
 rw[fe]
 exact eg (eg ⟨_,rfl,eg (hQ _ oX (iE ..))⟩)
theorem TH{it d:ac}{i n ep:Nat}{od:Obj}{es:Array gY}{Q:Option al->ap->Prop}(hh:A.handled=none)(hit:s.heap.IsKeyIter it d i n ep)(gA:s.heap.get? d=some od)(j7:od.data=.dict es ep)
 (hsz:es.size=n)(Ph:n<=i)(hQ:∀h',Heap.ExtBut it s.heap h'->Q none {s with heap:=h'}):wpAny (model prog w) A (pyNext (.ref it)) Q E s:=by
 obtain⟨o,ho,hc,hd⟩:=id hit
 unfold pyNext
 refine bd (vy (x_ (name:=kO "__next__") hit.typeIs sV
  (jz sV hit.typeIs RS ?_ (RQ _))))
 refine bd (eg ?_)
 refine bd ?_
 refine bd ?_
 first|refine bd (xW hit.typeIs (eg ?_))|refine bd (x8 hit.typeIs (eg ?_))
 refine bd (BU ho hd ?_)
 have xo:Ql "dict_keyiterator"=false:=by decide
 simp only[xo,gG,if_false]
 show wpAny _ _ (if(im d==iP)=true then _ else _) _ _ s
 rw[if_neg (show ¬((im d==iP)=true)from bI)]
 refine bd (eg ?_)
 refine bd (J8 gA j7 ?_)
 rw[if_neg (by rw[hsz];simp)]
 refine bd (eg ?_)
 refine bd (K' gA j7 ?_)
 rw[if_neg (by simp)]
 refine eg ?_
 have ac8:es.size<=i:=by rw[hsz];exact Ph
 simp only[show ¬((i:Int)<0)from by lia,if_false,fk,Gy ac8]
 refine bd ?_
 first|refine bd (xW hit.typeIs (eg ?_))|refine bd (x8 hit.typeIs (eg ?_))
 show wpAny _ _ (setField (.ref it) 0 .none >>= _) _ _ s
 refine bd (u5 ho hd (by simp) ?_)
 show wpAny _ _ (newExc (.type "StopIteration") [] >>= _) _ _ _
 refine bd ?_
 simp only[newExc,newTuple]
 refine bd (kz ?_ (by size_fits))
 refine bd (m:=firstArgMember _ _) (Df (a:=iP) (by first|rfl|(simp only[firstArgMember];rfl)) ?_)
 refine kz ?_ (by size_fits)
 simp only[raiseNew]
 refine bd (wpAny_handled ?_)
 rw[show A.in1.handled=none from hh]
 refine bd (eg (wpAny_throw ?_))
 refine bd (mU (T:="StopIteration") (b:=true) ⟨_,Tl _ rfl,rfl⟩ isSubtype_stop ?_)
 exact eg (hQ _ (((iE ..).extBut.push _).push _))
end
theorem Wr{α β:Type}{G:α->β->Prop}{l₁:List α}{l₂:List β}(h:Paired G l₁ l₂):∀{i:Nat}{a:α},l₁[i]? =some a->∃b,l₂[i]? =some b/\G a b:=by
 induction h with
 |nil=>intro i a e;simp at e
 | @cons a b l₁ l₂ r t ih=>
   intro i a' e
   cases i with
   |zero=>
    simp only[Ua,SW]at e
    subst e
    exact⟨b,rfl,r⟩
   |succ j=>
    simp only[x3]at e⊢
    exact ih e
section
variable{X:Cx}{pins:List (ac×Obj)}{σ:St}{H:Hp}{s:ap}{d:ac}{o:Obj}
end
section
variable{P:lw}{w:li}{K:ge}{tg:lv}{d:ac}{o:Obj}{es:Array gY}{ep:Nat}
end
section
variable{X:Cx}{tg e:lv}{td:TE}{apos bj:Pos}
end
noncomputable def Fp(K:ge)(a:ac):It:=
 ⟨λi H=>∃(xs:List V)(x:V),aa K H a xs/\xs[i]? =some x,λi H v H'=>∃T x,v=.ref T/\H T=none/\H'=upd H T (.tup [.int (i:Nat),x])/\∀xs,aa K H a xs->xs[i]? =some x,λi H=>∃xs:List V,aa K H a xs/\xs.length<=i⟩
theorem X8{P:lw}{w:li}{K:ge}{elts:List lv}{kk:Nat}{lT:Pos}(a e it:ac):
 Turn P w K (.Tuple elts kk lT) (Fp K a) [e,it] e (λi h=>(∃old,IsEnum h e it ((i:Nat):Int) old)/\h.IsListIter it a i/\e≠it) where
 mem:=by simp
 obj:=λi h st b hb=>by
  obtain⟨⟨old,he⟩,⟨o,ho,hc,hd⟩,_⟩:=st
  have e':b=e\/b=it:=by simpa using hb
  rcases e' with z|z
  .rw[z];exact⟨_,he,λv q=>nomatch q⟩
  .rw[z];exact⟨o,ho,λv q=>by rw[hd]at q;cases q⟩
 keep:=λi h h' st k=>let⟨⟨old,he⟩,hi,bn⟩:=st;⟨⟨old,k e (by simp) _ he⟩,hi.at λo q=>k it (by simp) o q,bn⟩
 item:=by
  intro X hP hw hK hc i pins s σ H E I hf st hg
  subst hP hw hK
  obtain⟨⟨old,he⟩,hit,bn⟩:=st
  obtain⟨xs,x,hq,hx⟩:=hg
  obtain⟨ci,rv,p,hz⟩:=I.list hq
  obtain⟨u,hu,ru⟩:=rv.get hx
  have me:e<s.heap.objs.size:=FB he
  have a_:it<s.heap.objs.size:=by obtain⟨_,q,_⟩:=hit;exact FB q
  refine wpAny_pyNext_enum_item he hit p.isList (x:=u) (by simpa using hu) bn λh' ho oX hT hsz hk=> ?_
  refine⟨_,rfl,wpAny_letOwnedTupleGo_enum (s:={s with heap:=h',toks:=s.toks+1}) ho λh'' he' sb=> ?_⟩
  have hT2:h''.get? s.heap.objs.size=some {cls:=.type "tuple",data:=.seq #[.int i s.toks,u]}:=(sb.2 _ (nA me)).trans hT
  have new:aA X.prog X.w (upd H s.heap.objs.size (.tup [.int (i:Nat),x])) h'' s.heap.objs.size (.tup [.int (i:Nat),x]):=
   ⟨by show 2<=sizeLine;decide,[.int i s.toks,u],.cons ⟨_,rfl⟩ (.cons ru .nil),⟨_,hT2,rfl,_,rfl⟩⟩
  have I1:Inv X pins σ (upd H s.heap.objs.size (.tup [.int (i:Nat),x])) {s with heap:=h'',toks:=s.toks+1}:=
   I.X_ (ch:=[e,it]) (λb ob hb q=>(sb.2 b (λz=>hb (by simp[z]))).trans (hk b ob (λz=>hb (by simp[z])) (λz=>hb (by simp[z])) q)) hf (nn _) new
  refine⟨.ref s.heap.objs.size,_,I1,rfl,⟨_,x,rfl,I.ab.fresh (nn _),rfl,λys hy=>by rw[I.CJ hy hq];exact hx⟩,⟨⟨u,?_⟩,oX.at λo q=>(sb.2 it (dS bn)).trans q,bn⟩,λb hb=> ?_⟩
  .have e1:((i+1:Nat):Int)=(i:Int)+1:=by lia
   rw[e1];exact he'
  .have hb':b<s.heap.objs.size:=by
    have e':b=e\/b=it:=by simpa using hb
    rcases e' with z|z
    .rw[z];exact me
    .rw[z];exact a_
   rw[gl (Ps hb')]
   exact(hf b hb).1
 done:=by
  intro X hP hw hK hc i pins s σ H E I hf st hg
  subst hP hw hK
  obtain⟨⟨old,he⟩,hit,bn⟩:=st
  obtain⟨xs,hq,hx⟩:=hg
  obtain⟨ci,rv,p,hz⟩:=I.list hq
  obtain⟨f0,f1,f2,f3,f4,f5⟩:=hf it (by simp)
  have hl:=rv.length
  exact wpAny_pyNext_enum_end (I.ok.hd hc) he hit p.isList (by simp;lia) λh' eb=>⟨rfl,I.turned (t':=s.toks) (λb o hb q=>eb b o hb q) f0 f1 f3 f4 f5⟩
 self:=λA i s Q E st h=>let⟨⟨_,he⟩,_⟩:=st;wpAny_pyIter_enum he h
def Ez(K:ge)(ta:TA):TI:=λσ H R=>ta σ H λvs H1=>∃a xs,vs=[.ref a]/\aa K H1 a xs/\R (Fp K a) H1
theorem aaB{X:Cx}{e:lv}{ta:TA}{p pos lT:Pos}{elts:List lv}{kk:Nat}(hg:Gl X "enumerate")(hm:X.mg "enumerate"=none)(ha:PA X [e] ta)(hs:starEach [e] X.env=[(false,eval e X.env)]:=by rfl):
 PI X (.Tuple elts kk lT) (.Call (.Name "enumerate" p) [e] [] pos) (Ez X.K ta):=by
 intro pins s σ H R I h
 refine Call_ (i7 I hg hm boot_enumerate (mw (rs (ha pos pins s σ H _ I h) λus s1⟨vs,H1,I1,r1,q1⟩=> ?_) hs rfl))
 obtain⟨a,xs,ex,hq,q⟩:=q1
 subst ex
 cases r1 with
 |cons r rr=>
  cases rr
  cases r
  obtain⟨ci,rv,p',hz⟩:=I1.list hq
  refine call_enumerate_list p'.isList λh' he hit hsz hk=>wpAny_pyIter_enum he ?_
  have I2:Inv X pins σ H1 {s1 with heap:=h'}:=I1.kept (t':=s1.toks) hk
  refine⟨s1.heap.objs.size+1,[s1.heap.objs.size+1,s1.heap.objs.size],_,_,H1,rfl,I2,X8 a (s1.heap.objs.size+1) s1.heap.objs.size,⟨⟨.none,he⟩,hit,Nat.succ_ne_self _⟩,λb hb=> ?_,q⟩
  have e':b=s1.heap.objs.size+1\/b=s1.heap.objs.size:=by simpa using hb
  have hle:s1.heap.objs.size<=b:=by
   rcases e' with z|z
   .rw[z];exact Nat.le_add_right _ _
   .rw[z];exact nn _
  exact I1.oW hle (I1.ab.fresh hle)
end L2
section
namespace Bits
open PySem PyProof.Rows
end Bits
end
section
namespace TL
open PySem PySem.Builtin PySem.Builtin.Str PySem.StrLaws
noncomputable abbrev tl(x:Str):List Nat:=x.cps.toList
noncomputable def pre(S l:List Nat):Bool:=l.take S.length==S
noncomputable def FZ(S:List Nat):Nat->List Nat->List Nat->List (List Nat)
 |_,acc,[]=>[acc]
 |0,acc,c::r=>if pre S (c::r)=true then acc::FZ S (S.length-1) [] r else FZ S 0 (acc++[c]) r
 |k+1,acc,_::r=>FZ S k acc r
noncomputable def par(S:List Nat):List Nat->List Nat->Option (List Nat×List Nat)
 |_,[]=>none
 |acc,c::r=>if pre S (c::r)=true then some (acc,(c::r).drop S.length)else par S (acc++[c]) r
end TL
end
namespace L2
open PySem PySem.Spec PyProof.Rows
section
variable{X:Cx}{pins:List (ac×Obj)}{σ:St}{H:Hp}{s:ap}{Q:VK}
end
section
variable{X:Cx}
end
section
variable{X:Cx}{o e:lv}{to te:TE}
end
end L2
namespace L2
open PySem PySem.Spec PyProof.Rows
section
variable{X:Cx}
end
end L2
namespace Att
open PySem PySem.W PySem.Calls PyProof.Rows
section
variable{prog:lw}{w:li}{A:ww}{E:al->ap->Prop}{s:ap}{K:Frag}
noncomputable def ledger(h:io)(L d:ac):List (ac×Obj):=(sw h.objs.size).filterMap λa=>if a=L\/a=d then none else(h.get? a).map λo=>(a,o)
end
end Att
namespace L2
open PySem PySem.Spec PyProof.Rows
end L2
namespace L2
open PySem PySem.Spec PyProof.Rows
end L2
namespace L2
open PySem PySem.Spec PyProof.Rows
noncomputable def inClass(s:nl)(j:Nat):nl:=match s with
 |.ClassDef _ _ _ body _ _ _ _ _ _ _=>body.getD j (.Pass ⟨0,0,0,0⟩)
 |_=>.Pass ⟨0,0,0,0⟩
noncomputable def jL(s:nl):qY:=match s with
 |.FunctionDef _ a _ _ _ _ _ _ _ _=>a
 |_=>{posonlyargs:=[],args:=[],vararg:=none,kwonlyargs:=[],kw_defaults:=[],kwarg:=none,defaults:=[]}
noncomputable def g8(s:nl):List nl:=match s with
 |.FunctionDef _ _ b _ _ _ _ _ _ _=>b
 |_=>[]
noncomputable def sn(s:nl):aK:=match s with
 |.FunctionDef _ _ _ _ _ _ sc _ _ _=>sc
 |_=>{kind:=.function,names:=[],isGenerator:=false,isCoroutine:=false}
abbrev ae:eY:=λ_ _ _ _ _ _=>False
abbrev E0:XK:=λ_ _ _=>False
theorem rF{X:Cx}:Passes ae X E0:=λ_ _ _ _ _ _ _ h=>h.elim
structure re (K:ge) (x qual:Str) (st:nl) (f:ac) (fd:on):Prop where
 ex:∃(oc:al)(od:Option ac)(kV doc pm:al)(an:Option ac)(lm ct:al)(da:Array (Option al)),
  fd=iM x qual (jL st) (g8 st) (sn st) .none kV doc pm an lm ct/\K.lookup f=some ⟨oc,od,.func fd,da⟩/\uM K lm qual=true
 kp:fq K (.ref f)=true
section
variable{P:lw}{w:li}{K:ge}{mg:Str->Option al}{base:io}
theorem re.ok{x qual:Str}{st:nl}{f:ac}{fd:on}{N ps:List Str}{k:Nat}{sp:Sp}(F:re K x qual st f fd)(S:ut N ps (sn st))(len:∀vs H Q E,sp vs H Q E->vs.length=ps.length)
 (i8:∀(lm:al)(A:ww)(outer:List Env)(s:ap)(H:Hp)(vs:List V)(Q:VK)(E:XK),UF k (A.deeper (envOfC qual (sn st) s.heap.objs.size f lm))->sp vs H Q E->
   ∃t,eF (ia ae P w K mg base N qual (sn st) f lm A outer s H E).pG (g8 st) t/\t {nx:=λ_ H'=>Q .ag H',rt:=Q} (start N vs) H):o0 P w K mg base ae (k+1) f fd ps sp:=by
 obtain⟨oc,od,kV,doc,pm,an,lm,ct,da,rfl,lk,d5⟩:=F.ex
 refine NT lk d5 S len λA outer s H vs Q E hr c6=> ?_
 obtain⟨t,h,q⟩:=i8 lm A outer s H vs Q E hr c6
 exact⟨t,h.pG,q⟩
theorem re.binds{x qual:Str}{st:nl}{f:ac}{fd:on}{ps:List Str}(F:re K x qual st f fd)
 (h:∀(kV doc pm:al)(an:Option ac)(lm ct:al)(us:List al),us.length=ps.length->bindArgs (iM x qual (jL st) (g8 st) (sn st) .none kV doc pm an lm ct) ⟨us,[]⟩=pure (ps.zip us)):Binds K fd ps []:=by
 obtain⟨oc,od,kV,doc,pm,an,lm,ct,da,rfl,lk,d5⟩:=F.ex
 exact .all (h kV doc pm an lm ct)
theorem Nj{x qual:Str}{st:nl}{f:ac}{oc:al}{od an:Option ac}{da:Array (Option al)}{kV doc pm lm ct:al}(l:K.lookup f=some ⟨oc,od,.func (iM x qual (jL st) (g8 st) (sn st) .none kV doc pm an lm ct),da⟩)
 (c:uM K lm qual=true)(k:fq K (.ref f)=true):re K x qual st f (iM x qual (jL st) (g8 st) (sn st) .none kV doc pm an lm ct):=⟨⟨oc,od,kV,doc,pm,an,lm,ct,da,rfl,l,c⟩,k⟩
end
theorem bU{A:ww}{k:Nat}(hr:UF k A):A.units+1<cLine:=gH (Nat.add_le_add_left (by decide:1<=64) _) hr.units
section
variable{X:Cx}
theorem pv(i:Nat){x:Str}{pos:Pos}(hN:X.N[i]? =some x:=by rfl)(hv:pf X.env.scope x:=by first|exact rJ rfl|exact hU (rJ rfl)|exact hU (hU rfl))(hd:(x==("__debug__":Str))=false:=by decide)
 (d5:(x==("__classdict__":Str))=false:=by decide):PE X (.Name x pos) (Fn i):=abH hN hv hd d5
end
theorem cW{c A B:Prop}[Decidable c](h1:c->A)(h2:¬c->B):if c then A else B:=by
 by_cases h:c
 .rw[if_pos h]
  exact h1 h
 .rw[if_neg h]
  exact h2 h
def db(H H':Hp):Prop:=∀b o,H b=some o->H' b=some o
theorem db.refl(H:Hp):db H H:=λ_ _ h=>h
theorem db.trans{H H1 H2:Hp}(a:db H H1)(b:db H1 H2):db H H2:=λc o h=>b c o (a c o h)
theorem db.free{H H':Hp}(e:db H H'){l:ac}(h:H' l=Cr):H l=Cr:=by
 cases q:H l with
 |none=>rfl
 |some o=>
  rw[e l o q]at h
  cases h
theorem db.seq{K:ge}{H H':Hp}{a:ac}{xs:List V}(e:db H H')(h:aa K H a xs):aa K H' a xs:=by
 rcases h with(h|⟨o,h⟩)|h
 .exact .inl (.inl (e _ _ h))
 .exact .inl (.inr ⟨o,e _ _ h⟩)
 .exact .inr h
section
variable{κ:Type}[DecidableEq κ]
theorem M5{kvs:List (κ×V)}{k:κ}{v:V}(h:On kvs k=some v):k∈kvs.map (·.1):=by
 have q:(kvs.any λkv=>decide (kv.1=k))=true:=by
  rw[oa,h]
  all_goals rfl
 obtain⟨p,hp,e⟩:=mR.mp q
 exact nw.mpr ⟨p,hp,of_decide_eq_true e⟩
end
theorem at_of{xs:List V}{z:Int}{j:Nat}{v:V}(e:z=(j:Int))(h:xs[j]? =some v):e9 xs z=some v:=by
 rw[e]
 exact la h
theorem db.made{H H1:Hp}{x dx C:ac}(nx:H x=Cr)(nd:H dx=Cr)(k:∀b o,(upd (upd H dx (.own x)) x (.ins C dx [])) b=some o->b≠x->H1 b=some o):db H H1:=λb o e=>
 k b o (by rw[gl (wT e nx),gl (wT e nd)];exact e) (wT e nx)
end L2
set_option maxHeartbeats 2000000
namespace L2
open PySem PySem.Spec PyProof.Rows
open PySem.W (WData Codec OpenSpec Well WellAll ReadsW ReadsAllW)
mutual
inductive Dw (K:ge) (H:Hp):V->aT->Prop
 |ag:Dw K H .ag .none
 |bl (b:Bool):Dw K H (.bl b) (.bool b)
 |int (i:Int):Dw K H (.int i) (.int i)
 |str (x:Str):Dw K H (.str x) (.str x)
 |bV (b:Array UInt8):Dw K H (.bV b) (.bytes b.toList)
 |lst {a:ac} {xs:List V} {ds:List aT}:aa K H a xs->eU K H xs ds->Dw K H (.ref a) (.list ds)
 |tup {a:ac} {xs:List V} {ds:List aT}:P3 K H a xs->eU K H xs ds->Dw K H (.ref a) (.tuple ds)
inductive eU (K:ge) (H:Hp):List V->List aT->Prop
 |nil:eU K H [] []
 |cons {v:V} {vs:List V} {d:aT} {ds:List aT}:Dw K H v d->eU K H vs ds->eU K H (v::vs) (d::ds)
end
theorem Mq{K:ge}{H:Hp}:∀ns:List Int,eU K H (ns.map V.int) (ns.map WData.int)
 |[]=>.nil
 |n::r=>.cons (.int n) (Mq r)
theorem Mw{K:ge}{H:Hp}:∀(ns:List Int)(xs:List V),eU K H xs (ns.map WData.int)->xs=ns.map V.int
 |[],xs,h=>by
  cases h
  rfl
 |n::r,xs,h=>by
  cases h with
  |cons h1 h2=>
   cases h1
   rw[Mw r _ h2]<;>rfl
section
variable{P:lw}{w:li}{K:ge}{H:Hp}{h:io}{R:WS}{cl:Str->Option ac}
theorem ab0{a:ac}{xs:List V}(ab:SL P w H h)(KX:K.In h)(q:aa K H a xs):∃(ci:List al)(o:Obj)(n:Nat),Vals xs ci/\h.get? a=some o/\o.cls=.type "list"/\o.data=.seq ci.toArray n:=by
 rcases q with q|⟨o,ci,n,e,hc,_,hd,_,hv⟩
 .obtain⟨_,ci,n,hv,e⟩:=(show aA P w H h a (.lst xs)from q.ok ab)
  exact⟨ci,_,n,hv,e,rfl,rfl⟩
 .exact⟨ci.toList,o,n,hv,KX _ _ e,hc,by simp[hd]⟩
theorem ab1{a:ac}{xs:List V}(ab:SL P w H h)(KX:K.In h)(q:P3 K H a xs):∃(ci:List al)(o:Obj)(n:Nat),Vals xs ci/\h.get? a=some o/\o.cls=.type "tuple"/\o.data=.seq ci.toArray n:=by
 rcases q with q|⟨o,ci,n,e,hc,hd,_,hv⟩
 .obtain⟨_,ci,hv,o,e,hc,n,hd⟩:=(show aA P w H h a (.tup xs)from q.ok ab)
  exact⟨ci,o,n,hv,e,hc,hd⟩
 .exact⟨ci.toList,o,n,hv,KX _ _ e,hc,by simp[hd]⟩
mutual
theorem Dw.reads(ab:SL P w H h)(KX:K.In h):∀(d:aT)(v:V)(u:al),Dw K H v d->RelV v u->∃as,ReadsW R cl h u d as
 |.none,_,_,x,r=>by
  cases x
  cases r
  exact⟨_,ReadsW.none⟩
 |.bool b,_,_,x,r=>by
  cases x
  cases r
  exact⟨_,ReadsW.bool b⟩
 |.int i,_,_,x,r=>by
  cases x
  obtain⟨t,rfl⟩:=r
  exact⟨_,ReadsW.int i t⟩
 |.str s,_,_,x,r=>by
  cases x
  obtain⟨t,rfl⟩:=r
  exact⟨_,ReadsW.str s t⟩
 |.bytes b,_,_,x,r=>by
  cases x
  obtain⟨t,rfl⟩:=r
  exact⟨_,ReadsW.bytes _ t⟩
 |.list ds,_,_,x,r=>by
  cases x with
  |lst hs ha=>
   cases r
   obtain⟨ci,o,n,rv,ho,hc,hd⟩:=ab0 ab KX hs
   obtain⟨as,hr⟩:=Dw.readsAll ab KX ds _ ci ha rv
   exact⟨_,ReadsW.list ho hc hd hr⟩
 |.tuple ds,_,_,x,r=>by
  cases x with
  |tup hs ha=>
   cases r
   obtain⟨ci,o,n,rv,ho,hc,hd⟩:=ab1 ab KX hs
   obtain⟨as,hr⟩:=Dw.readsAll ab KX ds _ ci ha rv
   exact⟨_,ReadsW.tuple ho hc hd hr⟩
 |.float _,_,_,x,_=>by cases x
 |.dict _,_,_,x,_=>by cases x
 |.bytearray _,_,_,x,_=>by cases x
 |.set _,_,_,x,_=>by cases x
 |.frozenset _,_,_,x,_=>by cases x
 |.obj _ _,_,_,x,_=>by cases x
theorem Dw.readsAll(ab:SL P w H h)(KX:K.In h):∀(ds:List aT)(vs:List V)(us:List al),eU K H vs ds->Vals vs us->∃as,ReadsAllW R cl h us ds as
 |[],_,_,x,r=>by
  cases x
  cases r
  exact⟨_,ReadsAllW.nil⟩
 |d::ds,_,_,x,r=>by
  cases x with
  |cons h1 h2=>
   cases r with
   |cons r1 r2=>
    obtain⟨as,q1⟩:=Dw.reads ab KX d _ _ h1 r1
    obtain⟨bs,q2⟩:=Dw.readsAll ab KX ds _ _ h2 r2
    exact⟨_,ReadsAllW.cons q1 q2⟩
end
end
mutual
noncomputable def eI:aT->Bool
 |.none=>true
 |.bool _=>true
 |.int _=>true
 |.str _=>true
 |.bytes _=>true
 |.list xs=>fM xs
 |.tuple xs=>fM xs
 |_=>false
noncomputable def fM:List aT->Bool
 |[]=>true
 |x::r=>eI x&&fM r
end
theorem LL{α:Type}{f:α->aT}(h:∀a,eI (f a)=true):∀l:List α,fM (l.map f)=true
 |[]=>rfl
 |x::r=>by
  show(eI (f x)&&fM (r.map f))=true
  rw[h x,LL h r]<;>rfl
theorem jO:∀(c:Codec)(a:c.denote),eI (c.enc a)=true
 |.unit,_=>rfl
 |.bool,_=>rfl
 |.int _ _,_=>rfl
 |.nat _ _,_=>rfl
 |.u8,_=>rfl
 |.bytes _ _,_=>rfl
 |.text _ _ _ _,_=>rfl
 |.list _ _ c,a=>LL (λx=>jO c x) a
 |.pair c d,a=>by
  show(eI (c.enc a.1)&&(eI (d.enc a.2)&&true))=true
  rw[jO c a.1,jO d a.2]<;>rfl
 |.triple c d e,a=>by
  show(eI (c.enc a.1)&&(eI (d.enc a.2.1)&&(eI (e.enc a.2.2)&&true)))=true
  rw[jO c a.1,jO d a.2.1,jO e a.2.2]<;>rfl
 |.option c,none=>rfl
 |.option c,some x=>jO c x
theorem KG:∀(cs:List Codec)(a:Jr cs),fM (vt cs a)=true
 |[],_=>rfl
 |c::cs,a=>by
  show(eI (c.enc a.1)&&fM (vt cs a.2))=true
  rw[jO c a.1,KG cs a.2]<;>rfl
theorem BQ:∀{xs:List aT}{d:aT},d∈xs->d.weight<=Am xs
 |[],d,h=>absurd h (by simp)
 |x::r,d,h=>by
  show d.weight<=x.weight+1+Am r
  rcases wl.mp h with e|m
  .rw[e]
   lia
  .have z:=BQ m
   lia
noncomputable def toV:al->V
 |.none=>.ag
 |.bool b=>.bl b
 |.int i _=>.int i
 |.str x _=>.str x
 |.bytes b _=>.bV b
 |.ref a=>.ref a
 |_=>.ag
def eZ(A:List ac):al->Prop
 |.none=>True
 |.bool _=>True
 |.int _ _=>True
 |.str _ _=>True
 |.bytes _ _=>True
 |.ref a=>a∈A
 |_=>False
theorem eZ.mono{A B:List ac}(h:∀a∈A,a∈B):∀{u:al},eZ A u->eZ B u:=λ{u}x=>by
 cases u with
 |ref a=>exact h a x
 |none=>trivial
 |bool b=>trivial
 |int i t=>trivial
 |str s t=>trivial
 |bytes b t=>trivial
 |_=>exact bR x
theorem Zm{A:List ac}{u:al}(x:eZ A u):RelV (toV u) u:=by
 cases u with
 |ref a=>rfl
 |none=>rfl
 |bool b=>rfl
 |int i t=>exact⟨t,rfl⟩
 |str s t=>exact⟨t,rfl⟩
 |bytes b t=>exact⟨t,rfl⟩
 |_=>exact bR x
theorem oe{A:List ac}:∀{vs:List al},(∀u∈vs,eZ A u)->Vals (vs.map toV) vs
 |[],_=>.nil
 |u::r,h=>.cons (Zm (h u (Go ..))) (oe λx hx=>h x (AT _ hx))
def fF(h:io)(A:List ac)(a:ac):Prop:=∃vs:List al,vs.length<=sizeLine/\(∀u∈vs,eZ A u)/\
 (h.get? a=some {cls:=.type "list",data:=.seq vs.toArray}\/h.get? a=some {cls:=.type "tuple",data:=.seq vs.toArray})
theorem fF.mono{h:io}{A B:List ac}{a:ac}(k:∀a∈A,a∈B)(x:fF h A a):fF h B a:=by
 obtain⟨vs,h1,h2,h3⟩:=x
 exact⟨vs,h1,λu hu=>(h2 u hu).mono k,h3⟩
theorem uU{P:lI}{h:io}:∀{vs:List al}{ds:List aT},lx P h vs ds->vs.length=ds.length
 |_,_,.nil=>rfl
 |_,_,.cons _ b=>by
  show _+1=_+1
  rw[uU b]
theorem K5{P:lI}{h:io}{v:al}{ds:List aT}(x:Well P h v (.list ds)):∃(a:ac)(vs:List al),v=.ref a/\h.get? a=some {cls:=.type "list",data:=.seq vs.toArray}/\lx P h vs ds:=by
 cases x with
 |list ho aE=>exact⟨_,_,rfl,ho,aE⟩
theorem J5{P:lI}{h:io}{v:al}{ds:List aT}(x:Well P h v (.tuple ds)):∃(a:ac)(vs:List al),v=.ref a/\h.get? a=some {cls:=.type "tuple",data:=.seq vs.toArray}/\lx P h vs ds:=by
 cases x with
 |tuple ho aE=>exact⟨_,_,rfl,ho,aE⟩
theorem K4{P:lI}{h:io}{us:List al}{d:aT}{ds:List aT}(x:lx P h us (d::ds)):∃(v:al)(vs:List al),us=v::vs/\Well P h v d/\lx P h vs ds:=by
 cases x with
 |cons a b=>exact⟨_,_,rfl,a,b⟩
theorem MA{n:Nat}(h:n<=1048576):n<=sizeLine:=Ch h (by decide)
section
variable{P:lI}{h:io}
mutual
theorem Yv:∀(d:aT)(v:al),Well P h v d->eI d=true->d.weight<=1048576->∃A:List ac,eZ A v/\∀a∈A,fF h A a
 |.none,_,x,_,_=>by
  cases x
  exact⟨[],trivial,λa m=>absurd m (by simp)⟩
 |.bool b,_,x,_,_=>by
  cases x
  exact⟨[],trivial,λa m=>absurd m (by simp)⟩
 |.int i,_,x,_,_=>by
  cases x
  exact⟨[],trivial,λa m=>absurd m (by simp)⟩
 |.str s,_,x,_,_=>by
  cases x
  exact⟨[],trivial,λa m=>absurd m (by simp)⟩
 |.bytes b,_,x,_,_=>by
  cases x
  exact⟨[],trivial,λa m=>absurd m (by simp)⟩
 |.list ds,_,x,p,z=>by
  obtain⟨a,vs,rfl,ho,aE⟩:=K5 x
  have z2:Am ds<=1048576:=z
  obtain⟨A,h1,h2⟩:=vL ds _ aE p λd hd=>Ch (BQ hd) z2
  have k:∀b∈A,b∈a::A:=λb hb=>AT _ hb
  refine⟨a::A,Go ..,λb hb=> ?_⟩
  rcases wl.mp hb with e|m
  .rw[e]
   exact⟨vs,MA (by rw[uU aE];exact Ch (QR ds) z2),λu hu=>(h1 u hu).mono k,.inl ho⟩
  .exact(h2 b m).mono k
 |.tuple ds,_,x,p,z=>by
  obtain⟨a,vs,rfl,ho,aE⟩:=J5 x
  have z2:Am ds<=1048576:=z
  obtain⟨A,h1,h2⟩:=vL ds _ aE p λd hd=>Ch (BQ hd) z2
  have k:∀b∈A,b∈a::A:=λb hb=>AT _ hb
  refine⟨a::A,Go ..,λb hb=> ?_⟩
  rcases wl.mp hb with e|m
  .rw[e]
   exact⟨vs,MA (by rw[uU aE];exact Ch (QR ds) z2),λu hu=>(h1 u hu).mono k,.inr ho⟩
  .exact(h2 b m).mono k
 |.float _,_,_,p,_=>fm (show false=true from p)
 |.dict _,_,_,p,_=>fm (show false=true from p)
 |.bytearray _,_,_,p,_=>fm (show false=true from p)
 |.set _,_,_,p,_=>fm (show false=true from p)
 |.frozenset _,_,_,p,_=>fm (show false=true from p)
 |.obj _ _,_,_,p,_=>fm (show false=true from p)
theorem vL:∀(ds:List aT)(vs:List al),lx P h vs ds->fM ds=true->(∀d∈ds,d.weight<=1048576)->∃A:List ac,(∀u∈vs,eZ A u)/\∀a∈A,fF h A a
 |[],_,x,_,_=>by
  cases x
  exact⟨[],λu m=>absurd m (by simp),λa m=>absurd m (by simp)⟩
 |d::ds,_,x,p,z=>by
  obtain⟨v,vs,rfl,x1,x2⟩:=K4 x
  have q:eI d=true/\fM ds=true:=Vo.mp p
  obtain⟨A,a1,a2⟩:=Yv d v x1 q.1 (z d (Go ..))
  obtain⟨B,b1,b2⟩:=vL ds vs x2 q.2 λe he=>z e (AT _ he)
  have kA:∀b∈A,b∈A++B:=λb hb=>NE.mpr (.inl hb)
  have kB:∀b∈B,b∈A++B:=λb hb=>NE.mpr (.inr hb)
  refine⟨A++B,λu hu=> ?_,λb hb=> ?_⟩
  .rcases wl.mp hu with e|m
   .rw[e]
    exact a1.mono kA
   .exact(b1 u m).mono kB
  .rcases NE.mp hb with m|m
   .exact(a2 b m).mono kA
   .exact(b2 b m).mono kB
end
end
noncomputable def xn(o:Obj):Option HO:=match o.data with
 |.seq vs _=>if(o.cls==jH "list")=true then some (.ai o (.lst (vs.toList.map toV)))else some (.ai o (.tup (vs.toList.map toV)))
 |_=>none
noncomputable def cq(K:ge)(h:io)(A:List ac):Hp:=λb=>if b∈A then(if(K.lookup b).isNone=true then(h.get? b).bind xn else none)else none
def NS(H:Hp):Prop:=∀b,H b=none\/∃o u,H b=some (.ai o u)
theorem Lr(vs:List al):xn {cls:=.type "list",data:=.seq vs.toArray}=some (.ai {cls:=.type "list",data:=.seq vs.toArray} (.lst (vs.map toV))):=by
 show(if(jH "list"==jH "list")=true then some (HO.ai {cls:=.type "list",data:=.seq vs.toArray} (.lst (vs.toArray.toList.map toV)))else some (HO.ai {cls:=.type "list",data:=.seq vs.toArray} (.tup (vs.toArray.toList.map toV))))=_
 rw[if_pos (beq_self_eq_true _)]
theorem Ls(vs:List al):xn {cls:=.type "tuple",data:=.seq vs.toArray}=some (.ai {cls:=.type "tuple",data:=.seq vs.toArray} (.tup (vs.map toV))):=by
 show(if(jH "tuple"==jH "list")=true then some (HO.ai {cls:=.type "tuple",data:=.seq vs.toArray} (.lst (vs.toArray.toList.map toV)))else some (HO.ai {cls:=.type "tuple",data:=.seq vs.toArray} (.tup (vs.toArray.toList.map toV))))=_
 rw[if_neg (by decide)]
section
variable{P:lw}{w:li}{K:ge}{h:io}{A:List ac}
theorem wc{b:ac}{o:Obj}(hb:b∈A)(hk:K.lookup b=none)(e:h.get? b=some o):cq K h A b=xn o:=by
 unfold cq
 rw[if_pos hb,hk,if_pos (show(none:Option Obj).isNone=true from rfl),e]<;>rfl
theorem aar{b:ac}{u:HO}(q:cq K h A b=some u):b∈A/\K.lookup b=none:=by
 unfold cq at q
 by_cases hb:b∈A
 .rw[if_pos hb]at q
  cases hk:K.lookup b with
  |none=>exact⟨hb,rfl⟩
  |some o=>
   rw[hk,if_neg (by simp)]at q
   cases q
 .rw[if_neg hb]at q
  cases q
theorem we(ar:∀a∈A,fF h A a){b:ac}{u:HO}(q:cq K h A b=some u):K.lookup b=none/\∃vs:List al,vs.length<=sizeLine/\(∀u∈vs,eZ A u)/\
 ((h.get? b=some {cls:=.type "list",data:=.seq vs.toArray}/\u=.ai {cls:=.type "list",data:=.seq vs.toArray} (.lst (vs.map toV)))\/
  (h.get? b=some {cls:=.type "tuple",data:=.seq vs.toArray}/\u=.ai {cls:=.type "tuple",data:=.seq vs.toArray} (.tup (vs.map toV)))):=by
 obtain⟨hb,hk⟩:=aar q
 obtain⟨vs,h1,h2,h3⟩:=ar b hb
 refine⟨hk,vs,h1,h2,?_⟩
 rcases h3 with e|e
 .rw[wc hb hk e,Lr]at q
  exact .inl ⟨e,(TD q).symm⟩
 .rw[wc hb hk e,Ls]at q
  exact .inr ⟨e,(TD q).symm⟩
theorem W'(ar:∀a∈A,fF h A a):NS (cq K h A):=λb=>by
 cases q:cq K h A b with
 |none=>exact .inl rfl
 |some u=>
  obtain⟨_,vs,_,_,⟨_,e⟩|⟨_,e⟩⟩:=we ar q
  .exact .inr ⟨_,_,by rw[e]⟩
  .exact .inr ⟨_,_,by rw[e]⟩
theorem ZP(ar:∀a∈A,fF h A a):SL P w (cq K h A) h:=λb u q=>by
 obtain⟨_,vs,h1,h2,⟨e,rfl⟩|⟨e,rfl⟩⟩:=we ar q
 .exact⟨e,by rw[dL];exact h1,vs,_,oe h2,e⟩
 .exact⟨e,by rw[dL];exact h1,vs,oe h2,_,e,rfl,_,rfl⟩
theorem wD{c c':al}{vs us:List al}(e:(some {cls:=c,data:=.seq vs.toArray}:Option Obj)=some {cls:=c',data:=.seq us.toArray}):c=c'/\vs=us:=by
 have e1:=TD e
 have e2:c=c':=congrArg Obj.cls e1
 have e3:Data.seq vs.toArray=Data.seq us.toArray:=congrArg Obj.data e1
 injection e3 with e4
 refine⟨e2,?_⟩
 have e5:=congrArg K8 e4
 simpa using e5
theorem acZ(KX:K.In h)(ar:∀a∈A,fF h A a){a:ac}{vs:List al}(ha:a∈A)(e:h.get? a=some {cls:=.type "list",data:=.seq vs.toArray}):(∀u∈vs,eZ A u)/\aa K (cq K h A) a (vs.map toV):=by
 obtain⟨us,h1,h2,h3⟩:=ar a ha
 have hu:us=vs:=by
  rcases h3 with q|q
  .rw[e]at q
   exact(wD q).2.symm
  .rw[e]at q
   exact absurd (Vu (wD q).1) (by decide)
 subst hu
 refine⟨h2,?_⟩
 cases hk:K.lookup a with
 |none=>exact .inl (.inr ⟨_,by rw[wc ha hk e,Lr]⟩)
 |some o=>
  have e2:=KX a o hk
  rw[e]at e2
  obtain rfl:=TD e2
  exact .inr ⟨_,us.toArray,_,hk,rfl,rfl,rfl,by rw[XV];exact h1,by simpa using oe h2⟩
theorem ac0(KX:K.In h)(ar:∀a∈A,fF h A a){a:ac}{vs:List al}(ha:a∈A)(e:h.get? a=some {cls:=.type "tuple",data:=.seq vs.toArray}):(∀u∈vs,eZ A u)/\P3 K (cq K h A) a (vs.map toV):=by
 obtain⟨us,h1,h2,h3⟩:=ar a ha
 have hu:us=vs:=by
  rcases h3 with q|q
  .rw[e]at q
   exact absurd (Vu (wD q).1) (by decide)
  .rw[e]at q
   exact(wD q).2.symm
 subst hu
 refine⟨h2,?_⟩
 cases hk:K.lookup a with
 |none=>exact .inl (.inr ⟨_,by rw[wc ha hk e,Ls]⟩)
 |some o=>
  have e2:=KX a o hk
  rw[e]at e2
  obtain rfl:=TD e2
  exact .inr ⟨_,us.toArray,_,hk,rfl,rfl,by rw[XV];exact h1,by simpa using oe h2⟩
mutual
theorem abj{Pm:lI}(KX:K.In h)(ar:∀a∈A,fF h A a):∀(d:aT)(v:al),Well Pm h v d->eI d=true->eZ A v->Dw K (cq K h A) (toV v) d
 |.none,_,x,_,_=>by
  cases x
  exact .ag
 |.bool b,_,x,_,_=>by
  cases x
  exact .bl b
 |.int i,_,x,_,_=>by
  cases x
  exact .int i
 |.str s,_,x,_,_=>by
  cases x
  exact .str s
 |.bytes b,_,x,_,_=>by
  cases x
  have z:=Dw.bV (K:=K) (H:=cq K h A) b.toArray
  exact z
 |.list ds,_,x,p,hu=>by
  obtain⟨a,vs,rfl,ho,aE⟩:=K5 x
  obtain⟨h2,hs⟩:=acZ KX ar hu ho
  exact .lst hs (wJ KX ar ds _ aE p h2)
 |.tuple ds,_,x,p,hu=>by
  obtain⟨a,vs,rfl,ho,aE⟩:=J5 x
  obtain⟨h2,hs⟩:=ac0 KX ar hu ho
  exact .tup hs (wJ KX ar ds _ aE p h2)
 |.float _,_,_,p,_=>fm (show false=true from p)
 |.dict _,_,_,p,_=>fm (show false=true from p)
 |.bytearray _,_,_,p,_=>fm (show false=true from p)
 |.set _,_,_,p,_=>fm (show false=true from p)
 |.frozenset _,_,_,p,_=>fm (show false=true from p)
 |.obj _ _,_,_,p,_=>fm (show false=true from p)
theorem wJ{Pm:lI}(KX:K.In h)(ar:∀a∈A,fF h A a):∀(ds:List aT)(vs:List al),lx Pm h vs ds->fM ds=true->(∀u∈vs,eZ A u)->eU K (cq K h A) (vs.map toV) ds
 |[],_,x,_,_=>by
  cases x
  exact .nil
 |d::ds,_,x,p,hu=>by
  obtain⟨v,vs,rfl,x1,x2⟩:=K4 x
  have q:eI d=true/\fM ds=true:=Vo.mp p
  exact .cons (abj KX ar d v x1 q.1 (hu _ (Go ..))) (wJ KX ar ds vs x2 q.2 λu m=>hu u (AT _ m))
end
end
theorem Rv{ds:List aT}(h:WData.layableAll ds=true):∀d∈ds,d.weight<=1048576:=λd hd=>
 (PySem.W.layableW_iff.mp (kC.mp h d hd)).2.2
theorem JK:∀(cs:List Codec)(a:Jr cs),(vt cs a).length=cs.length
 |[],_=>rfl
 |c::cs,a=>by
  show(vt cs a.2).length+1=cs.length+1
  rw[JK cs a.2]
end L2
section
namespace L2
open PySem PySem.Spec PyProof.Rows
theorem aZ:bootBuiltins "len"=some (.builtin "len"):=by decide+kernel
theorem Nd:bootBuiltins "abs"=some (.builtin "abs"):=by decide+kernel
theorem eR:bootBuiltins "min"=some (.builtin "min"):=by decide+kernel
theorem qZ:bootBuiltins "max"=some (.builtin "max"):=by decide+kernel
theorem D0:bootBuiltins "sum"=some (.builtin "sum"):=by decide+kernel
theorem aaW:bootBuiltins "all"=some (.builtin "all"):=by decide+kernel
theorem kT:bootBuiltins "sorted"=some (.builtin "sorted"):=by decide+kernel
theorem gZ:bootBuiltins "list"=some (.type "list"):=by decide+kernel
theorem aY{X:Cx}{x:Str}{n:Int}{pos:Pos}(h:∃t,X.mg x=some (.int n t))(hg:Gl X x:=by rfl)(hd:(x==("__debug__":Str))=false:=by decide):
 PE X (.Name x pos) (tC (.int n)):=by
 obtain⟨t,e⟩:=h
 exact MI hg e ⟨t,rfl⟩ hd
structure Def (P:lw) (w:li) (K:ge) (mg:Str->Option al) (base:io) (x:Str) (k:Nat) (ps:List Str) (sp:Sp):Prop where
 ex:∃(f:ac)(fd:on),o0 P w K mg base ae k f fd ps sp/\mg x=some (.ref f)/\fq K (.ref f)=true/\Binds K fd ps []
section
variable{X:Cx}{x:Str}{k:Nat}{ps:List Str}{sp:Sp}{p pos:Pos}{e:lv}{es:List lv}{t:TA}
theorem sK(D:Def X.prog X.w X.K X.mg X.base x k ps sp)(hr:UF k X.A)(ha:PA X (e::es) t)(hg:Gl X x:=by rfl)(gx:(x==("__debug__":Str))=false:=by decide)
 (he:starEach (e::es) X.env=(false,eval e X.env)::starEach es X.env:=by rfl)(SZ:(backTo pos (starEach es X.env)).any (·.1)=false:=by rfl):
 PE X (.Call (.Name x p) (e::es) [] pos) (EF sp [] E0 t):=by
 obtain⟨f,fd,F,hm,hk,hb⟩:=D.ex
 exact aaz F hr hg hm hk hb .nil rF ha gx he SZ
end
noncomputable def rH:List gY->List (Int×V)->Bool
 |[],[]=>true
 |⟨h,.int k _,u⟩::es,(j,v)::r=>decide (k=j)&&decide (h=hashInt j)&&decide (ES u=some v)&&rH es r
 |_,_=>false
def i9(K:ge)(d:ac)(kvs:List (Int×V)):Prop:=
 ∃(es:Array gY)(ep:Nat),K.lookup d=some {cls:=.type "dict",dict:=none,data:=.dict es ep,slots:= #[]}/\rH es.toList kvs=true/\(kvs.map (·.1)).Nodup
theorem Zl{u:al}{v:V}(h:ES u=some v):RelV v u:=by
 cases u<;>first|(cases h;rfl)|(cases h;exact⟨_,rfl⟩)|cases h
section
variable{P:lw}{w:li}{h:io}{d:ac}
theorem K1:∀{es:List gY}{kvs:List (Int×V)},rH es kvs=true->
 ∃vs:List (Int×al),Pairs (intKind P w) es vs/\KV kvs vs/\∀e∈es,∃k,(intKind P w).is k e.key=true/\e.hash=(intKind P w).hash k
 |[],[],_=>⟨[],.nil,.nil,λ_ h=>nomatch h⟩
 |[],_::_,h=>nomatch h
 |⟨hs,key,u⟩::es,kvs,h=>by
  cases key with
  |int k t=>
   cases kvs with
   |nil=>cases h
   |cons p r=>
    obtain⟨j,v⟩:=p
    simp only[rH,cQ,decide_eq_true_eq]at h
    obtain⟨⟨⟨rfl,rfl⟩,h3⟩,h4⟩:=h
    obtain⟨vs,a,b,c⟩:=K1 h4
    refine⟨(k,u)::vs,.cons (jJ P w k t) rfl a,.cons ⟨rfl,Zl h3⟩ b,λe he=> ?_⟩
    rcases wl.mp he with rfl|he
    .exact⟨k,jJ P w k t,rfl⟩
    .exact c e he
  |_=>cases kvs<;>cases h
theorem WE{K:ge}{kvs:List (Int×V)}(T:i9 K d kvs)(KX:K.In h):∃vs:List (Int×al),h.DictOf (intKind P w) d vs/\KV kvs vs:=by
 obtain⟨es,ep,ho,ht,hn⟩:=T
 obtain⟨vs,a,b,c⟩:=K1 (P:=P) (w:=w) ht
 refine⟨vs,⟨_,es,ep,KX _ _ ho,⟨rfl,rfl,rfl⟩,rfl,λe he=>c e (by simpa using he),a,?_⟩,b⟩
 rw[<-b.keys];exact hn
end
section
variable{X:Cx}{o i:lv}{td ty:TE}{pos:Pos}
def O2(K:ge)(td ty:TE):TE:=λσ H Q=>td σ H λx H1=>ty σ H1 λy H2=>∃d kvs k v,x=.ref d/\y=.int k/\i9 K d kvs/\On kvs k=some v/\Q v H2
theorem abG(ho:PE X o td)(hi:PE X i ty)(hs:xi i):PE X (.Subscript o i pos) (O2 X.K td ty):=by
 intro pins s σ H Q I h
 refine MY Rh.lookup hs (rs (ho pins s σ H _ I h) λu s1⟨x,H1,I1,rx,q1⟩=>rs (hi pins s1 σ H1 _ I1 q1) λiv s2⟨y,H2,I2,ry,d,kvs,k,v,ex,ey,T,hv,q2⟩=> ?_)
 subst ex ey
 obtain rfl:u=im d:=rx
 obtain⟨t,rfl⟩:=ry
 obtain⟨vs,dd,rel⟩:=WE (P:=X.prog) (w:=X.w) T I2.eG
 obtain⟨w',hw,rw'⟩:=dw.some_of (v:=v) (o:=valueAt vs k) (by rw[<-hv];exact rel.val k)
 exact⟨dd.typeIs,wpAny_getItem_of (jJ _ _ k t) dd.mapOf hw ⟨v,H2,I2.tok _,rw',q2⟩⟩
theorem DH{x:Str}{a:ac}(hm:X.mg x=some (.ref a))(hg:Gl X x:=by rfl)(hd:(x==("__debug__":Str))=false:=by decide):PE X (.Name x pos) (tC (.ref a)):=MI hg hm rfl hd
end
def rY(P:lw)(w:li)(K:ge)(mg:Str->Option al)(base:io)(k:Nat)(f:ac)(sp:Sp):Prop:=
 ∃(fd:on)(ps:List Str),o0 P w K mg base ae k f fd ps sp/\fq K (.ref f)=true/\Binds K fd ps []
section
variable{X:Cx}{k:Nat}{p pos:Pos}{c i e:lv}{es:List lv}{tc:TE}{t:TA}
def ab4(X:Cx)(k:Nat)(tc:TE)(t:TA):TE:=λσ H Q=>tc σ H λx H1=>∃f sp,x=.ref f/\rY X.prog X.w X.K X.mg X.base k f sp/\t σ H1 λvs H2=>sp vs H2 Q E0
theorem LJ(hr:UF k X.A)(hc:PE X (.Subscript c i p) tc)(ha:PA X (e::es) t)
 (he:starEach (e::es) X.env=(false,eval e X.env)::starEach es X.env:=by rfl)(SZ:(backTo pos (starEach es X.env)).any (·.1)=false:=by rfl):
 PE X (.Call (.Subscript c i p) (e::es) [] pos) (ab4 X k tc t):=by
 intro pins s σ H Q I h
 show wpAny _ _ (do callWith pos (<-eval (.Subscript c i p) X.env) [] (backTo pos (starEach (e::es) X.env)) (backToKw pos (keywordEach [] X.env))) _ _ s
 refine bd (rs (hc pins s σ H _ I h) λu s1⟨x,H1,I1,rx,f,sp,ex,⟨fd,ps,F,hk,hb⟩,q⟩=> ?_)
 subst ex
 obtain rfl:u=im f:=rx
 refine Hk (h₀:=X.base) I1.ok.mod.sD hk (rs (ha pos pins s1 σ H1 _ I1 q) λus s2⟨vs,H2,I2,r,q2⟩=>⟨I2.eG,?_⟩) he SZ
 exact NC F hr hb .nil rF I2 r (by rw[iL];exact q2)
end
noncomputable def intsFrom(lo:Int)(n:Nat):List Int:=(sw n).map λ(i:Nat)=>lo+(i:Int)
theorem Sa(lo:Int)(n:Nat):intsFrom lo (n+1)=lo::intsFrom (lo+1) n:=by
 unfold intsFrom
 rw[x9,FS,P6]
 refine congr (congrArg List.cons (by simp)) (fY λi _=> ?_)
 show lo+((i+1:Nat):Int)=lo+1+(i:Int)
 lia
theorem QZ(lo:Int)(n:Nat):(intsFrom lo n).length=n:=by unfold intsFrom;simp
theorem Ks:∀{us:List al}{lo:Int},(∀(j:Nat)(v:al),us[j]? =some v->∃t,v=eO (lo+(j:Int)) t)->dU us (intsFrom lo us.length)
 |[],_,_=>.nil
 |u::us,lo,h=>by
  obtain⟨t,e⟩:=h 0 u rfl
  have e0:lo+((0:Nat):Int)=lo:=by simp
  rw[e0]at e
  subst e
  rw[Os,Sa]
  refine .cons lo t (Ks λj v hj=> ?_)
  obtain⟨t',e'⟩:=h (j+1) v hj
  have e1:lo+((j+1:Nat):Int)=lo+1+(j:Int):=by lia
  rw[e1]at e'
  exact⟨t',e'⟩
theorem X'{acc:Array al}{lo:Int}{n:Nat}(h:ItemsOf (λi v=>∃t,v=eO (lo+(i:Int)*1) t) acc n):Vals ((intsFrom lo n).map V.int) acc.toList:=by
 have hl:acc.toList.length=n:=by simpa using h.1
 refine Ae (hl▸Ks λj v hj=> ?_)
 obtain⟨t,e⟩:=h.2 j v (by simpa using hj)
 exact⟨t,by rw[e,Int.mul_one]⟩
section
variable{X:Cx}{a b:lv}{ta:TA}{p pos:Pos}
def Og(ta:TA):TE:=λσ H Q=>ta σ H λvs H1=>∃j:Int,vs=[.int j]/\∀p,H1 p=none->Q (.ref p) (upd H1 p (.dc 0 j))
def acT(ta:TA):TE:=λσ H Q=>ta σ H λvs H1=>∃i j:Int,vs=[.int i,.int j]/\∀p,H1 p=none->Q (.ref p) (upd H1 p (.dc i j))
theorem MK(hm:X.mg "range"=none)(ha:PA X [a] ta)(hg:Gl X "range":=by rfl)(hs:starEach [a] X.env=[(false,eval a X.env)]:=by rfl):
 PE X (.Call (.Name "range" p) [a] [] pos) (Og ta):=by
 intro pins s σ H Q I h
 refine mL (i7 I hg hm DV (mw (rs (ha pos pins s σ H _ I h) λus s1⟨vs,H1,I1,r1,q1⟩=> ?_) hs rfl))
 obtain⟨j,e,q⟩:=q1
 subst e
 cases r1 with
 |cons r rr=>
  cases rr
  obtain⟨t,rfl⟩:=r
  exact call_range_1 ⟨.ref _,_,I1.laid (o:=.dc 0 j) (λb o e=>P5 _ e) (nn _) ⟨_,_,_,Tl _ rfl⟩,rfl,q _ (I1.ab.fresh (nn _))⟩
def abR:List V->Hp->VK->Prop:=λvs H Q=>∃(r:ac)(lo hi:Int),vs=[.ref r]/\H r=some (.dc lo hi)/\(-(2 ^ 62)<=lo/\lo<2 ^ 62/\-(2 ^ 62)<=hi/\hi<2 ^ 62)/\(hi-lo).toNat<=sizeLine/\
 ∀p,H p=none->Q (.ref p) (upd H p (.lst ((intsFrom lo (hi-lo).toNat).map V.int)))
theorem Hn(hc:X.calm=true):ak X (.type "list") abR:=by
 intro pins s σ H xs us Q I r h
 obtain⟨a,lo,hi,rfl,ha,⟨h1,h2,h3,h4⟩,hz,q⟩:=h
 rw[Vals.d4 r]
 obtain⟨t,u,v,ho⟩:=I.ab a _ ha
 have e2:pK lo hi 1=(((hi-lo).toNat:Nat):Int):=by rw[rangeSize_one];split<;>lia
 refine call_list_range (I.ok.hd hc) (show IsRange s.heap a lo hi 1 t u v from ho) (small_one h1 h2 h3 h4) e2 (by rw[bu]at hz;lia) λh' tk' acc c hk hS IR=> ?_
 have hl:((intsFrom lo (hi-lo).toNat).map V.int).length<=sizeLine:=by rw[dL,QZ];exact hz
 exact⟨.ref _,_,I.laid (o:=.lst ((intsFrom lo (hi-lo).toNat).map V.int)) (t':=tk') hk (nn _) ⟨hl,acc.toList,c,X' IR,hS⟩,rfl,q _ (I.ab.fresh (nn _))⟩
end
section
variable{X:Cx}
noncomputable abbrev cP:Nat->Bool:=λ_=>false
theorem HQ:∀{us:List al}{ns:List Int}{i:Nat},dU us ns->tupItems cP i us=some (ns.map EQ)
 |_,_,_,.nil=>rfl
 |_,_,i,.cons n t r=>by
  show(tupItems cP (i+1) _).map _=_
  rw[HQ r]
  rfl
theorem vR:∀(a b:List Int),s_ itemOrd (a.map EQ) (b.map EQ)=HT.lexLt a b
 |[],[]=>rfl
 |[],_::_=>rfl
 |_::_,[]=>rfl
 |x::a,y::b=>by
  show(decide (x<y)||(!decide (y<x)&&s_ itemOrd (a.map EQ) (b.map EQ)))=if x=y then HT.lexLt a b else decide (x<y)
  rw[vR a b]
  by_cases h:x=y
  .subst h;simp
  .rw[if_neg h]
   by_cases h2:x<y
   .simp[h2]
   .have h3:y<x:=by lia
    simp[h2,h3]
end
end L2
end
section
namespace L2
open PySem PySem.Spec PyProof.Rows
section
variable{X:Cx}
theorem gL{α β:Type}{f:α->β}:∀{l:List β}{m:List β},l.Perm m->∀{L:List α},m=L.map f->∃L':List α,L'.Perm L/\l=L'.map f:=by
 intro l m h
 induction h with
 |nil=>
  intro L e
  exact⟨L,.refl _,e⟩
 |cons x _ ih=>
  intro L e
  cases L with
  |nil=>cases e
  |cons a L=>
   simp only[FS,jy]at e
   obtain⟨L',h1,h2⟩:=ih e.2
   exact⟨a::L',h1.cons a,by rw[FS,<-e.1,h2]⟩
 |swap x y l=>
  intro L e
  match L,e with
  |[],e=>cases e
  |[a],e=>simp at e
  |a::b::L,e=>
   simp only[FS,jy]at e
   exact⟨b::a::L,.swap a b L,by rw[FS,FS,<-e.1,<-e.2.1,e.2.2]⟩
 |trans _ _ ih1 ih2=>
  intro L e
  obtain⟨M1,h1,h2⟩:=ih2 e
  obtain⟨M2,h3,h4⟩:=ih1 h2
  exact⟨M2,h3.trans h1,h4⟩
def PP(H:Hp)(z:ac×List Int):Prop:=H z.1=some (.tup (z.2.map V.int))
def LO(K:ge):List V->Hp->VK->Prop:=λvs H Q=>∃(a:ac)(zs:List (ac×List Int)),vs=[V.ref a]/\aa K H a (zs.map λz=>V.ref z.1)/\(∀z∈zs,PP H z/\z.2≠[])/\
 ∀(ys:List (ac×List Int))(q:ac),ys.Perm zs->ys.Pairwise (λx y=>HT.lexLt y.2 x.2=false)->H q=none->Q (.ref q) (upd H q (.lst (ys.map λz=>V.ref z.1)))
theorem kZ:∀{zs:List (ac×List Int)}{us:List al},Vals (zs.map λz=>V.ref z.1) us->us=zs.map λz=>im z.1
 |[],us,r=>by cases r;rfl
 |z::zs,us,r=>by
  cases r with
  |cons r1 r2=>
   rw[kZ r2,FS]
   exact congrArg (·::_) r1
theorem vK:∀(zs:List (ac×List Int)),Vals (zs.map λz=>V.ref z.1) (zs.map λz=>im z.1)
 |[]=>.nil
 |z::zs=>.cons rfl (vK zs)
theorem lq{pins:List (ac×Obj)}{σ:St}{H:Hp}{s:ap}(I:Inv X pins σ H s){z:ac×List Int}(h:PP H z)(bn:z.2≠[]):
 qN s.heap cP (.ref z.1)=some (z.2.map EQ)/\∃f,TupOf s.heap cP (.ref z.1) f:=by
 obtain⟨ci,rv,⟨o,ho,hc,n,hd⟩,_⟩:=I.tuple (P3.of (K:=X.K) h)
 have hi:=rv.ints
 refine⟨G.tupKeyC_of ho hc hd ?_,?_⟩
 .show tupItems cP 0 ci.toArray.toList=_
  exact HQ hi
 .obtain⟨a,ns⟩:=z
  cases ns with
  |nil=>exact absurd rfl bn
  |cons k ns=>
   cases hi with
   |cons _ t r=>exact⟨_,a,o,_,n,rfl,ho,hc,hd,rfl,λ_=>⟨k,t,rfl⟩,λe=>nomatch e⟩
theorem vp{pins:List (ac×Obj)}{σ:St}{H:Hp}{s:ap}(I:Inv X pins σ H s):∀{zs:List (ac×List Int)},(∀z∈zs,PP H z/\z.2≠[])->∃fs,TupsOf s.heap cP (zs.map λz=>im z.1) fs
 |[],_=>⟨[],.nil⟩
 |z::zs,h=>by
  obtain⟨f,hf⟩:=(lq I (h z (Go ..)).1 (h z (Go ..)).2).2
  obtain⟨fs,dC⟩:=vp I (zs:=zs) λy hy=>h y (AT _ hy)
  exact⟨f::fs,.cons hf dC⟩
theorem VV:ak X (.builtin "sorted") (LO X.K):=by
 intro pins s σ H vs us Q I r h
 obtain⟨a,zs,rfl,hs,ht,q⟩:=h
 obtain⟨ci,rv,hl,hz⟩:=I.list hs
 rw[Vals.d4 r]
 have ei:=kZ rv
 subst ei
 obtain⟨fs,dC⟩:=vp I ht
 have hk:∀v,v∈(zs.map λz=>im z.1)->∃l,qN s.heap cP v=some l:=λv hv=>by
  obtain⟨z,hz,rfl⟩:=nw.mp hv
  exact⟨_,(lq I (ht z hz).1 (ht z hz).2).1⟩
 have hlen:(zs.map λz=>im z.1).length<=sizeLine:=by simpa using hz
 refine G.sorted_tups hl.isList dC hk hlen λst' hp sj _=> ?_
 obtain⟨ep,he'⟩:=QE s.heap (zs.map λz=>im z.1) ((arrOf st').map (·.2))
 have hp':(arrOf st').toList.Perm (zs.map λz=>(im z.1,im z.1)):=by
  have e1:(pairsOf (zs.map λz=>im z.1)).toList=zs.map λz=>(im z.1,im z.1):=by
   rw[pairsOf_toList,List.zip_map',]
  rw[<-e1]
  exact hp.toList
 obtain⟨ys,hy,ey⟩:=gL hp' rfl
 have eo:((arrOf st').map (·.2))=(ys.map λz=>im z.1).toArray:=by
  apply zy.mp
  rw[zA,ey,P6]
  rfl
 have jl:∀z∈ys,PP H z/\z.2≠[]:=λz hz=>ht z (hy.mem_iff.mp hz)
 have cy:ys.Pairwise (λx y=>HT.lexLt y.2 x.2=false):=by
  rw[sW]
  intro i j hi hj d8
  have hsz:(pairsOf (zs.map λz=>im z.1)).size=ys.length:=by rw[pairsOf_size,dL,hy.length_eq]
  have q1:=sj i j (TW d8) (by rw[hsz];exact hj)
  have kk:∀m(hm:m<ys.length),KK (nU s.heap cP) (arrOf st') m=(ys[m].2.map EQ):=λm hm=>by
   have e1:(arrOf st')[m]? =some (im ys[m].1,im ys[m].1):=by
    rw[<-de,ey,wP,wS hm]
    rfl
   unfold KK
   rw[e1]
   show((qN s.heap cP (.ref ys[m].1)).getD [])=_
   rw[(lq I (jl _ (f6 hm)).1 (jl _ (f6 hm)).2).1]
   rfl
  rw[kk i hi,kk j hj]at q1
  have q2:s_ itemOrd (ys[j].2.map EQ) (ys[i].2.map EQ)=false:=q1
  rw[vR]at q2
  exact q2
 have hlen2:(ys.map λz=>V.ref z.1).length<=sizeLine:=by rw[dL,hy.length_eq];simpa using hz
 rw[eo]at he'⊢
 exact⟨.ref _,upd H (s.heap.objs.size+1) (.lst (ys.map λz=>V.ref z.1)),I.laid (t':=s.toks) (λ_ _=>Qv) (gg _) ⟨hlen2,_,ep,vK ys,he'⟩,rfl,q ys _ hy cy (I.ab.fresh (gg _))⟩
end
section
variable{X:Cx}(K:ge)(h:X.K=K)
include h
theorem Ev:rZ X (xu K):=h▸Z8
theorem bf:rZ X (Fd K):=h▸rf
theorem aW:ak X (.builtin "len") (λxs H Q=>∃p ys,xs=[.ref p]/\(aa K H p ys\/P3 K H p ys)/\Q (.int ys.length) H):=h▸Tf
theorem wj(hc:X.calm=true):ak X (.builtin "min") (Ff K):=h▸abe hc
theorem Di(hc:X.calm=true):ak X (.builtin "max") (Fe K):=h▸abd hc
theorem Dj(hc:X.calm=true):ak X (.builtin "sum") (OP K):=h▸abf hc
theorem ZY(hc:X.calm=true):ak X (.builtin "all") (ON K):=h▸abc hc
theorem VU:ak X (.builtin "sorted") (MQ K):=h▸Xe
theorem IK:ak X (.builtin "sorted") (LO K):=h▸VV
theorem tZ:ak X (.type "list") (λxs H Q=>∃p ys,xs=[.ref p]/\(aa K H p ys\/P3 K H p ys)/\∀l,H l=none->Q (.ref l) (upd H l (.lst ys))):=h▸Th
theorem n_:Fu X (Fg K):=h▸aaK
theorem aF{es:List lv}{k n:Nat}{t:j4}{pos:Pos}(hc:X.calm=true)(hg:r0 X es t)(hn:(assignEach es X.env).length=n)(ay:(assignEach es X.env).findIdx? (·.1)=none):PG X (.Tuple es k pos) (xk K n t):=h▸abJ hc hg hn ay
theorem DI{o i:lv}{td ty:TE}{pos:Pos}(ho:PE X o td)(hi:PE X i ty)(hs:xi i):PE X (.Subscript o i pos) (O2 K td ty):=h▸abG ho hi hs
theorem Do{e:lv}{f:Str}{pos:Pos}{ta:TE}(he:PE X e ta)(hb:attributeBase e f X.env (eval e X.env)=eval e X.env):PE X (.Attribute e f pos) (Fj K ta f):=h▸abE he hb
theorem cS{o value:lv}{f:Str}{pos pos':Pos}{ta tv:TE}(ha:PE X o ta)(hv:PE X value tv)(hs:swapsWith value (some (.Attribute o f pos')) pos.line X.env=pure false):PS X (.Assign [.Attribute o f pos'] value pos) (Fi K ta tv f):=h▸abN ha hv hs
theorem kY{a:lv}{ta:TE}(ha:PE X a ta)(he:∀whole,isTrue a X.env whole=(do let v <-whole;standAt a.pos;holding [v] (truthy v))):PT X a (λσ H Q=>ta σ H λx H'=>∃k,ER K x H' k/\Q k H'):=h▸Zi ha he
theorem P7{tg l:lv}{tl:TE}(hl:PE X l tl):PI X tg l (EA K tl):=h▸aaC hl
theorem MM{tg l:lv}{tl:TE}(hl:PE X l tl):PI X tg l (E9 K tl):=h▸abK hl
end
section
variable{X:Cx}(i:Nat){x:Str}{pos pos':Pos}{e:lv}{te:TE}(hN:X.N.Nodup)
include hN
theorem aP(hi:X.N[i]? =some x:=by rfl)(hx:Loc X.env.scope x:=by first|exact rJ rfl|exact hU rfl)(hf:X.fn x=true\/X.env.scope.names.lookup x=some .local:=by first|exact .inl rfl|exact .inr rfl|assumption):PG X (.Name x pos) (eV i):=ML hN hi hx hf
theorem xz(hi:X.N[i]? =some x:=by rfl)(hx:Loc X.env.scope x:=by first|exact rJ rfl|exact hU rfl)(hf:X.fn x=true\/X.env.scope.names.lookup x=some .local:=by exact hU rfl):PG X (.Name x pos) (eV i):=ML hN hi hx hf
theorem pS(he:PE X e te)(hi:X.N[i]? =some x:=by rfl)(hx:Loc X.env.scope x:=by first|exact rJ rfl|exact hU rfl)(hs:swapsWith e (some (.Name x pos')) pos.line X.env=pure false:=by rfl)(hf:X.fn x=true\/X.env.scope.names.lookup x=some .local:=by first|exact .inl rfl|exact .inr rfl|assumption):PS X (.Assign [.Name x pos'] e pos) (rX te (eV i)):=abO hN hi hx he hs hf
end
end L2
end
section
namespace L2
open PySem PySem.Spec PyProof.Rows
theorem Dk{K:ge}{H:Hp}:∀ns:List Int,ly K H (ns.map V.int) (ns.map fx)
 |[]=>.nil
 |n::ns=>.cons (.int n) (Dk ns)
theorem lay_ints:∀ns:List Int,WR (ns.map fx)=true
 |[]=>rfl
 |n::ns=>by
  show(PyData.canLay0 (.int n)&&WR (ns.map fx))=true
  rw[lay_ints ns];rfl
theorem B6:∀ns:List Int,Aj (ns.map fx)=0
 |[]=>rfl
 |n::ns=>by
  show max (PyData.depth (.int n)) (Aj (ns.map fx))=0
  rw[B6 ns];rfl
theorem Ln:∀ns ms:List Int,PyData.eqvAll (ns.map fx) (ms.map fx)=decide (ns=ms)
 |[],[]=>rfl
 |[],m::ms=>rfl
 |n::ns,[]=>rfl
 |n::ns,m::ms=>by
  show(PyData.eqv (.int n) (.int m)&&PyData.eqvAll (ns.map fx) (ms.map fx))=_
  rw[Ln ns ms]
  show((n==m)&&decide (ns=ms))=_
  by_cases h:n=m
  .subst h;simp
  .simp[h]
section
variable{X:Cx}{pins:List (ac×Obj)}{σ:St}{H:Hp}{s:ap}
theorem Xk{A:ww}(I:Inv X pins σ H s){a b:ac}{ns ms:List Int}(ha:P3 X.K H a (ns.map V.int))(hb:P3 X.K H b (ms.map V.int))(hu:A.units+1<cLine):
 Ma A s (.ref a) (.ref b) (decide (ns=ms)):=by
 obtain⟨as,r1⟩:=Dp.reads I _ _ _ (Dp.tup ha (Dk ns)) (show RelV (.ref a) (.ref a)from rfl)
 obtain⟨bs,r2⟩:=Dp.reads I _ _ _ (Dp.tup hb (Dk ms)) (show RelV (.ref b) (.ref b)from rfl)
 have e:PyData.eqv (.tuple (ns.map fx)) (.tuple (ms.map fx))=decide (ns=ms):=Ln ns ms
 rw[<-e]
 refine SeqAt.eqAt_reads _ _ A s _ _ _ _ r1 r2 (lay_ints ns) (lay_ints ms) ?_
 show A.units+min (Aj (ns.map fx)+1) (Aj (ms.map fx)+1)<cLine
 rw[B6,B6]
 exact hu
end
section
variable{X:Cx}
noncomputable def j_(zs:List (ac×List Int))(k:List Int)(u:al):Bool:= @decide (∃z∈zs,u=.ref z.1/\z.2=k) (Rg _)
theorem Mx{zs:List (ac×List Int)}{k:List Int}{u:al}:j_ zs k u=true↔∃z∈zs,u=.ref z.1/\z.2=k:=by
 unfold j_;exact @decide_eq_true_iff _ (Rg _)
theorem ZC{H:Hp}{y z:ac×List Int}(hy:PP H y)(hz:PP H z)(e:y.1=z.1):y.2=z.2:=by
 unfold PP at hy hz
 rw[e,hz]at hy
 have:=HO.tup.inj (TD hy)
 exact((List.map_inj_right (f:=V.int) λ_ _ h=>V.int.inj h).mp this).symm
theorem wM{H:Hp}{zs:List (ac×List Int)}(ht:∀z∈zs,PP H z){z:ac×List Int}(hz:z∈zs)(k:List Int):j_ zs k (.ref z.1)=decide (z.2=k):=by
 by_cases h:z.2=k
 .rw[Mx.mpr ⟨z,hz,rfl,h⟩,decide_eq_true h]
 .rw[decide_eq_false h,Yc]
  intro q
  obtain⟨y,hy,e,e2⟩:=Mx.mp q
  exact h ((ZC (ht y hy) (ht z hz) (W6 e).symm)▸e2)
theorem Lv{pins:List (ac×Obj)}{σ:St}{H:Hp}{s:ap}{A:ww}(I:Inv X pins σ H s){zs:List (ac×List Int)}(ht:∀z∈zs,PP H z){b:ac}{k:List Int}(hb:PP H (b,k))(hu:A.units+1<cLine):
 ∀u∈(zs.map λz=>im z.1),Ma A s u (.ref b) (j_ zs k u):=by
 intro u hm
 obtain⟨z,hz,rfl⟩:=nw.mp hm
 rw[wM ht hz]
 exact Xk I (P3.of (ht z hz)) (P3.of hb) hu
theorem Z7{H:Hp}{zs:List (ac×List Int)}(ht:∀z∈zs,PP H z)(k:List Int):(zs.map λz=>im z.1).toArray.any (j_ zs k)=decide (k∈zs.map (·.2)):=by
 rw[List.any_toArray,kF,mR,decide_eq_true_iff]
 constructor
 .rintro⟨u,hm,q⟩
  obtain⟨z,hz,rfl⟩:=nw.mp hm
  rw[wM ht hz,decide_eq_true_iff]at q
  exact nw.mpr ⟨z,hz,q⟩
 .intro hk
  obtain⟨z,hz,e⟩:=nw.mp hk
  exact⟨_,nw.mpr ⟨z,hz,rfl⟩,by rw[wM ht hz];exact decide_eq_true e⟩
def OO(K:ge)(neg:Bool):R2:=λx y H Q=>∃(b p:ac)(k:List Int)(zs:List (ac×List Int)),x=.ref b/\y=.ref p/\PP H (b,k)/\aa K H p (zs.map λz=>V.ref z.1)/\(∀z∈zs,PP H z)/\
 Q (.bl (if neg then !decide (k∈zs.map (·.2))else decide (k∈zs.map (·.2)))) H
theorem XT(hu:X.A.units+2<cLine):aM X (compareOp .NotIn) (OO X.K true):=by
 intro pins s σ H x y v u Q I rx ry h
 obtain⟨b,p,k,zs,rfl,rfl,hb,hp,ht,q⟩:=h
 cases rx
 cases ry
 obtain⟨ci,r,pl,_⟩:=I.list hp
 have ei:=kZ r
 subst ei
 refine SeqAt.notIn_listAt (j_ zs k) pl.isList (λw hw=>Lv I ht hb hu w (by simpa using hw)) ⟨.bl _,H,I,rfl,?_⟩
 rw[Z7 ht]
 exact q
def DK(K:ge):V->List V->Hp->VK->Prop:=λx xs H Q=>∃(b p:ac)(k:List Int)(zs:List (ac×List Int))(j:Nat),x=.ref p/\xs=[.ref b]/\PP H (b,k)/\aa K H p (zs.map λz=>V.ref z.1)/\(∀z∈zs,PP H z)/\
 (zs.map (·.2))[j]? =some k/\(∀m,m<j->(zs.map (·.2))[m]?≠some k)/\Q (.int (j:Nat)) H
theorem XG(hu:X.A.units+2<cLine):xw X "list.index" (DK X.K):=by
 intro pins s σ H x xs v us Q I rx rxs h
 obtain⟨b,p,k,zs,j,rfl,rfl,hb,hp,ht,hj,cZ,q⟩:=h
 cases rx
 rw[Vals.d4 rxs]
 obtain⟨ci,r,⟨⟨cls,dd,data,sl⟩,n,ho,hc,Fz,hd⟩,hlen⟩:=I.list hp
 simp only at hc hd
 subst hc hd
 have ei:=kZ r
 subst ei
 have gy:j<zs.length:=by
  have:=(P4.mp hj).1
  rwa [dL]at this
 have bL:=bu
 have at_:∀m(hm:m<zs.length),j_ zs k ((zs.map λz=>im z.1).toArray[m]'(by simpa using hm))=decide (zs[m].2=k):=λm hm=>by
  rw[<-wM ht (f6 hm) k]
  simp
 refine DW Gi ⟨_,ho,rfl⟩ PySem.F.entry_list_index (PySem.F.args_list_index_2 _ _)
  (SeqAt.list_indexAt p _ n dd sl (.ref b) (j_ zs k) j (by simpa using gy) (by rw[dL]at hlen;lia) ?_ ?_) ⟨ho,λu' hu'=>Lv I ht hb hu u' (by simpa using hu'),⟨.int (j:Nat),H,I.tok _,⟨_,rfl⟩,q⟩⟩
 .rw[at_ j gy,decide_eq_true_iff]
  rw[wP,wS gy]at hj
  exact TD hj
 .intro m hm hmj
  have ji:m<zs.length:=by simpa using hm
  rw[at_ m ji,decide_eq_false_iff_not]
  intro e
  exact cZ m hmj (by rw[wP,wS ji];exact congrArg some e)
end
section
variable{X:Cx}
theorem Ya{P:lw}{w:li}{kvs:List (Key×V)}{vs:List (Key×al)}(kv:KV kvs vs):∀{us:List al},us.length=vs.length->(∀(j:Nat)(v:al),us[j]? =some v->∃k x,vs[j]? =some (k,x)/\(cG P w).is k v=true)->Vals (kvs.map λp=>kV p.1) us:=by
 induction kv with
 |nil=>
  intro us hl _
  rw[cC.mp hl];exact .nil
 |cons h t ih=>
  intro us hl hi
  cases us with
  |nil=>cases hl
  |cons u us=>
   refine .cons ?_ (ih (by simpa using hl) λj v hj=>by simpa using hi (j+1) v (by simpa using hj))
   obtain⟨k,x,e,hk⟩:=hi 0 u rfl
   simp only[Ua,SW]at e
   show RelV (kV _) u
   rw[h.1,e]
   rcases gN hk with⟨i,t',rfl,rfl⟩|⟨y,t',rfl,rfl⟩
   .exact⟨t',rfl⟩
   .exact⟨t',rfl⟩
def abQ:List V->Hp->VK->Prop:=λvs H Q=>∃(d:ac)(kvs:List (Key×V)),vs=[.ref d]/\H d=some (.dK kvs)/\∀p,H p=none->Q (.ref p) (upd H p (.lst (kvs.map λz=>kV z.1)))
theorem Tg(hc:X.calm=true):ak X (.type "list") abQ:=by
 intro pins s σ H xs us Q I r h
 obtain⟨d,kvs,rfl,hd,q⟩:=h
 rw[Vals.d4 r]
 obtain⟨hz,lo,vs,kv,hm⟩:=I.ab d _ hd
 obtain⟨ep,Fw⟩:=hm.dictAt
 have hlen:kvs.length=vs.length:=ng kv
 refine WU (PySem.W.kdl_dict (knd:=cG X.prog X.w) (kvs:=vs) (ep:=ep) lo) (I.ok.hd hc) Fw (hlen▸hz) λh' tk' acc c hk hS IR=> ?_
 have hl:(kvs.map λz=>kV z.1).length<=sizeLine:=by rw[dL];exact hz
 exact⟨.ref _,_,I.laid (o:=.lst (kvs.map λz=>kV z.1)) (t':=tk') hk (nn _) ⟨hl,acc.toList,c,Ya kv (by rw[wr];exact IR.1) (λj v hj=>IR.2 j v (by simpa using hj)),hS⟩,rfl,q _ (I.ab.fresh (nn _))⟩
theorem ZE{P:lw}{w:li}{A:ww}(hh:A.handled=none)(I d:ac)(bn:d≠I){o:Obj}{es:Array gY}{ep:Nat}(ir:o.data=.dict es ep):
 Walks P w A I [I,d] [I] es.size (λi v=>∃en,es[i]? =some en/\v=en.key) (λi h=>h.IsKeyIter I d i es.size ep/\h.get? d=some o) where
 sub:=λb hb=>wl.mpr (.inl (zn.mp hb))
 frame:=λ_ _ _ st hk=>⟨st.1.at λo' e=>hk I (Go ..) o' e,hk d (AT _ (zn.mpr rfl)) _ st.2⟩
 item:=λi s Q E hi st hQ=>by
  obtain⟨en,hx⟩:∃en,es[i]? =some en:=⟨es[i],kf hi⟩
  refine Sn st.1 st.2 ir rfl hx λh' oX hs'=> ?_
  exact hQ _ h' s.toks ⟨en,hx,rfl⟩ ⟨oX,(hs'.2 d bn).trans st.2⟩ λb ob hb e=>(hs'.2 b λq=>hb (zn.mpr q)).trans e
 done:=λs Q E st hQ=>TH hh st.1 st.2 ir rfl (nn _) λh' he'=>hQ h' s.toks λb ob hb e=>he' b ob (λq=>hb (zn.mpr q)) e
 self:=λ_ _ _ _ st hQ=>wpAny_pyIter_keyiter st.1 hQ
theorem ab2{P:lw}{w:li}{d:ac}(lo:(d==sysModules)=false){o:Obj}{es:Array gY}{ep:Nat}(hx:o.ExactDict)(ir:o.data=.dict es ep):
 Yl P w "dict" d d es.size (λi v=>∃en,es[i]? =some en/\v=en.key) (λh=>h.get? d=some o) where
 type:=λ_ hm=>⟨o,hm,hx.1⟩
 there:=λ_ hm=>⟨FB hm,FB hm⟩
 keep:=λ_ _ hm hk=>hk d (.inl rfl) _ hm
 notList:=by decide
 notTuple:=by decide
 hint:=λ_ _ _ _ hm hq=>PySem.W.kdl_hint_dict ⟨o,hm,hx.1⟩ hq
 iter:=λ_ s hh hm=>⟨_,_,(λ_ _ hq=>Xs lo hm hx ir hq),ZE hh _ d (Ps (FB hm)) ir,⟨⟨_,Tl _ rfl,rfl,rfl⟩,P5 _ hm⟩⟩
def abS:List V->Hp->VK->Prop:=λvs H Q=>∃(d:ac)(kvs:List (List Key×V)),vs=[.ref d]/\H d=some (.dT kvs)/\
 ∀(qs:List ac)(p:ac),Paired (λ(z:List Key×V)(q:ac)=>H q=some (.tup (z.1.map kV))) kvs qs->H p=none->Q (.ref p) (upd H p (.lst (qs.map V.ref)))
theorem L7{H:Hp}:∀{kvs:List (List Key×V)}{xs:List (List Key×ac×al)}{us:List al},
 Paired (λ(p:List Key×V)(q:List Key×ac×al)=>p.1=q.1/\H q.2.1=some (.tup (p.1.map kV))/\RelV p.2 q.2.2) kvs xs->us=xs.map (λx=>im x.2.1)->
 Vals ((xs.map λx=>x.2.1).map V.ref) us/\Paired (λ(z:List Key×V)(q:ac)=>H q=some (.tup (z.1.map kV))) kvs (xs.map λx=>x.2.1)
 |_,_,_,.nil,e=>by subst e;exact⟨.nil,.nil⟩
 |_,_,_,.cons h t,e=>by
  subst e
  obtain⟨a,b⟩:=L7 t rfl
  exact⟨.cons rfl a,.cons h.2.1 b⟩
theorem zK(hc:X.calm=true):ak X (.type "list") abS:=by
 intro pins s σ H xs us Q I r h
 obtain⟨d,kvs,rfl,hd,q⟩:=h
 rw[Vals.d4 r]
 obtain⟨hz,lo,xs,pr,o,es,ep,ho,hx,ir,he,_⟩:=I.ab d _ hd
 have l1:es.size=xs.length:=by rw[<-wr,he,dL]
 have l2:kvs.length=xs.length:=ng pr
 refine WU (ab2 lo hx ir) (I.ok.hd hc) ho (by rw[l1,<-l2];exact hz) λh' tk' acc c hk hS IR=> ?_
 have ea:acc.toList=xs.map λx=>im x.2.1:=by
  apply Yg
  intro i
  by_cases hi:i<acc.size
  .have e1:acc.toList[i]? =some acc[i]:=by rw[de,kf hi]
   obtain⟨en,e2,e3⟩:=IR.2 i acc[i] (kf hi)
   rw[<-de,he,wP]at e2
   cases e4:xs[i]? with
   |none=>rw[e4]at e2;cases e2
   |some x=>
    rw[e4]at e2
    cases e2
    rw[e1,e3,wP,e4]
    rfl
  .have h1:acc.toList[i]? =none:=by rw[xY,wr];lia
   have h2:=IR.1
   rw[h1,xY.mpr (by rw[dL];lia)]
 obtain⟨v1,v2⟩:=L7 pr ea
 have hl:((xs.map λx=>x.2.1).map V.ref).length<=sizeLine:=by rw[dL,dL,<-l2];exact hz
 exact⟨.ref _,_,I.laid (o:=.lst ((xs.map λx=>x.2.1).map V.ref)) (t':=tk') hk (nn _) ⟨hl,acc.toList,c,v1,hS⟩,rfl,q _ _ v2 (I.ab.fresh (nn _))⟩
end
theorem Bk:∀a:List Int,HT.lexLt a a=false
 |[]=>rfl
 |x::a=>by
  show(if x=x then HT.lexLt a a else decide (x<x))=false
  rw[if_pos rfl];exact Bk a
theorem IU:∀{a b c:List Int},HT.lexLt a b=true->HT.lexLt b c=true->HT.lexLt a c=true
 |[],[],c,h,_=>nomatch h
 |[],y::b,[],_,h=>nomatch h
 |[],y::b,z::c,_,_=>rfl
 |x::a,[],c,h,_=>nomatch h
 |x::a,y::b,[],_,h=>nomatch h
 |x::a,y::b,z::c,h,k=>by
  rw[HT.dq]at h k⊢
  by_cases e:x=y
  .subst e
   rw[if_pos rfl]at h
   by_cases e2:x=z
   .subst e2
    rw[if_pos rfl]at k⊢
    exact IU h k
   .rw[if_neg e2]at k⊢;exact k
  .rw[if_neg e,decide_eq_true_eq]at h
   by_cases e2:y=z
   .subst e2
    rw[if_neg e];exact decide_eq_true h
   .rw[if_neg e2,decide_eq_true_eq]at k
    rw[if_neg (by lia)];exact decide_eq_true (by lia)
theorem Az(f:Nat->List Int):∀k j,j<=k->HT.lexLt (f j) (f (argBest (λi j=>HT.lexLt (f i) (f j)) k))=false
 |0,j,h=>by
  have:j=0:=by lia
  subst this;exact Bk _
 |k+1,j,h=>by
  show HT.lexLt (f j) (f (if HT.lexLt (f (k+1)) (f (argBest (λi j=>HT.lexLt (f i) (f j)) k))then k+1 else argBest (λi j=>HT.lexLt (f i) (f j)) k))=false
  cases hb:HT.lexLt (f (k+1)) (f (argBest (λi j=>HT.lexLt (f i) (f j)) k))with
  |true=>
   rw[if_pos rfl]
   rcases jE k j with hj|hj
   .have:j=k+1:=by lia
    subst this;exact Bk _
   .have:=Az f k j hj
    cases hq:HT.lexLt (f j) (f (k+1))with
    |false=>rfl
    |true=>rw[IU hq hb]at this;cases this
  |false=>
   rw[if_neg bI]
   rcases jE k j with hj|hj
   .have:j=k+1:=by lia
    subst this;exact hb
   .exact Az f k j hj
section
variable{P:lw}{w:li}{A:ww}{R:lL->ap->Prop}{I l S:ac}{ci:Array al}{h0:io}{bt:Nat->Nat->Bool}
def Kp(h0 h:io):Prop:=∀b o,h0.get? b=some o->h.get? b=some o
noncomputable def ZR(v:al)(c:Nat):Obj:={cls:=.type "list",dict:=none,data:=.seq #[v,v] c,slots:= #[]}
theorem XF(hh:A.handled=none)(hlI:l≠I)(nI:h0.get? I=none)(nS:h0.get? S=none)(hSI:S≠I)(hSl:S≠l)
 (cmp:∀i j vi vj(t:ap)(Q:al->ap->Prop)(E:al->ap->Prop),ci[i]? =some vi->ci[j]? =some vj->Kp h0 t.heap->Q (.bool (bt i j)) t->wpAny (model P w) A.in1 (richCompare .Lt vi vj) Q E t):
 ∀(k j:Nat)(t:ap)(vb:al)(c:Nat),ci.size-(j+1)=k->j+1<=ci.size->(t.heap.IsListIter I l (j+1)/\t.heap.IsList l ci)->ci[argBest bt j]? =some vb->t.heap.get? S=some (ZR vb c)->Kp h0 t.heap->
 (∀v h' tk,ci[argBest bt (ci.size-1)]? =some v->Kp h0 h'->R (.ok (.ret v)) {t with heap:=h',toks:=tk})->codeAny (model P w) A (.builtin "min.loop" ⟨[.ref I,.none,.ref S],[]⟩) R t:=by
 have W:=C9 (prog:=P) (w:=w) (A:=A.in1) hh I l hlI ci
 have nm:(toString "min"++toString ".loop":String)="min.loop":=by decide
 have sI:∀{b:ac}{o:Obj},h0.get? b=some o->b∉[I]:=λ{b o}e q=>by
  rw[zn.mp q,nI]at e;cases e
 have sS:∀{b:ac}{o:Obj},h0.get? b=some o->S≠b:=λ{b o}e q=>by
  rw[<-q,nS]at e;cases e
 intro k
 induction k with
 |zero=>
  intro j t vb c hk hj st xM gS kp hR
  have bH:j+1=ci.size:=by lia
  refine jA Gu (?_:wpAny _ _ _ _ _ _)
  rw[mF mD _]
  show wpAny _ A.in1 (seqItems? (.ref S) >>= _) _ _ t
  refine bd (u0 gS rfl (?_:wpAny _ _ _ _ _ _))
  show wpAny _ A.in1 (tryCatch (pyNext (.ref I)) _ >>= _) _ _ t
  refine bd (BV (W.done t _ _ (bH▸st) λh1 tk k1=>(?_:wpAny _ _ _ _ _ _)))
  have gS1:=k1 S _ (λq=>hSI (zn.mp q)) gS
  show wpAny _ A.in1 (updateSeq S (λ_=> #[]) >>= _) _ _ _
  refine bd (Lb gS1 rfl (bd (v_ (eg ?_))))
  exact hR vb _ tk (by rw[<-bH];exact xM) λb o e=>(mE _ _ (sS e)).trans (k1 b o (sI e) (kp b o e))
 |succ k ih=>
  intro j t vb c hk hj st xM gS kp hR
  have rc:j+1<ci.size:=by lia
  refine jA Gu (?_:wpAny _ _ _ _ _ _)
  rw[mF mD _]
  show wpAny _ A.in1 (seqItems? (.ref S) >>= _) _ _ t
  refine bd (u0 gS rfl (?_:wpAny _ _ _ _ _ _))
  show wpAny _ A.in1 (tryCatch (pyNext (.ref I)) _ >>= _) _ _ t
  refine bd (BV (W.item (j+1) t _ _ rc st λv h1 tk hv st1 k1=>(?_:wpAny _ _ _ _ _ _)))
  have gS1:=k1 S _ (λq=>hSI (zn.mp q)) gS
  have kp1:Kp h0 h1:=λb o e=>k1 b o (sI e) (kp b o e)
  show wpAny _ A.in1 (tryCatch (holding [v,v] (richCompare .Lt v vb >>= _)) _ >>= _) _ _ _
  refine bd (BV (b_ (bd (cmp (j+1) (argBest bt j) v vb _ _ _ hv xM kp1 (?_:wpAny _ _ _ _ _ _)))))
  refine bd (b_ (iJ (bd (v_ (eg ?_)))))
  cases hb:bt (j+1) (argBest bt j)with
  |true=>
   simp only[if_true]
   refine bd (Lb gS1 rfl (bd (v_ (?_:wpAny _ _ _ _ _ _))))
   rw[nm]
   refine eg ⟨qv mD _,ih (j+1) _ v _ (by lia) rc (W.frame _ _ _ st1 λb Fx o e=> ?_) (by simp only[argBest,hb,if_true];exact hv) (kl _ gS1 rfl) (λb o e=>(mE _ _ (sS e)).trans (kp1 b o e)) hR⟩
   refine(mE _ _ (λq:S=b=> ?_)).trans e
   rcases wl.mp Fx with e1|e1
   .exact hSI (q.trans e1)
   .exact hSl (q.trans (zn.mp e1))
  |false=>
   simp only[gG,if_false]
   refine bd (v_ (?_:wpAny _ _ _ _ _ _))
   rw[nm]
   exact eg ⟨qv mD _,ih (j+1) _ vb c (by lia) rc st1 (by simp only[argBest,hb,gG,if_false];exact xM) gS1 kp1 hR⟩
theorem V9(hh:A.handled=none)(hlI:l≠I)(nI:h0.get? I=none)(nS:h0.get? S=none)(hSI:S≠I)(hSl:S≠l)
 (cmp:∀i j vi vj(t:ap)(Q:al->ap->Prop)(E:al->ap->Prop),ci[i]? =some vi->ci[j]? =some vj->Kp h0 t.heap->Q (.bool (bt i j)) t->wpAny (model P w) A.in1 (richCompare .Lt vi vj) Q E t)
 (hn:0<ci.size){t:ap}{c:Nat}(st:t.heap.IsListIter I l 0/\t.heap.IsList l ci)(gS:t.heap.get? S=some {cls:=.type "list",dict:=none,data:=.seq #[] c,slots:= #[]})(kp:Kp h0 t.heap)
 (hR:∀v h' tk,ci[argBest bt (ci.size-1)]? =some v->Kp h0 h'->R (.ok (.ret v)) {t with heap:=h',toks:=tk}):codeAny (model P w) A (.builtin "min.loop" ⟨[.ref I,.none,.ref S],[]⟩) R t:=by
 have W:=C9 (prog:=P) (w:=w) (A:=A.in1) hh I l hlI ci
 have nm:(toString "min"++toString ".loop":String)="min.loop":=by decide
 refine jA Gu (?_:wpAny _ _ _ _ _ _)
 rw[mF mD _]
 show wpAny _ A.in1 (seqItems? (.ref S) >>= _) _ _ t
 refine bd (u0 gS rfl (?_:wpAny _ _ _ _ _ _))
 show wpAny _ A.in1 (tryCatch (pyNext (.ref I)) _ >>= _) _ _ t
 refine bd (BV (W.item 0 t _ _ hn st λv h1 tk hv st1 k1=>(?_:wpAny _ _ _ _ _ _)))
 have gS1:=k1 S _ (λq=>hSI (zn.mp q)) gS
 show wpAny _ A.in1 (updateSeq S (λ_=> #[v,v]) >>= _) _ _ _
 refine bd (Lb gS1 rfl (?_:wpAny _ _ _ _ _ _))
 rw[nm]
 refine eg ⟨qv mD _,XF hh hlI nI nS hSI hSl cmp _ 0 _ v _ rfl hn (W.frame _ _ _ st1 λb Fx o e=> ?_) hv (kl _ gS1 rfl) (λb o e=> ?_) hR⟩
 .refine(mE _ _ (λq:S=b=> ?_)).trans e
  rcases wl.mp Fx with e1|e1
  .exact hSI (q.trans e1)
  .exact hSl (q.trans (zn.mp e1))
 .refine(mE _ _ (λq:S=b=> ?_)).trans (k1 b o (λq=> ?_) (kp b o e))
  .rw[<-q,nS]at e;cases e
  .rw[zn.mp q,nI]at e;cases e
theorem Xa{E:al->ap->Prop}{s:ap}{Q:al->ap->Prop}(hh:A.handled=none)(hl:s.heap.IsList l ci)(hn:0<ci.size)
 (cmp:∀i j vi vj(t:ap)(Q:al->ap->Prop)(E:al->ap->Prop),ci[i]? =some vi->ci[j]? =some vj->Kp s.heap t.heap->Q (.bool (bt i j)) t->wpAny (model P w) A.in1 (richCompare .Lt vi vj) Q E t)
 (h:∀v h' tk,ci[argBest bt (ci.size-1)]? =some v->Kp s.heap h'->Q v {s with heap:=h',toks:=tk}):wpAny (model P w) A (call (.builtin "min") [.ref l]) Q E s:=by
 have nm:(toString "min"++toString ".loop":String)="min.loop":=by decide
 have rc:l<s.heap.objs.size:=by obtain⟨_,e,_⟩:=hl;exact FB e
 refine call_function_tree PySem.F.kind_min PySem.F.plain_min PySem.F.entry_min (PySem.F.args_min1 _) (?_:wpAny _ _ _ _ _ _)
 show wpAny _ A.in1 (Qo "min" ["key","default"] 0 ⟨[],[]⟩ >>= _) _ _ s
 refine bd (Df (show Qo "min" ["key","default"] 0 ⟨[],[]⟩=pure [none,none]from rfl) (bd (eg (bd ?_))))
 refine An hl (bd (kz (?_:wpAny _ _ _ _ _ _)))
 rw[nm]
 have z1:∀{h:io}{o:Obj},(h.push o).objs.size=h.objs.size+1:=λ{h o}=>eL ..
 refine eg ⟨qv mD _,V9 (h0:=s.heap) (A:=A) hh (Ps rc) (Hg (nn _)) (Hg (by rw[z1];exact gg _)) (by rw[z1];exact Nat.succ_ne_self _) (by rw[z1];exact(Ps (iI rc)).symm) cmp hn ⟨?_,?_⟩ (Tl _ rfl) (λb o e=>P5 _ (P5 _ e)) h⟩
 .exact⟨_,P5 _ (Tl _ rfl),rfl,rfl⟩
 .exact(hl.push _).push _
end
section
variable{X:Cx}
def w_(K:ge):List V->Hp->VK->Prop:=λvs H Q=>∃(a:ac)(zs:List (ac×List Int)),vs=[V.ref a]/\aa K H a (zs.map λz=>V.ref z.1)/\(∀z∈zs,PP H z)/\zs≠[]/\
 ∀z∈zs,(∀y∈zs,HT.lexLt y.2 z.2=false)->Q (.ref z.1) H
theorem ZZ(hc:X.calm=true)(hu:X.A.units+2<cLine):ak X (.builtin "min") (w_ X.K):=by
 intro pins s σ H vs us Q I r h
 obtain⟨a,zs,rfl,hs,ht,bn,q⟩:=h
 obtain⟨ci,rv,hl,hz⟩:=I.list hs
 rw[Vals.d4 r]
 have ei:=kZ rv
 subst ei
 have cO:0<zs.length:=pP.mpr bn
 have sz:(zs.map λz=>im z.1).toArray.size=zs.length:=by simp
 have at_:∀{i:Nat}{v:al},(zs.map λz=>im z.1).toArray[i]? =some v->∃z,zs[i]? =some z/\v=.ref z.1:=λ{i v}e=>by
  rw[kn,wP]at e
  cases ez:zs[i]? with
  |none=>rw[ez]at e;cases e
  |some z=>rw[ez]at e;cases e;exact⟨z,rfl,rfl⟩
 refine Xa (bt:=λi j=>HT.lexLt ((zs.map (·.2)).getD i []) ((zs.map (·.2)).getD j [])) (I.ok.hd hc) hl.isList (by rw[sz];exact cO) (λi j vi vj t Q' E' hi hj kp hq=> ?_) λv h' tk hv kp=> ?_
 .obtain⟨y,ey,rfl⟩:=at_ hi
  obtain⟨z,ez,rfl⟩:=at_ hj
  obtain⟨i1,r1,p1,_⟩:=I.tuple (P3.of (K:=X.K) (ht y (Tk ey)))
  obtain⟨i2,r2,p2,_⟩:=I.tuple (P3.of (K:=X.K) (ht z (Tk ez)))
  have e1:(zs.map (·.2)).getD i []=y.2:=by rw[Sc,wP,ey];rfl
  have e2:(zs.map (·.2)).getD j []=z.2:=by rw[Sc,wP,ez];rfl
  rw[e1,e2]at hq
  obtain⟨o1,g1,c1,n1,d1⟩:=p1
  obtain⟨o2,g2,c2,n2,d2⟩:=p2
  exact(HT.V4 (A:=X.A.in1) (s:=t) ⟨o1,kp _ _ g1,c1,n1,d1⟩ ⟨o2,kp _ _ g2,c2,n2,d2⟩ (intsAre_of r1) (intsAre_of r2) (Nat.lt_of_succ_lt hu) hq:wpAny _ _ (compareOp .Lt _ _) _ _ _)
 .obtain⟨z,ez,rfl⟩:=at_ hv
  refine⟨.ref z.1,H,I.kept kp,rfl,q z (Tk ez) λy hy=> ?_⟩
  obtain⟨j,hj,ej⟩:=List.getElem_of_mem hy
  have key:=Az (λi=>(zs.map (·.2)).getD i []) ((zs.map λz=>im z.1).toArray.size-1) j (by rw[sz];lia)
  have e1:(zs.map (·.2)).getD j []=y.2:=by rw[Sc,wP,wS hj,ej];rfl
  have e2:(zs.map (·.2)).getD (argBest (λi j=>HT.lexLt ((zs.map (·.2)).getD i []) ((zs.map (·.2)).getD j [])) ((zs.map λz=>im z.1).toArray.size-1)) []=z.2:=by rw[Sc,wP,ez];rfl
  simp only[e1,e2]at key
  exact key
end
section
variable{X:Cx}(K:ge)(h:X.K=K)
include h
theorem nX(hc:X.calm=true)(hu:X.A.units+2<cLine):ak X (.builtin "min") (w_ K):=h▸ZZ hc hu
theorem Wq(hu:X.A.units+2<cLine):aM X (compareOp .NotIn) (OO K true):=h▸XT hu
theorem JR(hu:X.A.units+2<cLine):xw X "list.index" (DK K):=h▸XG hu
theorem TZ{tg e:lv}{ta:TA}{p pos:Pos}(hg:Gl X "reversed")(hm:X.mg "reversed"=none)(ha:PA X [e] ta)(hs:starEach [e] X.env=[(false,eval e X.env)]:=by rfl):PI X tg (.Call (.Name "reversed" p) [e] [] pos) (E8 K ta):=h▸U8 hg hm ha hs
theorem Ze{e:lv}{ta:TA}{p pos lT:Pos}{elts:List lv}{kk:Nat}(hg:Gl X "enumerate")(hm:X.mg "enumerate"=none)(ha:PA X [e] ta)(hs:starEach [e] X.env=[(false,eval e X.env)]:=by rfl):
 PI X (.Tuple elts kk lT) (.Call (.Name "enumerate" p) [e] [] pos) (Ez K ta):=h▸aaB hg hm ha hs
end
theorem g_{A:ww}{k:Nat}(hr:UF k A):A.units+2<cLine:=by have:=hr.un;lia
end L2
end
section
namespace ST
open PySem PySem.SetTable
abbrev aN(l:List Nat):Prop:=l.Pairwise (·<·)
theorem aN.lt{l:List Nat}(h:aN l){i j x y:Nat}(hx:l[i]? =some x)(hy:l[j]? =some y)(d8:i<j):x<y:=by
 obtain⟨hi,rfl⟩:=P4.mp hx
 obtain⟨hj,rfl⟩:=P4.mp hy
 exact sW.mp h i j hi hj d8
theorem aN.le{l:List Nat}(h:aN l){i j x y:Nat}(hx:l[i]? =some x)(hy:l[j]? =some y)(d8:i<=j):x<=y:=by
 rcases mH d8 with z|z
 .exact TW (h.lt hx hy z)
 .subst z;rw[hx]at hy;cases hy;exact nn _
theorem aN.inj{l:List Nat}(h:aN l){i j x:Nat}(hx:l[i]? =some x)(hy:l[j]? =some x):i=j:=by
 rcases IB i j with z|z|z
 .exact absurd (h.lt hx hy z) (f9 _)
 .exact z
 .exact absurd (h.lt hy hx z) (f9 _)
theorem CA(xs:Array Nat)(j:Nat)(hs:aN xs.toList):∀(fuel lo hi:Nat),hi-lo<=fuel->lo<=hi->hi<=xs.size->
 (∀i x,xs.toList[i]? =some x->i<lo->x<j)->(∀i x,xs.toList[i]? =some x->hi<=i->¬x<j)->
 DU xs j fuel lo hi<=xs.size/\∀i x,xs.toList[i]? =some x->(x<j↔i<DU xs j fuel lo hi)
 |0,lo,hi,h1,h2,h3,h4,h5=>by
  have e:hi=lo:=by lia
  subst e
  unfold DU
  refine⟨h3,λi x hx=>⟨λz=> ?_,λz=>h4 i x hx z⟩⟩
  rcases jE i hi with y|y
  .exact y
  .exact absurd z (h5 i x hx y)
 |fuel+1,lo,hi,h1,h2,h3,h4,h5=>by
  unfold DU
  by_cases rc:lo<hi
  .rw[if_pos rc]
   dsimp only
   have hm:(lo+hi) / 2<xs.toList.length:=by rw[wr];lia
   have hx:xs.toList[(lo+hi) / 2]? =some xs.toList[(lo+hi) / 2]:=wS hm
   have hg:xs.getD ((lo+hi) / 2) j=xs.toList[(lo+hi) / 2]:=by
    rw[fT,<-de,hx];rfl
   rw[hg]
   by_cases hv:xs.toList[(lo+hi) / 2]<j
   .rw[if_pos hv]
    refine CA xs j hs fuel _ _ (by lia) (by lia) h3 (λi x hx' hi'=> ?_) h5
    exact gH (hs.le hx' hx (by lia)) hv
   .rw[if_neg hv]
    refine CA xs j hs fuel _ _ (by lia) (by lia) (by lia) h4 (λi x hx' hi'=> ?_)
    have:=hs.le hx hx' hi'
    lia
  .rw[if_neg rc]
   have e:hi=lo:=by lia
   subst e
   refine⟨h3,λi x hx=>⟨λz=> ?_,λz=>h4 i x hx z⟩⟩
   rcases jE i hi with y|y
   .exact y
   .exact absurd z (h5 i x hx y)
theorem qw{xs:Array Nat}(hs:aN xs.toList)(j:Nat):below xs j<=xs.size/\∀i x,xs.toList[i]? =some x->(x<j↔i<below xs j):=
 CA xs j hs xs.size 0 xs.size (by lia) (by lia) (nn _) (λ_ _ _ h=>absurd h (by lia)) (λi x hx h=>by
  have:=(P4.mp hx).1
  rw[wr]at this;lia)
theorem vA{xs:Array Nat}(hs:aN xs.toList){j i:Nat}(h:xs.toList[i]? =some j):below xs j=i:=by
 obtain⟨h1,h2⟩:=qw hs j
 rcases IB (below xs j) i with z|z|z
 .have hi:=(P4.mp h).1
  have hx:xs.toList[below xs j]? =some (xs.toList[below xs j]'(by lia)):=wS _
  have:=hs.lt hx h z
  have:=(h2 _ _ hx).mp this
  lia
 .exact z
 .have:=(h2 _ _ h).mpr z
  lia
theorem below_at{xs:Array Nat}(hs:aN xs.toList){j i:Nat}:xs[below xs j]? =some j/\i=below xs j↔xs.toList[i]? =some j:=by
 constructor
 .rintro⟨h,rfl⟩;rw[de];exact h
 .intro h
  have:=vA hs h
  subst this
  exact⟨by rw[<-de];exact h,rfl⟩
theorem BZ{xs:Array Nat}(hs:aN xs.toList){j:Nat}:xs[below xs j]? =some j↔j∈xs.toList:=by
 constructor
 .intro h;rw[<-de]at h;exact Tk h
 .intro h
  obtain⟨i,hi⟩:=fX.mp h
  exact((below_at hs).mpr hi).1
theorem lh{xs:Array Nat}(hs:aN xs.toList){j:Nat}:has xs j=true↔j∈xs.toList:=by
 unfold has;rw[beq_iff_eq];exact BZ hs
theorem Mv{xs:Array Nat}(hs:aN xs.toList){j:Nat}(hj:j∉xs.toList):aN (insertAt xs (below xs j) j).toList:=by
 rw[K_]
 obtain⟨h1,h2⟩:=qw hs j
 have ht:=yk (below xs j) xs.toList
 have hs':aN (xs.toList.take (below xs j)++xs.toList.drop (below xs j)):=by rw[ht];exact hs
 obtain⟨a1,a2,a3⟩:=Vq.mp hs'
 refine Vq.mpr ⟨a1,be.mpr ⟨λy hy=> ?_,a2⟩,λx hx y hy=> ?_⟩
 .obtain⟨i,hi⟩:=fX.mp hy
  rw[WZ]at hi
  have h3:=h2 _ _ hi
  have h4:y≠j:=λz=>hj (z▸Tk hi)
  lia
 .have hxj:x<j:=by
   obtain⟨i,hi⟩:=fX.mp hx
   have hl:=(P4.mp hi).1
   rw[dG]at hl
   rw[Gj (by lia)]at hi
   exact(h2 _ _ hi).mpr (by lia)
  rcases wl.mp hy with rfl|hy
  .exact hxj
  .exact a3 x hx y hy
theorem oj{xs:Array Nat}{p j x:Nat}:x∈(insertAt xs p j).toList↔x=j\/x∈xs.toList:=by
 rw[(insertAt_perm xs p j).mem_iff,WW]
 simp[or_comm]
theorem di{α:Type}(xs:Array α)(p:Nat):(eraseAt xs p).toList=xs.toList.eraseIdx p:=by
 simp[eraseAt,List.extract_eq_take_drop,ki,QQ]
theorem n9{α:Type}(xs:Array α)(p:Nat)(x:α):(insertAt xs p x).size=xs.size+1:=by
 have:=(insertAt_perm xs p x).length_eq
 rw[wr,wr,Array.size_push]at this;exact this
theorem KP{t:GT}(hp:aN t.place.toList){j i:Nat}:t.slot j=.live i↔t.place.toList[i]? =some j:=by
 unfold slot
 dsimp only
 rw[<-below_at hp]
 by_cases h:t.place[below t.place j]? =some j
 .simp only[h,beq_self_eq_true,↓reduceIte,true_and,Slot.live.injEq]
  exact⟨λe=>e.symm,λe=>e.symm⟩
 .have:(t.place[below t.place j]? ==some j)=false:=by rw[beq_eq_false_iff_ne];exact h
  rw[this]
  simp only[gG,↓reduceIte,h,false_and,iff_false]
  split<;>simp
def bE(t:GT)(j:Nat):Prop:=j∈t.place.toList\/j∈t.dummies.toList
theorem J0{t:GT}(hp:aN t.place.toList)(hd:aN t.dummies.toList){j:Nat}:t.slot j=.empty↔¬bE t j:=by
 unfold slot bE
 dsimp only
 rw[<-BZ hp,<-lh hd]
 by_cases h:t.place[below t.place j]? =some j
 .simp[h]
 .have:(t.place[below t.place j]? ==some j)=false:=by rw[beq_eq_false_iff_ne];exact h
  rw[this]
  simp only[gG,↓reduceIte,h,false_or]
  split<;>simp_all
theorem BJ{t:GT}(hp:aN t.place.toList)(hd:aN t.dummies.toList){j:Nat}:t.slot j=.dummy↔j∉t.place.toList/\j∈t.dummies.toList:=by
 unfold slot
 dsimp only
 rw[<-BZ hp,<-lh hd]
 by_cases h:t.place[below t.place j]? =some j
 .simp[h]
 .have:(t.place[below t.place j]? ==some j)=false:=by rw[beq_eq_false_iff_ne];exact h
  rw[this]
  simp only[gG,↓reduceIte,h,not_false_eq_true,true_and]
  split<;>simp_all
end ST
namespace ST
open PySem PySem.SetTable
noncomputable def gn(m:Nat)(p:Probe):Probe:=
 if p.more>0 then{p with j:=p.j+1,more:=p.more-1}else
 {p with j:=(leap m p.i p.perturb).1,more:=runEnd m (leap m p.i p.perturb).1-(leap m p.i p.perturb).1,i:=(leap m p.i p.perturb).1,perturb:=(leap m p.i p.perturb).2}
theorem VL(t:GT)(p:Probe):t.advance p=gn t.mask p:=rfl
theorem VJ(m:Nat)(p:Probe)(d:Option Nat):gn m {p with dummy:=d}={gn m p with dummy:=d}:=by
 unfold gn;dsimp only;split<;>rfl
noncomputable def lp(m:Nat)(h:Int):Nat->Nat×Nat
 |0=>(bits h % (m+1),bits h)
 |r+1=>leap m (lp m h r).1 (lp m h r).2
noncomputable def path(m:Nat)(h:Int):Nat->Probe
 |0=>{j:=bits h % (m+1),more:=runEnd m (bits h % (m+1))-bits h % (m+1),i:=bits h % (m+1),perturb:=bits h,dummy:=none}
 |n+1=>gn m (path m h n)
noncomputable def run(m i:Nat):Nat:=runEnd m i-i
theorem abT(m i:Nat):run m i<=9:=by unfold run runEnd;split<;>lia
theorem ND(m i:Nat)(h:i<=m):i+run m i<=m:=by unfold run runEnd;split<;>lia
noncomputable def Nn(m:Nat)(h:Int):Nat->Nat
 |0=>0
 |r+1=>Nn m h r+(run m (lp m h r).1+1)
theorem NR(m:Nat)(h:Int):∀r,Nn m h r<=10*r
 |0=>by unfold Nn;lia
 |r+1=>by
  have:=NR m h r
  have:=abT m (lp m h r).1
  unfold Nn;lia
theorem vW(m:Nat)(h:Int):∀r k,k<=run m (lp m h r).1->
 path m h (Nn m h r+k)={j:=(lp m h r).1+k,more:=run m (lp m h r).1-k,i:=(lp m h r).1,perturb:=(lp m h r).2,dummy:=none}:=by
 intro r
 induction r with
 |zero=>
  intro k
  induction k with
  |zero=>intro _;rfl
  |succ k ih=>
   intro hk
   show gn m (path m h (Nn m h 0+k))=_
   rw[ih (by lia)]
   unfold gn
   rw[if_pos (by dsimp only;lia)]
   dsimp only
   congr 1
 |succ r ihr=>
  intro k
  induction k with
  |zero=>
   intro _
   have e:Nn m h (r+1)+0=(Nn m h r+run m (lp m h r).1)+1:=by show Nn m h r+(run m (lp m h r).1+1)+0=_;lia
   rw[e]
   show gn m (path m h (Nn m h r+run m (lp m h r).1))=_
   rw[ihr _ (nn _)]
   unfold gn
   rw[if_neg (by dsimp only;lia)]
   rfl
  |succ k ih=>
   intro hk
   show gn m (path m h (Nn m h (r+1)+k))=_
   rw[ih (by lia)]
   unfold gn
   rw[if_pos (by dsimp only;lia)]
   dsimp only
   congr 1
theorem EB(m:Nat)(h:Int):∀r,(lp m h r).1<=m
 |0=>zu (jI _ (vw m))
 |r+1=>zu (jI _ (vw m))
theorem Du(m:Nat)(h:Int):∀n,∃r k,k<=run m (lp m h r).1/\n=Nn m h r+k
 |0=>⟨0,0,SC _,rfl⟩
 |n+1=>by
  obtain⟨r,k,h1,h2⟩:=Du m h n
  by_cases z:k<run m (lp m h r).1
  .exact⟨r,k+1,z,by lia⟩
  .refine⟨r+1,0,SC _,?_⟩
   show n+1=Nn m h r+(run m (lp m h r).1+1)+0
   lia
theorem DG(m:Nat)(h:Int)(n:Nat):(path m h n).j<=m:=by
 obtain⟨r,k,h1,rfl⟩:=Du m h n
 rw[vW m h r k h1]
 have:=ND m _ (EB m h r)
 dsimp only;lia
theorem Ws(m:Nat)(h:Int)(n:Nat):(path m h n).dummy=none:=by
 obtain⟨r,k,h1,rfl⟩:=Du m h n
 rw[vW m h r k h1]
theorem ZU(h:Int):bits h<2 ^ 64:=by
 unfold bits
 have h1:(0:Int)<=h % (2 ^ 64:Int):=Int.emod_nonneg _ (by decide)
 have h2:h % (2 ^ 64:Int)<(2 ^ 64:Int):=Int.emod_lt_of_pos _ (by decide)
 lia
theorem JP(m:Nat)(h:Int):∀r,(lp m h r).2=bits h / 32 ^ r
 |0=>by simp[lp]
 |r+1=>by
  show(lp m h r).2 / 32=_
  rw[JP m h r,Nat.div_div_eq_div_mul,Nat.pow_succ]
theorem abv(m:Nat)(h:Int)(r:Nat):(lp m h (13+r)).2=0:=by
 rw[JP]
 have h1:=ZU h
 refine p8 (b7 h1 ?_)
 have:(32:Nat) ^ 13<=32 ^ (13+r):=bM (by decide) (by lia)
 exact Ch (by decide) this
noncomputable def mq(m i:Nat):Nat:=(i*5+1) % (m+1)
noncomputable def bX(m:Nat):Nat->Nat
 |0=>0
 |s+1=>mq m (bX m s)
noncomputable def jZ(m:Nat):Nat->Nat->List Nat
 |0,_=>[]
 |f+1,i=>i::jZ m f (mq m i)
noncomputable def marks:List Nat->Nat
 |[]=>0
 |i::l=>marks l ||| 2 ^ i
theorem Kw:∀(l:List Nat)(e:Nat),(marks l).testBit e=true->e∈l
 |[],e,h=>by simp[marks]at h
 |i::l,e,h=>by
  unfold marks at h
  rw[Nat.testBit_or,uo,Nat.testBit_two_pow]at h
  rcases h with h|h
  .exact AT _ (Kw l e h)
  .rw[of_decide_eq_true h];exact Go
noncomputable def w8(m:Nat):Bool:=marks (jZ m (m+1) 0)==2 ^ (m+1)-1&&(jZ m (m+2) 0)[m+1]? ==some 0
def bD(m:Nat):Prop:=m=7\/m=15\/m=31\/m=63\/m=127\/m=255\/m=511
theorem XU:([7,15,31,63,127,255,511].all w8)=true:=by decide+kernel
theorem LH{m:Nat}(h:bD m):w8 m=true:=by
 have:=kC.mp XU m
 refine this ?_
 unfold bD at h
 simp only[wl,List.not_mem_nil,or_false]
 exact h
theorem DC(m:Nat):∀f s i,(jZ m f (bX m i))[s]? =if s<f then some (bX m (i+s))else none
 |0,s,i=>by simp[jZ]
 |f+1,0,i=>by simp[jZ]
 |f+1,s+1,i=>by
  unfold jZ
  rw[x3]
  have:=DC m f s (i+1)
  rw[show mq m (bX m i)=bX m (i+1)from rfl,this]
  have e:i+1+s=i+(s+1):=by lia
  rw[e]
  by_cases z:s<f
  .rw[if_pos z,if_pos (by lia)]
  .rw[if_neg z,if_neg (by lia)]
theorem MH{m:Nat}(hm:bD m){e:Nat}(he:e<=m):∃s,s<=m/\bX m s=e:=by
 have h:=LH hm
 unfold w8 at h
 rw[cQ]at h
 have h1:=eq_of_beq h.1
 have h2:e∈jZ m (m+1) 0:=Kw _ e (by rw[h1,Nat.testBit_two_pow_sub_one];exact decide_eq_true (by lia))
 obtain⟨s,hs⟩:=fX.mp h2
 rw[show(0:Nat)=bX m 0 from rfl,DC]at hs
 split at hs
 .rename_i z
  refine⟨s,by lia,?_⟩
  cases hs;rw[gQ]
 .cases hs
theorem Y'{m:Nat}(hm:bD m):bX m (m+1)=0:=by
 have h:=LH hm
 unfold w8 at h
 rw[cQ]at h
 have h2:=eq_of_beq h.2
 have h3:=DC m (m+2) (m+1) 0
 rw[show bX m 0=0 from rfl]at h3
 rw[h3,if_pos (by lia),gQ]at h2
 exact TD h2
theorem MG(m:Nat){a b:Nat}(h:bX m a=bX m b):∀c,bX m (a+c)=bX m (b+c)
 |0=>h
 |c+1=>by show mq m (bX m (a+c))=mq m (bX m (b+c));rw[MG m h c]
theorem D7(m:Nat)(h:Int){a:Nat}(ha:bX m a=(lp m h 13).1):∀s,(lp m h (13+s)).1=bX m (a+s)
 |0=>ha.symm
 |s+1=>by
  show(leap m (lp m h (13+s)).1 (lp m h (13+s)).2).1=mq m (bX m (a+s))
  rw[<-D7 m h ha s,abv]
  unfold leap mq
  simp
theorem cover{m:Nat}(hm:bD m)(h:Int){e:Nat}(he:e<=m):∃r,r<m+14/\(lp m h r).1=e:=by
 obtain⟨a,ha,ea⟩:=MH hm (EB m h 13)
 obtain⟨b,hb,eb⟩:=MH hm he
 by_cases z:a<=b
 .refine⟨13+(b-a),by lia,?_⟩
  rw[D7 m h ea,<-eb]
  congr 1;lia
 .refine⟨13+(m+1+b-a),by lia,?_⟩
  rw[D7 m h ea,<-eb]
  have e1:a+(m+1+b-a)=(m+1)+b:=by lia
  rw[e1]
  have e2:bX m (m+1)=bX m 0:=Y' hm
  rw[MG m e2 b,gQ]
theorem VT{m:Nat}(hm:bD m)(h:Int){e:Nat}(he:e<=m):∃n,n<10*(m+14)/\(path m h n).j=e:=by
 obtain⟨r,h1,h2⟩:=cover hm h he
 refine⟨Nn m h r,?_,?_⟩
 .have:=NR m h r;lia
 .have:=vW m h r 0 (SC _)
  rw[ft]at this
  rw[this];exact h2
theorem least{P:Nat->Prop}:∀n,P n->∃k,k<=n/\P k/\∀i,i<k->¬P i:=by
 intro n
 induction n using Nat.strongRecOn with
 |ind n ih=>
  intro hn
  by_cases h:∃i,i<n/\P i
  .obtain⟨i,hi,hp⟩:=h
   obtain⟨k,h1,h2,h3⟩:=ih i hi hp
   exact⟨k,by lia,h2,h3⟩
  .exact⟨n,nn _,hn,λi hi hp=>h ⟨i,hi,hp⟩⟩
theorem Kz:∀(n:Nat)(l:List Nat),l.Nodup->(∀x∈l,x<n)->l.length<=n
 |0,l,_,h=>by
  cases l with
  |nil=>simp
  |cons x l=>exact absurd (h x (Go)) (by lia)
 |n+1,l,hn,h=>by
  have h1:=Kz n (l.filter (·≠n)) (hn.filter _) (λx hx=>by
   have:=dh.mp hx
   have h2:=h x this.1
   have h3:x≠n:=of_decide_eq_true this.2
   lia)
  have h2:l.length<=(l.filter (·≠n)).length+1:=by
   clear h h1
   induction l with
   |nil=>simp
   |cons x l ih=>
    obtain⟨a,b⟩:=gJ.mp hn
    by_cases z:x=n
    .subst z
     have:l.filter (·≠x)=l:=yC.mpr (λy hy=>decide_eq_true (λe=>a (e▸hy)))
     rw[Gx (by simp),this]
     simp
    .rw[T' (by simpa using z)]
     have:=ih b
     simp only[Os];lia
  lia
theorem UB{m:Nat}{l:List Nat}(h:l.length<=m):∃e,e<=m/\e∉l:=by
 refine fV λhc=> ?_
 have aE:∀e,e<=m->e∈l:=λe he=>fV λz=>hc ⟨e,he,z⟩
 have OE:∀(l:List Nat)(n:Nat),(∀e,e<n->e∈l)->n<=l.length:=by
  intro l n
  induction n generalizing l with
  |zero=>intro _;lia
  |succ n ih=>
   intro h
   have h1:=ih (l.erase n) (λe he=>(Vp (by lia)).mpr (h e (by lia)))
   rw[SU (h n (by lia))]at h1
   have:0<l.length:=GU (h n (by lia))
   lia
 have:=OE l (m+1) (λe he=>aE e (by lia))
 lia
end ST
namespace ST
open PySem PySem.SetTable
def Reach(m:Nat)(xS:Nat->Prop)(h:Int)(j:Nat):Prop:=∃n,(path m h n).j=j/\∀n',n'<n->xS (path m h n').j
theorem Reach.mono{m:Nat}{xS OL:Nat->Prop}{h:Int}{j:Nat}(r:Reach m xS h j)(k:∀x,xS x->OL x):Reach m OL h j:=
 let⟨n,a,b⟩:=r;⟨n,a,λn' hn=>k _ (b n' hn)⟩
structure aH (t:GT) (es:List (Int×al)):Prop where
 jo:bD t.mask
 pr:aN t.place.toList
 dr:aN t.dummies.toList
 len:t.place.toList.length=es.length
 pin:∀j,j∈t.place.toList->j<=t.mask
 xy:∀j,j∈t.dummies.toList->j<=t.mask
 r_:∀j,j∈t.dummies.toList->j∉t.place.toList
 room:t.fill<=t.mask
 reach:∀(i j:Nat)(e:Int×al),t.place.toList[i]? =some j->es[i]? =some e->Reach t.mask (bE t) e.1 j
theorem aH.fits{t:GT}{es:Array (Int×al)}(o:aH t es.toList):t.fits es.size=true:=by
 unfold SetTable.fits
 have:=o.len
 rw[wr,wr]at this
 simp[this,o.room]
theorem aH.ends{t:GT}{es:List (Int×al)}(o:aH t es)(h:Int):∃E,E<10*turns t.mask/\¬bE t (path t.mask h E).j/\∀n,n<E->bE t (path t.mask h n).j:=by
 have hl:(t.place.toList++t.dummies.toList).length<=t.mask:=by
  rw[Rs,wr,wr];exact o.room
 obtain⟨e,he,hn⟩:=UB hl
 obtain⟨n,h1,h2⟩:=VT o.jo h he
 obtain⟨E,a,b,c⟩:=least (P:=λn=>¬bE t (path t.mask h n).j) n (by
  rw[h2];intro z;exact hn (NE.mpr z))
 refine⟨E,by unfold turns;lia,b,λn hn=>fV (c n hn)⟩
def lX(t:GT)(h:Int)(E:Nat)(d:Option Nat):Prop:=∀x,d=some x->t.slot x=.dummy/\∃k,k<E/\(path t.mask h k).j=x
theorem vX{t:GT}{es:List (Int×al)}(o:aH t es)(hashAt:Nat->Int){h:Int}{E:Nat}(hE:¬bE t (path t.mask h E).j)(hl:∀n,n<E->bE t (path t.mask h n).j):
 ∀(fuel n:Nat)(d:Option Nat),n<=E->E-n<fuel->lX t h E d->
  (∃k i d',n<=k/\k<E/\t.slot (path t.mask h k).j=.live i/\hashAt i=h/\lX t h E d'/\(∀k',n<=k'->k'<k->∀i',t.slot (path t.mask h k').j=.live i'->hashAt i'≠h)/\
    probe.go t hashAt h fuel {path t.mask h n with dummy:=d}=some (.candidate (path t.mask h k).j i {path t.mask h (k+1)with dummy:=d'}))\/
  (∃d',lX t h E d'/\(∀k',n<=k'->k'<E->∀i',t.slot (path t.mask h k').j=.live i'->hashAt i'≠h)/\
    probe.go t hashAt h fuel {path t.mask h n with dummy:=d}=some (.empty (path t.mask h E).j d'))
 |0,n,d,h1,h2,h3=>absurd h2 (by lia)
 |fuel+1,n,d,h1,h2,h3=>by
  unfold probe.go
  by_cases hn:n=E
  .subst hn
   right
   refine⟨d,h3,λk' a b=>absurd b (by lia),?_⟩
   rw[(J0 o.pr o.dr).mpr hE]
  .have rc:n<E:=by lia
   have ja:=hl n rc
   have EX:∀d',t.advance {path t.mask h n with dummy:=d'}={path t.mask h (n+1)with dummy:=d'}:=λd'=>by
    rw[VL,VJ];rfl
   cases hs:t.slot (path t.mask h n).j with
   |empty=>exact absurd ja ((J0 o.pr o.dr).mp hs)
   |dummy=>
    have hd':lX t h E (some (path t.mask h n).j):=λx hx=>by cases hx;exact⟨hs,n,rc,rfl⟩
    have ih:=vX o hashAt hE hl fuel (n+1) (some (path t.mask h n).j) (by lia) (by lia) hd'
    dsimp only
    rw[EX]
    rcases ih with⟨k,i,d',a1,a2,a3,a4,a5,a6,a7⟩|⟨d',a5,a6,a7⟩
    .left
     refine⟨k,i,d',by lia,a2,a3,a4,a5,λk' b1 b2 i' b3=> ?_,a7⟩
     by_cases z:k'=n
     .subst z;rw[hs]at b3;cases b3
     .exact a6 k' (by lia) b2 i' b3
    .right
     refine⟨d',a5,λk' b1 b2 i' b3=> ?_,a7⟩
     by_cases z:k'=n
     .subst z;rw[hs]at b3;cases b3
     .exact a6 k' (by lia) b2 i' b3
   |live i=>
    dsimp only
    by_cases hh:hashAt i=h
    .rw[if_pos (beq_iff_eq.mpr hh)]
     left
     exact⟨n,i,d,nn _,rc,hs,hh,h3,λk' b1 b2=>absurd b2 (by lia),by rw[EX]⟩
    .rw[if_neg (λz=>hh (eq_of_beq z))]
     have ih:=vX o hashAt hE hl fuel (n+1) d (by lia) (by lia) h3
     rw[EX]
     rcases ih with⟨k,i2,d',a1,a2,a3,a4,a5,a6,a7⟩|⟨d',a5,a6,a7⟩
     .left
      refine⟨k,i2,d',by lia,a2,a3,a4,a5,λk' b1 b2 i' b3=> ?_,a7⟩
      by_cases z:k'=n
      .subst z;rw[hs]at b3;cases b3;exact hh
      .exact a6 k' (by lia) b2 i' b3
     .right
      refine⟨d',a5,λk' b1 b2 i' b3=> ?_,a7⟩
      by_cases z:k'=n
      .subst z;rw[hs]at b3;cases b3;exact hh
      .exact a6 k' (by lia) b2 i' b3
theorem KD(m:Nat)(h:Int)(n:Nat):path m h n={path m h n with dummy:=none}:=by
 have:=Ws m h n
 generalize path m h n=p at*
 cases p;cases this;rfl
def jQ(t:GT)(h:Int)(j:Nat):Prop:=j<=t.mask/\j∉t.place.toList/\Reach t.mask (bE t) h j
theorem Cp{t:GT}{es:List (Int×al)}(o:aH t es){h:Int}{E:Nat}(hE:¬bE t (path t.mask h E).j)(hl:∀n,n<E->bE t (path t.mask h n).j):jQ t h (path t.mask h E).j:=
 ⟨DG _ _ _,λz=>hE (.inl z),E,rfl,hl⟩
theorem Jm{t:GT}{es:List (Int×al)}(o:aH t es){h:Int}{E:Nat}(hl:∀n,n<E->bE t (path t.mask h n).j){d x:Nat}(hd:lX t h E (some x)):jQ t h x:=by
 obtain⟨h1,k,h2,rfl⟩:=hd x rfl
 have h3:=(BJ o.pr o.dr).mp h1
 exact⟨DG _ _ _,h3.1,k,rfl,λn hn=>hl n (by lia)⟩
theorem qR{α:Type}(l:List α)(p:Nat)(hp:p<=l.length)(x:α)(i:Nat):(l.take p++x::l.drop p)[i]? =if i<p then l[i]? else if i=p then some x else l[i-1]? :=by
 have hlen:(l.take p).length=p:=by rw[dG];lia
 by_cases h1:i<p
 .rw[if_pos h1,mz (by lia),Gj h1]
 .rw[if_neg h1,pJ (by lia),hlen]
  by_cases h2:i=p
  .subst h2;rw[if_pos rfl,Nat.sub_self];rfl
  .rw[if_neg h2]
   obtain⟨q,rfl⟩:∃q,i=p+1+q:=⟨i-p-1,by lia⟩
   rw[show p+1+q-p=q+1 by lia,x3,WZ]
   congr 1;lia
theorem aaD{t:GT}(hd:aN t.dummies.toList){j x:Nat}:bE (t.put j).1 x↔x=j\/bE t x:=by
 unfold bE put
 dsimp only
 rw[oj]
 split
 .rename_i hj
  have hm:=(lh hd).mp hj
  rw[di]
  obtain⟨i,hi⟩:=fX.mp hm
  rw[vA hd hi]
  constructor
  .rintro((h|h)|h)
   .exact .inl h
   .exact .inr (.inl h)
   .exact .inr (.inr (kg h))
  .rintro(h|h|h)
   .exact .inl (.inl h)
   .exact .inl (.inr h)
   .by_cases z:x=j
    .exact .inl (.inl z)
    .right
     obtain⟨i',hi'⟩:=fX.mp h
     refine sU.mpr ⟨i',λe=>z ?_,hi'⟩
     subst e;rw[hi]at hi';cases hi';rfl
 .constructor
  .rintro((h|h)|h)
   .exact .inl h
   .exact .inr (.inl h)
   .exact .inr (.inr h)
  .rintro(h|h|h)
   .exact .inl (.inl h)
   .exact .inl (.inr h)
   .exact .inr h
theorem aH.put{t:GT}{es:Array (Int×al)}(o:aH t es.toList){h:Int}{j:Nat}(hj:jQ t h j)(hr:j∉t.dummies.toList->t.fill+1<=t.mask)(x:al):
 aH (t.put j).1 (insertAt es (t.put j).2 (h,x)).toList/\((t.put j).1.fill=if j∈t.dummies.toList then t.fill else t.fill+1):=by
 have hp2:(t.put j).2=below t.place j:=rfl
 have pC:(t.put j).1.mask=t.mask:=rfl
 have SZ:(t.put j).1.place=insertAt t.place (below t.place j) j:=rfl
 have hle:=(qw o.pr j).1
 have hlen:=o.len
 have NW:(t.put j).1.fill=if j∈t.dummies.toList then t.fill else t.fill+1:=by
  unfold fill
  rw[SZ,n9]
  unfold A8
  dsimp only
  by_cases z:j∈t.dummies.toList
  .rw[if_pos z,if_pos ((lh o.dr).mpr z)]
   have hz:(eraseAt t.dummies (below t.dummies j)).size=t.dummies.size-1:=by
    rw[<-wr,di]
    obtain⟨i,hi⟩:=fX.mp z
    rw[vA o.dr hi,pM,if_pos (P4.mp hi).1,wr]
   rw[hz]
   have:0<t.dummies.toList.length:=GU z
   rw[wr]at this
   lia
  .rw[if_neg z,if_neg (λy=>z ((lh o.dr).mp y))]
   lia
 refine⟨⟨o.jo,?_,?_,?_,?_,?_,?_,?_,?_⟩,NW⟩
 .rw[SZ];exact Mv o.pr hj.2.1
 .unfold A8
  dsimp only
  split
  .rw[di];exact o.dr.sublist (GW _ _)
  .exact o.dr
 .rw[SZ,hp2,wr,wr,n9,n9]
  rw[wr,wr]at hlen;lia
 .intro y hy
  rw[SZ,oj]at hy
  rcases hy with rfl|hy
  .exact hj.1
  .exact o.pin y hy
 .intro y hy
  unfold A8 at hy
  dsimp only at hy
  split at hy
  .rw[di]at hy;exact o.xy y (kg hy)
  .exact o.xy y hy
 .intro y hy
  rw[SZ,oj]
  unfold A8 at hy
  dsimp only at hy
  split at hy
  .rename_i hh
   rw[di]at hy
   rintro(z|z)
   .subst z
    obtain⟨i,hi⟩:=fX.mp ((lh o.dr).mp hh)
    rw[vA o.dr hi]at hy
    obtain⟨i',h1,h2⟩:=sU.mp hy
    exact h1 (o.dr.inj h2 hi)
   .exact o.r_ y (kg hy) z
  .rename_i hh
   rintro(z|z)
   .subst z;exact hh ((lh o.dr).mpr hy)
   .exact o.r_ y hy z
 .show(t.put j).1.fill<=t.mask
  rw[NW]
  split
  .exact o.room
  .rename_i z;exact hr z
 .intro i y e h1 h2
  rw[SZ,K_,qR _ _ (by rw[wr];exact hle)]at h1
  rw[hp2,K_,qR _ _ (by rw[<-hlen,wr];exact hle)]at h2
  have hm:∀x,bE t x->bE (t.put j).1 x:=λx hx=>(aaD o.dr).mpr (.inr hx)
  show Reach t.mask _ _ _
  split at h1
  .rename_i z;rw[if_pos z]at h2;exact(o.reach i y e h1 h2).mono hm
  .rename_i z
   rw[if_neg z]at h2
   split at h1
   .rename_i z2
    rw[if_pos z2]at h2
    cases h1;cases h2
    exact hj.2.2.mono hm
   .rename_i z2
    rw[if_neg z2]at h2
    exact(o.reach (i-1) y e h1 h2).mono hm
theorem drop_eq{t:GT}{i j:Nat}(h:t.place.toList[i]? =some j):t.drop i={t with place:=eraseAt t.place i,dummies:=insertAt t.dummies (below t.dummies j) j}:=by
 unfold SetTable.drop
 rw[show t.place[i]? =some j by rw[<-de];exact h]
theorem aH.drop{t:GT}{es:Array (Int×al)}(o:aH t es.toList){i:Nat}(hi:i<es.size):aH (t.drop i) (eraseAt es i).toList/\(t.drop i).fill=t.fill:=by
 have hlen:=o.len
 rw[wr]at hlen
 have hi':i<t.place.toList.length:=by rw[wr,hlen,wr];exact hi
 obtain⟨j,hj⟩:∃j,t.place.toList[i]? =some j:=⟨_,wS hi'⟩
 have pB:j∈t.place.toList:=Tk hj
 have mh:j∉t.dummies.toList:=λz=>o.r_ j z pB
 have hsz:(eraseAt t.place i).size=t.place.size-1:=by
  rw[<-wr,di,pM,if_pos hi',wr]
 have hf:(t.drop i).fill=t.fill:=by
  rw[drop_eq hj]
  unfold fill
  dsimp only
  rw[n9,hsz]
  rw[wr]at hi'
  lia
 have ja:∀x,bE t x->bE (t.drop i) x:=by
  intro x hx
  rw[drop_eq hj]
  unfold bE
  dsimp only
  rw[oj,di]
  rcases hx with hx|hx
  .by_cases z:x=j
   .exact .inr (.inl z)
   .left
    obtain⟨i',hi2⟩:=fX.mp hx
    refine sU.mpr ⟨i',λe=>z ?_,hi2⟩
    subst e;rw[hj]at hi2;cases hi2;rfl
  .exact .inr (.inr hx)
 refine⟨?_,hf⟩
 have pC:(t.drop i).mask=t.mask:=by rw[drop_eq hj]
 have SZ:(t.drop i).place=eraseAt t.place i:=by rw[drop_eq hj]
 have d6:(t.drop i).dummies=insertAt t.dummies (below t.dummies j) j:=by rw[drop_eq hj]
 refine⟨by rw[pC];exact o.jo,?_,?_,?_,?_,?_,?_,?_,?_⟩
 .rw[SZ,di];exact o.pr.sublist (GW _ _)
 .rw[d6];exact Mv o.dr mh
 .rw[SZ,di,di,pM,pM,o.len]
 .intro y hy
  rw[SZ,di]at hy
  rw[pC];exact o.pin y (kg hy)
 .intro y hy
  rw[d6,oj]at hy
  rw[pC]
  rcases hy with rfl|hy
  .exact o.pin y pB
  .exact o.xy y hy
 .intro y hy
  rw[SZ,di]
  rw[d6,oj]at hy
  intro z
  rcases hy with rfl|hy
  .obtain⟨i',h1,h2⟩:=sU.mp z
   exact h1 (o.pr.inj h2 hj)
  .exact o.r_ y hy (kg z)
 .rw[hf,pC];exact o.room
 .intro i' y e h1 h2
  rw[SZ,di,Uh]at h1
  rw[di,Uh]at h2
  rw[pC]
  split at h1
  .rename_i z;rw[if_pos z]at h2;exact(o.reach _ _ _ h1 h2).mono ja
  .rename_i z;rw[if_neg z]at h2;exact(o.reach _ _ _ h1 h2).mono ja
end ST
namespace ST
open PySem PySem.SetTable
def d3(owner:Array (Option Nat))(x:Nat):Prop:=∃k,owner.toList[x]? =some (some k)
structure lA (m:Nat) (hs:List Int) (owner:Array (Option Nat)):Prop where
 size:owner.toList.length=m+1
 reach:∀(j k:Nat),owner.toList[j]? =some (some k)->∃h,hs[k]? =some h/\Reach m (d3 owner) h j
 all:∀(k:Nat),k<hs.length->∃j:Nat,owner.toList[j]? =some (some k)
 inj:∀(j j' k:Nat),owner.toList[j]? =some (some k)->owner.toList[j']? =some (some k)->j=j'
theorem getD_none{owner:Array (Option Nat)}{m x:Nat}(hs:owner.toList.length=m+1)(hx:x<=m):(owner.getD x (some 0)).isNone=true↔¬d3 owner x:=by
 have hl:x<owner.toList.length:=by lia
 have h1:owner.toList[x]? =some owner.toList[x]:=wS hl
 have h2:owner.getD x (some 0)=owner.toList[x]:=by
  rw[fT,<-de,h1];rfl
 rw[h2]
 unfold d3
 rw[h1]
 cases owner.toList[x]with
 |none=>simp
 |some k=>simp
theorem Mu{m:Nat}{owner:Array (Option Nat)}(hs:owner.toList.length=m+1)(h:Int):
 ∀(fuel r:Nat),(∃r' k,r<=r'/\r'<r+fuel/\k<=run m (lp m h r').1/\¬d3 owner ((lp m h r').1+k))->
  ∃n,A7 m owner fuel (lp m h r).1 (lp m h r).2=some (path m h n).j/\¬d3 owner (path m h n).j/\∀n',Nn m h r<=n'->n'<n->d3 owner (path m h n').j
 |0,r,⟨r',k,h1,h2,_⟩=>absurd h2 (by lia)
 |fuel+1,r,⟨r',k,h1,h2,h3,h4⟩=>by
  unfold A7
  have hlen:runEnd m (lp m h r).1+1-(lp m h r).1=run m (lp m h r).1+1:=by unfold run runEnd;split<;>lia
  have bH:∀q,q<=run m (lp m h r).1->(lp m h r).1+q<=m:=λq hq=>by
   have:=ND m _ (EB m h r);lia
  have iu:∀q,q<=run m (lp m h r).1->(path m h (Nn m h r+q)).j=(lp m h r).1+q:=λq hq=>by rw[vW m h r q hq]
  rw[hlen]
  cases hf:(sw (run m (lp m h r).1+1)).find? (λk=>(owner.getD ((lp m h r).1+k) (some 0)).isNone)with
  |some q=>
   dsimp only
   obtain⟨a1,a2⟩:=List.find?_range_eq_some.mp hf
   have hq:q<=run m (lp m h r).1:=by have:=Pi.mp a2.1;lia
   refine⟨Nn m h r+q,by rw[iu q hq],?_,λn' b1 b2=> ?_⟩
   .rw[iu q hq];exact(getD_none hs (bH q hq)).mp a1
   .obtain⟨q',rfl⟩:∃q',n'=Nn m h r+q':=⟨n'-Nn m h r,by lia⟩
    rw[iu q' (by lia)]
    have:=a2.2 q' (by lia)
    refine fV λz=> ?_
    have y:=(getD_none hs (bH q' (by lia))).mpr z
    rw[y]at this
    exact absurd this (by decide)
  |none=>
   dsimp only
   have cZ:∀q,q<=run m (lp m h r).1->d3 owner ((lp m h r).1+q):=λq hq=>by
    refine fV λz=> ?_
    have y:=(getD_none hs (bH q hq)).mpr z
    have:=List.find?_eq_none.mp hf q (Pi.mpr (by lia))
    exact this y
   have bn:r'≠r:=λe=>by subst e;exact h4 (cZ k h3)
   obtain⟨n,b1,b2,b3⟩:=Mu hs h fuel (r+1) ⟨r',k,by lia,by lia,h3,h4⟩
   refine⟨n,b1,b2,λn' c1 c2=> ?_⟩
   by_cases z:n'<Nn m h (r+1)
   .have hz:n'<Nn m h r+(run m (lp m h r).1+1):=z
    obtain⟨q',rfl⟩:∃q',n'=Nn m h r+q':=⟨n'-Nn m h r,by lia⟩
    rw[iu q' (by lia)]
    exact cZ q' (by lia)
   .exact b3 n' (by lia) c2
theorem Za{m:Nat}{hs:List Int}{owner:Array (Option Nat)}(o:lA m hs owner)(hl:hs.length<=m):∃e,e<=m/\¬d3 owner e:=by
 refine fV λhc=> ?_
 have aE:∀e,e<=m->d3 owner e:=λe he=>fV λz=>hc ⟨e,he,z⟩
 have Er:∀e,e<m+1->∃k,owner.toList[e]? =some (some k):=λe he=>aE e (by lia)
 have jj:((sw (m+1)).map (λe=>((owner.toList[e]?).getD none).getD 0)).Nodup:=by
  refine ee.mpr ?_
  refine QD ?_ (List.nodup_range)
  intro a b ha hb cx he
  obtain⟨k,hk⟩:=Er a (Pi.mp ha)
  obtain⟨k',hk'⟩:=Er b (Pi.mp hb)
  rw[hk,hk']at he
  simp only[W3]at he
  subst he
  exact cx (o.inj a b k hk hk')
 have:=Kz hs.length _ jj (λx hx=>by
  obtain⟨e,he,rfl⟩:=nw.mp hx
  obtain⟨k,hk⟩:=Er e (Pi.mp he)
  rw[hk]
  simp only[W3]
  obtain⟨h,hh,_⟩:=o.reach e k hk
  exact(P4.mp hh).1)
 rw[dL,aI]at this
 lia
theorem aay{m:Nat}{hs:List Int}{owner:Array (Option Nat)}(o:lA m hs owner){h:Int}{n:Nat}(h1:¬d3 owner (path m h n).j)(h2:∀n',n'<n->d3 owner (path m h n').j):
 lA m (hs++[h]) (owner.setIfInBounds (path m h n).j (some hs.length)):=by
 have hj:=DG m h n
 have hsz:=o.size
 generalize hJ:(path m h n).j=J at*
 have OD:(owner.setIfInBounds J (some hs.length)).toList=owner.toList.set J (some hs.length):=by simp
 have rR:∀x,(owner.setIfInBounds J (some hs.length)).toList[x]? =if J=x then some (some hs.length)else owner.toList[x]? :=by
  intro x
  rw[OD,Yi]
  by_cases z:J=x
  .rw[if_pos z,if_pos z,if_pos (by lia)]
  .rw[if_neg z,if_neg z]
 have ja:∀x,d3 owner x->d3 (owner.setIfInBounds J (some hs.length)) x:=by
  rintro x ⟨k,hk⟩
  unfold d3
  rw[rR]
  by_cases z:J=x
  .exact⟨hs.length,by rw[if_pos z]⟩
  .exact⟨k,by rw[if_neg z];exact hk⟩
 refine⟨by rw[OD,uq];exact hsz,λj k mi=> ?_,λk hk=> ?_,λj j' k a b=> ?_⟩
 .rw[rR]at mi
  split at mi
  .rename_i z
   subst z
   cases mi
   refine⟨h,by simp,n,hJ,λn' hn=>ja _ (h2 n' hn)⟩
  .obtain⟨h',e1,e2⟩:=o.reach j k mi
   have rc:=(P4.mp e1).1
   exact⟨h',by rw[mz rc];exact e1,e2.mono ja⟩
 .rw[Rs,fW]at hk
  by_cases z:k=hs.length
  .subst z
   exact⟨J,by rw[rR,if_pos rfl]⟩
  .obtain⟨j,mi⟩:=o.all k (by lia)
   refine⟨j,?_⟩
   rw[rR,if_neg (λe=>h1 ⟨k,by rw[e];exact mi⟩)]
   exact mi
 .rw[rR]at a b
  have rc:∀j,owner.toList[j]? =some (some hs.length)->False:=λj hj=>by
   obtain⟨h',e1,_⟩:=o.reach j _ hj
   have:=(P4.mp e1).1
   lia
  split at a
  .split at b
   .rename_i z1 z2;rw[<-z1,z2]
   .cases a;exact(rc _ b).elim
  .split at b
   .cases b;exact(rc _ a).elim
   .exact o.inj j j' k a b
theorem aax(m:Nat):lA m [] (Ak (m+1) none):=by
 have hg:∀(j k:Nat),¬(Ak (m+1) (none:Option Nat)).toList[j]? =some (some k):=by
  intro j k h
  rw[Array.toList_replicate,Ub]at h
  split at h<;>cases h
 exact⟨by simp,λj k h=>absurd h (hg j k),λk hk=>absurd hk (by simp),λj j' k h=>absurd h (hg j k)⟩
noncomputable def rG(m:Nat)(acc:Option (Array (Option Nat)×Nat))(h:Int):Option (Array (Option Nat)×Nat):=do
 let(owner,k) <-acc
 let j <-A7 m owner (turns m) (bits h % (m+1)) (bits h)
 pure (owner.setIfInBounds j (some k),k+1)
theorem Mt{m:Nat}(hm:bD m):∀(rest pre:List Int)(owner:Array (Option Nat)),lA m pre owner->(pre++rest).length<=m->
 ∃wR,rest.foldl (rG m) (some (owner,pre.length))=some (wR,(pre++rest).length)/\lA m (pre++rest) wR
 |[],pre,owner,o,hl=>⟨owner,by simp,by simpa using o⟩
 |h::rest,pre,owner,o,hl=>by
  have hl':=hl
  rw[Rs,Os]at hl'
  obtain⟨e,he,bn⟩:=Za o (by lia)
  obtain⟨r,hr,FC⟩:=cover hm h he
  obtain⟨n,a1,a2,a3⟩:=Mu o.size h (turns m) 0 ⟨r,0,by lia,by unfold turns;lia,SC _,by rw[FC];exact bn⟩
  have o2:=aay o a2 (λn' hn=>a3 n' (SC _) hn)
  have e1:rG m (some (owner,pre.length)) h=some (owner.setIfInBounds (path m h n).j (some pre.length),pre.length+1):=by
   have a1':A7 m owner (turns m) (bits h % (m+1)) (bits h)=some (path m h n).j:=a1
   unfold rG
   simp only[Option.bind_eq_bind,Option.bind_some,a1']
   rfl
  rw[kH,e1]
  have ih:=Mt hm rest (pre++[h]) _ o2 (by simpa using hl)
  rw[Rs,fW]at ih
  obtain⟨wR,b1,b2⟩:=ih
  refine⟨wR,?_,?_⟩
  .rw[b1];simp
  .simpa using b2
theorem UC{m:Nat}(hm:bD m)(hs:Array Int)(hl:hs.size<=m):∃owner,layClean m hs=some owner/\lA m hs.toList owner:=by
 obtain⟨owner,h1,h2⟩:=Mt hm hs.toList [] _ (aax m) (by simpa using hl)
 refine⟨owner,?_,by simpa using h2⟩
 unfold layClean
 have e:hs.foldl (rG m) (some (Ak (m+1) none,0))=some (owner,hs.toList.length):=by
  rw[<-Array.foldl_toList];simpa using h1
 show Option.map (·.1) (hs.foldl (rG m) (some (Ak (m+1) none,0)))=_
 rw[e];rfl
structure xh (m:Nat) (es:Array (Int×al)) (place order:Array Nat):Prop where
 ris:aN place.toList
 len:order.toList.length=place.toList.length
 perm:order.toList.Perm (sw es.size)
 pin:∀j,j∈place.toList->j<=m
 reach:∀(i j k:Nat)(e:Int×al),place.toList[i]? =some j->order.toList[i]? =some k->es.toList[k]? =some e->Reach m (λx=>x∈place.toList) e.1 j
theorem Dt{m:Nat}(hm:bD m)(fg mv:Nat)(ld pl:Bool)(es:Array (Int×al))(hl:es.size<=m):
 ∃place order,laid m fg mv ld pl (es.map (·.1))=some ({mask:=m,place,dummies:= #[],finger:=fg,led:=ld,moves:=mv,plain:=pl},order)/\xh m es place order:=by
 obtain⟨owner,h1,o⟩:=UC hm (es.map (·.1)) (by simpa using hl)
 have ho:∀j k,owner.getD j none=some k↔owner.toList[j]? =some (some k):=by
  intro j k
  rw[fT,<-de]
  cases owner.toList[j]? with
  |none=>simp
  |some x=>simp
 let f:Nat->Option (Nat×Nat):=λj=>(owner.getD j none).map (j,·)
 have dC:∀j p,f j=some p↔p.1=j/\owner.toList[j]? =some (some p.2):=by
  intro j p
  show(owner.getD j none).map (j,·)=some p↔_
  rw[kh]
  constructor
  .rintro⟨k,hk,rfl⟩;exact⟨rfl,(ho j k).mp hk⟩
  .rintro⟨rfl,hk⟩;exact⟨p.2,(ho _ _).mpr hk,rfl⟩
 refine⟨(((sw (m+1)).filterMap f).map (·.1)).toArray,(((sw (m+1)).filterMap f).map (·.2)).toArray,?_,?_⟩
 .unfold laid
  rw[h1]
  rfl
 .have bo:∀p,p∈(sw (m+1)).filterMap f↔owner.toList[p.1]? =some (some p.2):=by
   intro p
   rw[HV]
   constructor
   .rintro⟨j,hj,hp⟩
    obtain⟨rfl,h⟩:=(dC j p).mp hp
    exact h
   .intro h
    have rc:=(P4.mp h).1
    rw[o.size]at rc
    exact⟨p.1,Pi.mpr rc,(dC _ _).mpr ⟨rfl,h⟩⟩
  have hr:aN (((sw (m+1)).filterMap f).map (·.1)):=by
   refine ee.mpr (List.pairwise_filterMap.mpr ?_)
   refine List.Pairwise.imp ?_ (iB)
   intro a b cx p hp q hq
   rw[((dC a p).mp hp).1,((dC b q).mp hq).1]
   exact cx
  have ja:∀x,d3 owner x->x∈((sw (m+1)).filterMap f).map (·.1):=by
   rintro x ⟨k,hk⟩
   exact nw.mpr ⟨(x,k),(bo (x,k)).mpr hk,rfl⟩
  refine⟨by simpa using hr,by simp,?_,?_,?_⟩
  .have jj:(((sw (m+1)).filterMap f).map (·.2)).Nodup:=by
    refine ee.mpr ?_
    have h2:=ee.mp hr
    refine QD ?_ h2
    intro p q hp hq hpq he
    have a:=(bo p).mp hp
    have b:=(bo q).mp hq
    rw[<-he]at b
    have:=o.inj _ _ _ a b
    lia
   have hmm:∀k,k∈((sw (m+1)).filterMap f).map (·.2)↔k∈sw es.size:=by
    intro k
    rw[Pi]
    constructor
    .intro hk
     obtain⟨p,hp,rfl⟩:=nw.mp hk
     obtain⟨h,hh,_⟩:=o.reach _ _ ((bo p).mp hp)
     have:=(P4.mp hh).1
     simpa using this
    .intro hk
     obtain⟨j,hj⟩:=o.all k (by simpa using hk)
     exact nw.mpr ⟨(j,k),(bo (j,k)).mpr hj,rfl⟩
   simpa using(RT jj List.nodup_range).mpr hmm
  .intro j hj
   have hj':j∈((sw (m+1)).filterMap f).map (·.1):=by simpa using hj
   obtain⟨p,hp,rfl⟩:=nw.mp hj'
   have:=(P4.mp ((bo p).mp hp)).1
   rw[o.size]at this;lia
  .intro i j k e a b c
   have a':(((sw (m+1)).filterMap f).map (·.1))[i]? =some j:=by simpa using a
   have b':(((sw (m+1)).filterMap f).map (·.2))[i]? =some k:=by simpa using b
   rw[wP]at a' b'
   obtain⟨p,hp,rfl⟩:=kh.mp a'
   rw[hp]at b'
   cases b'
   obtain⟨h,hh,hre⟩:=o.reach _ _ ((bo p).mp (Tk hp))
   have md:h=e.1:=by
    rw[zA,wP,c]at hh
    exact(TD hh).symm
   subst md
   refine hre.mono λx hx=> ?_
   simpa using ja x hx
theorem vF{m:Nat}{es:Array (Int×al)}{place order:Array Nat}(n:xh m es place order):(order.filterMap (es[·]?)).toList.Perm es.toList:=by
 rw[T9]
 have h1:(order.toList.filterMap (es[·]?)).Perm ((sw es.size).filterMap (es[·]?)):=n.perm.filterMap _
 rw[filterMap_getElem?_range]at h1
 exact h1
theorem Y5{m:Nat}{es:Array (Int×al)}{place order:Array Nat}(n:xh m es place order)(i:Nat):(order.filterMap (es[·]?)).toList[i]? =(order.toList[i]?).bind (es.toList[·]?):=by
 rw[T9]
 have aE:∀k,k∈order.toList->∃e,es[k]? =some e:=λk hk=>by
  have:=Pi.mp (n.perm.mem_iff.mp hk)
  exact⟨_,kf this⟩
 clear n
 generalize order.toList=l at*
 induction l generalizing i with
 |nil=>simp
 |cons k l ih=>
  obtain⟨e,he⟩:=aE k Go
  rw[yB,he]
  cases i with
  |zero=>simp[he]
  |succ i=>
   simp only[x3]
   exact ih i λk' hk'=>aE k' (AT _ hk')
theorem DB{m fg mv:Nat}{ld pl:Bool}{es:Array (Int×al)}{place order:Array Nat}(hm:bD m)(hl:es.size<=m)(n:xh m es place order):
 aH {mask:=m,place,dummies:= #[],finger:=fg,led:=ld,moves:=mv,plain:=pl} (order.filterMap (es[·]?)).toList:=by
 have hp:=vF n
 have SZ:place.toList.length=es.size:=by rw[<-n.len,n.perm.length_eq,aI]
 refine⟨hm,n.ris,.nil,?_,n.pin,λj hj=>absurd hj (by simp),λj hj=>absurd hj (by simp),?_,?_⟩
 .dsimp only
  rw[SZ,hp.length_eq,wr]
 .unfold fill
  rw[wr]at SZ
  simp;lia
 .intro i j e h1 h2
  rw[Y5 n]at h2
  obtain⟨k,hk,he⟩:=Option.bind_eq_some_iff.mp h2
  exact(n.reach i j k e h1 hk he).mono λx hx=>.inl hx
end ST
end
section
namespace L2
open PySem PySem.Spec PyProof.Rows
noncomputable def KF(es:Array (Int×al))(ep:Nat)(t:GT):Obj:={cls:=.type "set",dict:=none,data:=.set es ep t,slots:= #[]}
noncomputable def Gt(w:li):Bool:=w.params.followText "set-order"
structure dz (bt:Bool) (es:Array (Int×al)) (t:GT):Prop where
 ok:ST.aH t es.toList
 plain:t.plain=true
 led:t.led= !bt
 room:t.fill*5<t.mask*3
 e_:es.size<=100
theorem F6{α:Type}:∀(l:List α)(i:Nat)(h:i<l.length),(l[i]::l.eraseIdx i).Perm l
 |y::l,0,_=>.refl _
 |y::l,i+1,h=>by
  simp only[List.getElem_cons_succ,Gw]
  exact(List.Perm.swap y _ _).trans ((F6 l i (by simpa using h)).cons y)
theorem MN{α:Type}(next:Nat->Nat):∀(fuel k:Nat)(left:List α)(out:Array α),left.length<=fuel->(J7 next fuel k left out).toList.Perm (out.toList++left)
 |0,k,left,out,h=>by
  have:left=[]:=cC.mp (by lia)
  subst this
  unfold J7;simp
 |fuel+1,k,left,out,h=>by
  unfold J7
  cases left with
  |nil=>simp
  |cons y left=>
   have rc:next k % (y::left).length<(y::left).length:=jI _ (by simp)
   rw[wS rc]
   dsimp only
   generalize next k % (y::left).length=i at rc⊢
   have h1:((y::left).eraseIdx i).length=(y::left).length-1:=by rw[pM,if_pos rc]
   refine(MN next fuel (k+1) ((y::left).eraseIdx i) (out.push (y::left)[i]) (by rw[h1];simp at h⊢;lia)).trans ?_
   rw[WW,mM]
   refine List.Perm.append_left _ ?_
   exact F6 _ i rc
noncomputable def eE(w:li)(a:ac)(ep:Nat)(es:Array (Int×al)):Array (Int×al):=if Gt w then pickOrder (w.params.setOrder a ep) es else es
theorem BP(w:li)(a:ac)(ep:Nat)(es:Array (Int×al)):(eE w a ep es).toList.Perm es.toList:=by
 unfold eE
 split
 .unfold pickOrder
  refine(MN _ es.size 0 es.toList #[] (by simp)).trans (by simp)
 .exact .refl _
theorem vq(w:li)(a:ac)(ep:Nat)(es:Array (Int×al)):(eE w a ep es).size=es.size:=by
 have:=(BP w a ep es).length_eq
 rwa [wr,wr]at this
section
variable{prog:lw}{w:li}{A:ww}{E:al->ap->Prop}{s:ap}{a:ac}{es:Array (Int×al)}{ep:Nat}{t:GT}
theorem cK{Q:(Array (Int×al)×Nat×GT)->ap->Prop}(ho:s.heap.get? a=some (KF es ep t))(k:ST.aH t es.toList)(h:Q (es,ep,t) s):wpAny (model prog w) A (setState a) Q E s:=
 wpAny_setState_of ho rfl k.fits h
theorem ow{Q:Bool->ap->Prop}(h:Q (Gt w) s):wpAny (model prog w) A setsByText Q E s:=by
 unfold setsByText
 exact bd (Kd (eg h))
theorem xb{Q:Array (Int×al)->ap->Prop}(ho:s.heap.get? a=some (KF es ep t))(k:dz (Gt w) es t)(h:Q (eE w a ep es) s):wpAny (model prog w) A (setWalk a) Q E s:=by
 unfold setWalk
 refine bd (cK ho k.ok ?_)
 dsimp only
 refine bd (ow ?_)
 unfold eE at h
 refine dj (λhb=> ?_) (λhb=> ?_)
 .rw[if_pos hb]at h
  exact bd (Kd (eg h))
 .rw[if_neg hb]at h
  have hb':Gt w=false:=by simpa using hb
  refine dj (λhd=>absurd hd (show ¬((!t.plain&&decide (es.size>1))=true) by rw[k.plain];simp)) (λ_=> ?_)
  refine bd ?_
  show wpAny _ _ (if(!t.led&&decide (es.size>1))=true then unsupported _ else pure ()) _ _ _
  rw[if_neg (by rw[k.led,hb'];simp)]
  exact eg (eg h)
theorem NH{Q:Array (Int×al)->ap->Prop}{os:List ac}{f:Option ac}(ho:s.heap.get? a=some (KF es ep t))(k:dz (Gt w) es t)(h:Q (eE w a ep es) s):wpAny (model prog w) A (setWalkUnseen a os f) Q E s:=by
 unfold setWalkUnseen
 refine bd (cK ho k.ok ?_)
 dsimp only
 refine bd (ow ?_)
 refine dj (λ_=> ?_) (λhb=>absurd ?_ hb)
 .first|exact xb ho k h|exact bd (m:=setWalk a) (xb ho k (eg h))
 .rw[k.plain,k.led]
  cases Gt w<;>simp
noncomputable def Dq(slot i:Nat)(a:ac)(n ep:Nat):Obj:={cls:=.type "set_iterator",data:=.fields #[rawInt slot,rawInt i,.ref a,rawInt n,rawInt ep]}
theorem mK:Slot "set_iterator" "__next__" "set_iterator.__next__":=
 .of (owner:="set_iterator") (n:="__next__") (by rw[typeLookup_type,builtinLookup_eq_fast];kernel_rfl) (by decide+kernel) (by decide+kernel) (by decide+kernel)
  (by first|exact .inl (by decide+kernel)|exact .inr (by decide+kernel)) (by rw[L_];kernel_rfl)
theorem GN:Slot "set_iterator" "__iter__" "set_iterator.__iter__":=
 .of (owner:="set_iterator") (n:="__iter__") (by rw[typeLookup_type,builtinLookup_eq_fast];kernel_rfl) (by decide+kernel) (by decide+kernel) (by decide+kernel)
  (by first|exact .inl (by decide+kernel)|exact .inr (by decide+kernel)) (by rw[L_];kernel_rfl)
theorem Gm:entryFor table "set_iterator.__next__"=some Builtin.«set_iterator.__next__»:=entryFor_of_tree (by kernel_rfl)
theorem Rt:entryFor table "set.__iter__"=some Builtin.«frozenset.__iter__»:=
 L9 (id':="frozenset.__iter__") (by kernel_rfl) rfl (by decide+kernel) (by kernel_rfl)
theorem QI:entryFor table "set_iterator.__iter__"=some Builtin.«dict_keyiterator.__iter__»:=
 L9 (id':="dict_keyiterator.__iter__") (by kernel_rfl) rfl (by decide+kernel) (by kernel_rfl)
theorem QV(v:al):argsOk "set_iterator.__iter__" ⟨[v],[]⟩:=by unfold argsOk;kernel_rfl
theorem GB(v:al):argsOk "set_iterator.__next__" ⟨[v],[]⟩:=by unfold argsOk;kernel_rfl
theorem aaI{Q:al->ap->Prop}(ho:s.heap.get? a=some (KF es ep t))(k:dz (Gt w) es t)(h:Q (.ref s.heap.objs.size) {s with heap:=s.heap.push (Dq 0 0 a es.size ep)}):wpAny (model prog w) A (pyIter (.ref a)) Q E s:=by
 have hT:s.TypeIs (.ref a) "set":=⟨_,ho,rfl⟩
 refine J9 hT SY (jz SY hT Rt ?_ (PySem.F.args_set_iter_1 _))
 unfold Builtin.«frozenset.__iter__»
 refine bd (bd (eg (eg ?_)))
 unfold F4
 refine bd (bd (yZ ho rfl k.ok.fits (eg ?_)))
 unfold setDrawn
 refine bd (bd (cK ho k.ok ?_))
 dsimp only
 refine bd (ow (eg ?_))
 refine dj (λhd=>absurd hd (show ¬((!Gt w&&(!t.plain&&decide (es.size>1)))=true) by rw[k.plain];simp)) (λ_=> ?_)
 refine bd (eg ?_)
 refine bd (Ao ho rfl k.ok.fits ?_)
 exact bd (kz (eg ⟨_,rfl,"set_iterator",_,⟨_,Tl _ rfl,rfl⟩,mK.lookup,h⟩))
end
end L2
namespace L2
open PySem PySem.Spec PyProof.Rows
theorem VO{xs:Array Nat}(hs:ST.aN xs.toList):kK xs 0=0:=by
 obtain⟨h1,h2⟩:=ST.qw hs 0
 by_cases z:kK xs 0=0
 .exact z
 .have hl:0<xs.toList.length:=by rw[wr];lia
  have:=(h2 0 _ (wS hl)).mpr (by lia)
  lia
theorem VN{xs:Array Nat}(hs:ST.aN xs.toList){i j:Nat}(h:xs.toList[i]? =some j):kK xs (j+1)=i+1:=by
 obtain⟨h1,h2⟩:=ST.qw hs (j+1)
 have h3:=(h2 i j h).mp (by lia)
 by_cases z:kK xs (j+1)=i+1
 .exact z
 .have hl:i+1<xs.toList.length:=by rw[wr];lia
  have h4:=(h2 (i+1) _ (wS hl)).mpr (by lia)
  have h5:=hs.lt h (wS hl) (by lia)
  lia
section
variable{prog:lw}{w:li}{A:ww}{E:al->ap->Prop}{s:ap}{a I:ac}{es:Array (Int×al)}{ep:Nat}{t:GT}
def wY(w:li)(I a:ac)(es:Array (Int×al))(ep:Nat)(t:GT)(i:Nat)(h:io):Prop:=
 ∃slot,h.get? I=some (Dq slot i a es.size ep)/\(Gt w=false->kK t.place slot=i)/\h.get? a=some (KF es ep t)
theorem Wv{Q:Option (al×Nat)->ap->Prop}{slot i:Nat}(ho:s.heap.get? a=some (KF es ep t))(k:dz (Gt w) es t)(bL:Gt w=false->kK t.place slot=i){e:Int×al}(he:(eE w a ep es)[i]? =some e)
 (h:∀nx,(Gt w=false->kK t.place nx=i+1)->Q (some (e.2,nx)) s):wpAny (model prog w) A (setNext a slot i ep) Q E s:=by
 unfold setNext
 refine bd (cK ho k.ok ?_)
 dsimp only
 refine bd (ow ?_)
 refine dj (λhb=> ?_) (λhb=> ?_)
 .rw[if_neg (by simp)]
  refine bd (xb ho k ?_)
  rw[he]
  exact eg (h slot λz=>by rw[z]at hb;cases hb)
 .have hb':Gt w=false:=by simpa using hb
  refine dj (λhd=>absurd hd (show ¬((!t.plain&&decide (es.size>1))=true) by rw[k.plain];simp)) (λ_=> ?_)
  refine bd ?_
  show wpAny _ _ (if(!t.led&& !es.isEmpty)=true then unsupported _ else pure ()) _ _ _
  rw[if_neg (by rw[k.led,hb'];simp)]
  refine eg ?_
  unfold eE at he
  rw[if_neg hb]at he
  have hi:i<es.size:=(xX.mp he).1
  have hl:=k.ok.len
  rw[wr]at hl
  have hp:t.place.toList[i]? =some (t.place.toList[i]'(by rw[wr,hl,wr];exact hi)):=wS _
  generalize t.place.toList[i]'_=j at hp
  have hp':t.place[i]? =some j:=by rw[<-de];exact hp
  rw[bL hb',he,hp']
  exact eg (h (j+1) λ_=>VN k.ok.pr hp)
theorem X0{Q:Option (al×Nat)->ap->Prop}{slot i:Nat}(ho:s.heap.get? a=some (KF es ep t))(k:dz (Gt w) es t)(bL:Gt w=false->kK t.place slot=i)(hi:i=es.size)
 (h:Q none s):wpAny (model prog w) A (setNext a slot i ep) Q E s:=by
 subst hi
 unfold setNext
 refine bd (cK ho k.ok ?_)
 dsimp only
 refine bd (ow ?_)
 refine dj (λhb=> ?_) (λhb=> ?_)
 .rw[if_neg (by simp)]
  refine bd (xb ho k ?_)
  rw[Gy (by rw[vq];exact nn _)]
  exact eg h
 .have hb':Gt w=false:=by simpa using hb
  refine dj (λhd=>absurd hd (show ¬((!t.plain&&decide (es.size>1))=true) by rw[k.plain];simp)) (λ_=> ?_)
  refine bd ?_
  show wpAny _ _ (if(!t.led&& !es.isEmpty)=true then unsupported _ else pure ()) _ _ _
  rw[if_neg (by rw[k.led,hb'];simp)]
  refine eg ?_
  rw[bL hb',Gy (nn _)]
  exact eg h
theorem T4{Q:Option al->ap->Prop}{i:Nat}(st:wY w I a es ep t i s.heap)(bn:a≠I)(k:dz (Gt w) es t){e:Int×al}(he:(eE w a ep es)[i]? =some e)
 (h:∀h',wY w I a es ep t (i+1) h'->aC I s.heap h'->Q (some e.2) {s with heap:=h'}):wpAny (model prog w) A (pyNext (.ref I)) Q E s:=by
 obtain⟨slot,hI,bL,ho⟩:=st
 have hT:s.TypeIs (.ref I) "set_iterator":=⟨_,hI,rfl⟩
 unfold pyNext
 refine bd (vy (x_ (name:=kO "__next__") hT mK (jz mK hT Gm ?_ (GB _))))
 unfold Builtin.«set_iterator.__next__»
 refine bd (eg ?_)
 refine bd (BU hI rfl ?_)
 dsimp only[rawInt]
 refine bd (yZ ho rfl k.ok.fits ?_)
 rw[if_neg (by simp)]
 refine bd (Wv (i:=i) ho k bL he λnx hnx=> ?_)
 dsimp only
 refine bd (u5 hI rfl (by simp) ?_)
 refine bd (u5 (kl _ hI (yl (mI rfl _))) (mI rfl _) (by simp) ?_)
 have g1:=kl (nj (·.setIfInBounds 0 (rawInt (nx:Int)))) hI (yl (mI rfl _))
 have g2:=kl (nj (·.setIfInBounds 1 (rawInt ((i:Int)+1)))) g1 (yl (mI (mI rfl _) _))
 have hs2:aC I s.heap ((s.heap.update I (nj (·.setIfInBounds 0 (rawInt (nx:Int))))).update I (nj (·.setIfInBounds 1 (rawInt ((i:Int)+1))))):=(iE ..).trans (iE ..)
 refine eg ⟨_,rfl,eg (h _ ⟨nx,g2.trans ?_,hnx,(hs2.2 a bn).trans ho⟩ hs2)⟩
 simp[Dq,nj,rawInt]
theorem U'{Q:Option al->ap->Prop}{i:Nat}(hh:A.handled=none)(st:wY w I a es ep t i s.heap)(k:dz (Gt w) es t)(hi:i=es.size)
 (h:∀h',Heap.ExtBut I s.heap h'->Q none {s with heap:=h'}):wpAny (model prog w) A (pyNext (.ref I)) Q E s:=by
 obtain⟨slot,hI,bL,ho⟩:=st
 have hT:s.TypeIs (.ref I) "set_iterator":=⟨_,hI,rfl⟩
 unfold pyNext
 refine bd (vy (x_ (name:=kO "__next__") hT mK (jz mK hT Gm ?_ (GB _))))
 unfold Builtin.«set_iterator.__next__»
 refine bd (eg ?_)
 refine bd (BU hI rfl ?_)
 dsimp only[rawInt]
 refine bd (yZ ho rfl k.ok.fits ?_)
 rw[if_neg (by simp)]
 refine bd (X0 (i:=i) ho k bL hi ?_)
 dsimp only
 refine bd (u5 hI rfl (by simp) ?_)
 refine bd ?_
 simp only[newExc,newTuple]
 refine bd (kz ?_ (by size_fits))
 refine bd (m:=firstArgMember _ _) (Df (a:=iP) (by first|rfl|(simp only[firstArgMember];rfl)) ?_)
 refine kz ?_ (by size_fits)
 simp only[raiseNew]
 refine bd (wpAny_handled ?_)
 rw[show A.in1.handled=none from hh]
 refine bd (eg (wpAny_throw ?_))
 refine bd (mU (T:="StopIteration") (b:=true) ⟨_,Tl _ rfl,rfl⟩ isSubtype_stop ?_)
 exact eg (h _ (((iE ..).extBut.push _).push _))
theorem aaH{Q:Bool->ap->Prop}(hT:s.TypeIs (.ref a) "set")(h:Q false s):wpAny (model prog w) A (Qu (.ref a)) Q E s:=by
 unfold Qu
 refine bd (La hT PySem.F.slot_set_len.lookup ?_)
 generalize Pl:("set.__len__":String)=id0
 wp_delta
 rw[show splitId id0=some ("set","__len__")from by subst Pl;decide+kernel]
 subst Pl
 refine bd (mU (T:="set") (b:=true) hT (by rw[L_];kernel_rfl) ?_)
 refine dj (λz=>absurd z (by decide)) (λ_=> ?_)
 refine dj (λ_=> ?_) (λz=>absurd (by decide+kernel) z)
 exact bd (C_ hT (eg h))
theorem ZF(hh:A.handled=none)(bn:a≠I)(k:dz (Gt w) es t):
 Walks prog w A I [I,a] [I] es.size (λi v=>∃e,(eE w a ep es)[i]? =some e/\v=e.2) (wY w I a es ep t) where
 sub:=λb hb=>wl.mpr (.inl (zn.mp hb))
 frame:=λ_ _ _ st hk=>let⟨slot,h1,h2,h3⟩:=st;⟨slot,hk I (Go ..) _ h1,h2,hk a (AT _ (zn.mpr rfl)) _ h3⟩
 item:=λi s Q E hi st hQ=>by
  obtain⟨e,he⟩:∃e,(eE w a ep es)[i]? =some e:=⟨_,kf (by rw[vq];exact hi)⟩
  exact T4 st bn k he λh' st' sb=>hQ _ h' s.toks ⟨e,he,rfl⟩ st' λb ob hb e=>(sb.2 b λq=>hb (zn.mpr q)).trans e
 done:=λs Q E st hQ=>U' hh st k rfl λh' he'=>hQ h' s.toks λb ob hb e=>he' b ob (λq=>hb (zn.mpr q)) e
 self:=λ_ s _ _ st hQ=>by
  obtain⟨slot,hI,_,_⟩:=st
  have hT:s.TypeIs (.ref I) "set_iterator":=⟨_,hI,rfl⟩
  refine J9 hT GN (jz GN hT QI ?_ (QV _))
  exact eg ⟨_,rfl,"set_iterator",_,hT,mK.lookup,hQ⟩
theorem ab3(k:dz (Gt w) es t):
 Yl prog w "set" a a es.size (λi v=>∃e,(eE w a ep es)[i]? =some e/\v=e.2) (λh=>h.get? a=some (KF es ep t)) where
 type:=λ_ hm=>⟨_,hm,rfl⟩
 there:=λ_ hm=>⟨FB hm,FB hm⟩
 keep:=λ_ _ hm hk=>hk a (.inl rfl) _ hm
 notList:=by decide
 notTuple:=by decide
 hint:=λ_ _ _ _ hm hq=>aaH ⟨_,hm,rfl⟩ hq
 iter:=λ_ s hh hm=>⟨_,_,(λ_ _ hq=>aaI hm k hq),ZF hh (Ps (FB hm)) k,⟨0,Tl _ rfl,λ_=>VO k.ok.pr,P5 _ hm⟩⟩
noncomputable def cM(w:li)(a:ac)(ep:Nat)(es:Array (Int×al)):List al:=(eE w a ep es).toList.map (·.2)
theorem J4(w:li)(a:ac)(ep:Nat)(es:Array (Int×al)):(cM w a ep es).Perm (es.toList.map (·.2)):=(BP w a ep es).map _
theorem Z6{R:lL->ap->Prop}(hh:A.handled=none){S:ac}(hSa:S≠a)(ho:s.heap.get? a=some (KF es ep t))(k:dz (Gt w) es t)(hS:s.heap.get? S=some (seqObj "list" #[] 0))
 (h:∀h' tk c,(∀b o,b≠S->s.heap.get? b=some o->h'.get? b=some o)->h'.get? S=some (seqObj "list" (cM w a ep es).toArray c)->R (.ok (.ret (.ref S))) {s with heap:=h',toks:=tk}):
 codeAny (model prog w) A (.builtin "list.__iadd__" ⟨[.ref S,.ref a],[]⟩) R s:=by
 refine jA entry_list_iadd' (?_:wpAny _ _ _ _ _ _)
 rw[mF (show plainId "list.__iadd__"=true by decide+kernel) _]
 have hsz:es.size<=sizeLine:=by have:=k.e_;rw[bu];lia
 show wpAny _ A.in1 (Builtin.List.listExtendWith (.ref S) (.ref a) (.ref S)) _ _ s
 refine PySem.W.kdl_extend (ab3 (a:=a) (ep:=ep) k) hh ho S hSa hSa (.ref S) 0 hS (λh' tk acc c hk hS' IR=> ?_) hsz
 have ea:acc.toList=cM w a ep es:=by
  unfold cM
  apply Yg
  intro i
  by_cases hi:i<acc.size
  .obtain⟨e,e1,e2⟩:=IR.2 i acc[i] (kf hi)
   rw[de,kf hi,wP,de,e1,e2]
   rfl
  .have h2:=IR.1
   rw[xY.mpr (by rw[wr];lia),xY.mpr (by rw[dL,wr,vq];lia)]
 refine h h' tk c hk ?_
 rw[<-ea]
 exact hS'
theorem VS{Q:List al->ap->Prop}(hh:A.handled=none)(ho:s.heap.get? a=some (KF es ep t))(k:dz (Gt w) es t)
 (h:∀h' tk,(∀b o,s.heap.get? b=some o->h'.get? b=some o)->s.heap.objs.size<h'.objs.size->Q (cM w a ep es) {s with heap:=h',toks:=tk}):wpAny (model prog w) A (collect (.ref a)) Q E s:=by
 unfold collect
 refine bd (wpAny_runValue (jA entry_proto_collect' (?_:wpAny _ _ _ _ _ _)))
 show wpAny _ _ (do again (.builtin "list.__iadd__" ⟨[<-newList [],.ref a],[]⟩)) _ _ s
 have hl:=FB ho
 refine bd (Ct (eg ⟨WX _ (by decide+kernel),Z6 (t:=t) (es:=es) (ep:=ep) hh (nA hl) (P5 _ ho) k (Tl _ rfl) λh' tk c hk hS'=> ?_⟩))
 show wpAny (model prog w) A (do
  let o <-load s.heap.objs.size
  match o.data with
  |.seq xs _=>pure xs.toList
  |_=>unsupported _) Q E _
 refine bd (wpAny_load hS' ?_)
 exact eg (h h' tk (λb o e=>hk b o (Ps (FB e)) (P5 _ e)) (FB hS'))
end
end L2
namespace L2
open PySem PySem.Spec PyProof.Rows
theorem aam{m:Nat}(h:ST.bD m):(m % 2==0)=false:=by
 unfold ST.bD at h
 rcases h with rfl|rfl|rfl|rfl|rfl|rfl|rfl<;>rfl
section
variable{prog:lw}{w:li}{A:ww}{E:al->ap->Prop}{s:ap}{a:ac}{es:Array (Int×al)}{ep:Nat}{t:GT}{zs:List (ac×List Int)}
abbrev TK(prog:lw)(w:li)(h:io)(z:ac×List Int):Prop:=IsTupleKey (intKind prog w) h z.2 z.1
noncomputable def hT(prog:lw)(w:li)(ns:List Int):Int:=tupleKeyHash (intKind prog w) ns
noncomputable def ent(prog:lw)(w:li)(z:ac×List Int):Int×al:=(hT prog w z.2,.ref z.1)
structure cn (prog:lw) (w:li) (h:io) (es:Array (Int×al)) (zs:List (ac×List Int)):Prop where
 eq:es.toList=zs.map (ent prog w)
 tup:∀z∈zs,TK prog w h z
 nd:(zs.map (·.2)).Nodup
theorem wG{h h':io}{z:ac×List Int}(x:TK prog w h z)(k:∀o,h.get? z.1=some o->h'.get? z.1=some o):TK prog w h' z:=
 let⟨o,i,n,e,r⟩:=x;⟨o,i,n,k o e,r⟩
theorem Oi{h:io}{z:ac×List Int}(x:TK prog w h z)(ho:h.get? a=some (KF es ep t)):z.1≠a:=λe=>by
 obtain⟨o,i,n,e1,e2,_⟩:=x
 rw[e,ho]at e1
 cases e1
 exact absurd e2 (by show ¬(jH "set"=jH "tuple");decide)
theorem cn.size{h:io}(k:cn prog w h es zs):es.size=zs.length:=by
 have:=congrArg dm k.eq
 rwa [wr,dL]at this
theorem cn.at{h:io}(k:cn prog w h es zs)(i:Nat):es[i]? =(zs[i]?).map (ent prog w):=by
 rw[<-de,k.eq,wP]
theorem cn.kept{h h':io}(k:cn prog w h es zs)(q:∀z∈zs,∀o,h.get? z.1=some o->h'.get? z.1=some o):cn prog w h' es zs:=⟨k.eq,λz hz=>wG (k.tup z hz) (q z hz),k.nd⟩
theorem ME{Q:Bool->ap->Prop}{x:ac}{ns:List Int}(hx:TK prog w s.heap (x,ns))(h:Q false s):wpAny (model prog w) A (ofAClassStatement 8 (.ref x)) Q E s:=by
 have hT:s.TypeIs (.ref x) "tuple":=hx.typeIs
 obtain⟨o,items,n,ho,_,hd,hi⟩:=hx
 unfold ofAClassStatement
 refine bd (C_ hT ?_)
 dsimp only
 rw[if_pos (by decide)]
 refine bd (eg ?_)
 rw[if_neg (by decide)]
 refine bd (u0 ho hd ?_)
 dsimp only
 refine bd ?_
 refine xV _ (λrest r s'=>r.1=none/\s'=s/\∀v∈rest,carriedByValue v=true) _ ?_ ?_ _ _ ⟨rfl,rfl,hi.byValue⟩
 .rintro v rest r s' ⟨hr,rfl,aE⟩
  have hv:=aE v Go
  have e:ofAClassStatement 7 v=pure false:=by
   cases v<;>first|rfl|(exact nomatch hv)
  rw[e]
  refine bd (eg ?_)
  rw[if_neg (by decide)]
  exact eg ⟨rfl,rfl,λu hu'=>aE u (AT _ hu')⟩
 .rintro⟨r1,r2⟩ s' ⟨hr,rfl,_⟩
  simp only at hr
  subst hr
  exact eg h
theorem ab9{Q:Bool->ap->Prop}{x:ac}{ns:List Int}(hx:TK prog w s.heap (x,ns))(l:List al)(hl:∀v∈l,∃z,v=.ref z.1/\TK prog w s.heap z)(h:Q false s):
 wpAny (model prog w) A (searchCouldBeSeen (.ref x) l) Q E s:=by
 unfold searchCouldBeSeen
 refine bd ?_
 refine wpAny_forIn_list _ (λrest r s'=>r.1=none/\s'=s/\∀v∈rest,∃z,v=.ref z.1/\TK prog w s.heap z) _ ?_ ?_ _ _ ⟨rfl,rfl,hl⟩
 .rintro v rest r s' ⟨hr,rfl,aE⟩
  obtain⟨z,rfl,hz⟩:=aE v Go
  have tail:∀v∈rest,∃z,v=.ref z.1/\TK prog w s'.heap z:=λu hu'=>aE u (AT _ hu')
  dsimp only
  refine dj (λ_=>eg ⟨rfl,rfl,tail⟩) (λ_=> ?_)
  refine bd ((tupleKind (intKind prog w)).quiet hx ?_)
  rw[if_neg (by decide)]
  refine bd ((tupleKind (intKind prog w)).quiet hz ?_)
  rw[if_neg (by decide)]
  refine bd (ME hx ?_)
  rw[if_neg (by decide)]
  refine bd (ME hz ?_)
  rw[if_neg (by decide)]
  exact eg ⟨rfl,rfl,tail⟩
 .rintro⟨r1,r2⟩ s' ⟨hr,rfl,_⟩
  simp only at hr
  subst hr
  exact eg h
theorem Zv(ho:s.heap.get? a=some (KF es ep t))(k:ST.aH t es.toList)(z:cn prog w s.heap es zs){x:ac}{ns:List Int}(hx:TK prog w s.heap (x,ns))(hu:A.units<cLine){iZ:Bool}{Q:SetFound->ap->Prop}
 (h1:∀i y,zs[i]? =some y->y.2=ns->Q (.there (if iZ then none else some i)) s)
 (h2:∀j wd,ns∉zs.map (·.2)->ST.jQ t (hT prog w ns) j->(wd=true↔j∈t.dummies.toList)->Q (.free j wd) s)
 {E':Nat}(hE:¬ST.bE t (ST.path t.mask (hT prog w ns) E').j)(hl:∀n,n<E'->ST.bE t (ST.path t.mask (hT prog w ns) n).j)(hE':E'<10*Al t.mask):
 ∀(fuel n:Nat)(d:Option Nat)(xc:Option SetTable.Probe),xc.getD (t.probeStart (hT prog w ns))={ST.path t.mask (hT prog w ns) n with dummy:=d}->n<=E'->E'-n<fuel->ST.lX t (hT prog w ns) E' d->
  (∀k,k<n->∀i y,t.slot (ST.path t.mask (hT prog w ns) k).j=.live i->zs[i]? =some y->y.2≠ns)->
  wpAny (model prog w) A (setSearchFrom a (.ref x) (hT prog w ns) iZ fuel xc) Q E s:=by
 intro fuel
 induction fuel with
 |zero=>intro n d xc _ _ hf;exact absurd hf (by lia)
 |succ fuel ih=>
  intro n d xc ay hn hf hd cZ
  unfold setSearchFrom
  refine bd (cK ho k ?_)
  dsimp only
  rw[if_neg (by unfold SetTable.gaveWay;rw[aam k.jo];decide)]
  rw[ay]
  have xI:∀(i:Nat)(y:ac×List Int),zs[i]? =some y->(es[i]?.map (·.1)).getD 0=hT prog w y.2:=λi y hy=>by rw[z.at,hy];rfl
  have mj:∀(j i:Nat),t.slot j=.live i->∃y,zs[i]? =some y:=λj i hji=>by
   have hp:=(ST.KP k.pr).mp hji
   have rc:=(P4.mp hp).1
   rw[k.len,wr,z.size]at rc
   exact⟨_,wS rc⟩
  rcases ST.vX k (λi=>(es[i]?.map (·.1)).getD 0) hE hl (10*Al t.mask) n d hn (by lia) hd with⟨q,i,d',a1,a2,a3,a4,a5,a6,a7⟩|⟨d',a5,a6,a7⟩
  .obtain⟨y,hy⟩:=mj _ _ a3
   have hyz:=z.tup y (Tk hy)
   have md:es[i]? =some (hT prog w y.2,im y.1):=by rw[z.at,hy];rfl
   have rT:t.probe (λi=>(es[i]?.map (·.1)).getD 0) (hT prog w ns) {ST.path t.mask (hT prog w ns) n with dummy:=d}=some (.candidate (ST.path t.mask (hT prog w ns) q).j i {ST.path t.mask (hT prog w ns) (q+1)with dummy:=d'}):=a7
   split
   rotate_left
   .rename_i hm;exact(hm _ rT).elim
   rename_i met hm
   have EV:=TD (hm.symm.trans rT)
   subst EV
   dsimp only
   have main:wpAny (model prog w) A (do
    let some (_,y):=es[i]? |unsupported "internal:set-entry"
    let equal <-holding [y] (eqBool y (.ref x))
    let(es',_,t') <-setState a
    if iZ&&equal then return .there none
    let some same:=t'.sameMemory t.moves t.mask|unsupported "set.changed-during-lookup:is-the-new-block-at-the-old-address"
    let acQ <-match(if same then t'.slot (ST.path t.mask (hT prog w ns) q).j else .empty)with
     |.live i'=>match es'[i']? with
      |some (_,y')=>do pure (if <-isSame y' y then some i' else none)
      |none=>pure none
     |_=>pure none
    match acQ with
    |none=>rule "set.search.anew";setSearchFrom a (.ref x) (hT prog w ns) iZ fuel none
    |some i'=>if equal then return .there (some i')else setSearchFrom a (.ref x) (hT prog w ns) iZ fuel (some {ST.path t.mask (hT prog w ns) (q+1)with dummy:=d'})) Q E s:=by
    rw[md]
    dsimp only
    refine bd (b_ ((tupleKind (intKind prog w)).eqBool hu hyz hx ?_))
    refine bd (cK ho k ?_)
    dsimp only
    have PF:t.sameMemory t.moves t.mask=some true:=by unfold SetTable.sameMemory;simp
    by_cases hq:y.2=ns
    .rw[decide_eq_true hq]
     cases iZ with
     |true=>exact eg (h1 i y hy hq)
     |false=>
      rw[if_neg (by decide),PF]
      dsimp only
      rw[if_pos rfl,a3]
      dsimp only
      rw[md]
      dsimp only
      refine bd ?_
      show wpAny _ _ (if(y.1==y.1)=true then pure true else _) _ _ _
      rw[if_pos (by simp)]
      exact eg (bd (eg (eg (h1 i y hy hq))))
    .rw[decide_eq_false hq,if_neg (by simp),PF]
     dsimp only
     rw[if_pos rfl,a3]
     dsimp only
     rw[md]
     dsimp only
     refine bd ?_
     show wpAny _ _ (if(y.1==y.1)=true then pure true else _) _ _ _
     rw[if_pos (by simp)]
     refine eg (bd (eg ?_))
     refine ih (q+1) d' _ rfl (by lia) (by lia) a5 λk' hk' i' y' b1 b2=> ?_
     by_cases c1:k'<n
     .exact cZ k' c1 i' y' b1 b2
     .by_cases c2:k'<q
      .intro e
       refine a6 k' (by lia) c2 i' b1 ?_
       rw[xI i' y' b2,e]
      .have c3:k'=q:=by lia
       subst c3
       rw[a3]at b1
       cases b1
       rw[hy]at b2
       cases b2
       exact hq
   cases Pr:t.led with
   |true=>rw[if_neg (by decide)];exact main
   |false=>
    rw[if_pos (by decide)]
    refine bd (ab9 hx _ (λv hv=> ?_) ?_)
    .obtain⟨e,he,rfl⟩:=nw.mp hv
     have he':=(Array.mem_filter.mp (Hf.mp he)).1
     have he2:e∈es.toList:=Hf.mpr he'
     rw[z.eq]at he2
     obtain⟨y',hy',rfl⟩:=nw.mp he2
     exact⟨y',rfl,z.tup y' hy'⟩
    .rw[if_neg (by decide)]
     exact main
  .have rT:t.probe (λi=>(es[i]?.map (·.1)).getD 0) (hT prog w ns) {ST.path t.mask (hT prog w ns) n with dummy:=d}=some (.empty (ST.path t.mask (hT prog w ns) E').j d'):=a7
   split
   rotate_left
   .rename_i hm;exact(hm _ rT).elim
   rename_i met hm
   have EV:=TD (hm.symm.trans rT)
   subst EV
   dsimp only
   have OA:ns∉zs.map (·.2):=λhm=>by
    obtain⟨y,hy,rfl⟩:=nw.mp hm
    obtain⟨i,hi⟩:=fX.mp hy
    have rc:i<t.place.toList.length:=by
     rw[k.len,wr,z.size];exact(P4.mp hi).1
    have hp:t.place.toList[i]? =some t.place.toList[i]:=wS rc
    have md:es.toList[i]? =some (hT prog w y.2,im y.1):=by rw[z.eq,wP,hi];rfl
    obtain⟨n0,e1,e2⟩:=k.reach i _ _ hp md
    have NX:t.slot (ST.path t.mask (hT prog w y.2) n0).j=.live i:=(ST.KP k.pr).mpr (by rw[hp];exact congrArg some e1.symm)
    have hn0:n0<E':=by
     rcases IB n0 E' with c|c|c
     .exact c
     .subst c
      exact absurd (.inl (by rw[e1];exact f6 rc)) hE
     .exact absurd (e2 E' c) hE
    by_cases c:n0<n
    .exact cZ n0 c i y NX hi rfl
    .exact a6 n0 (by lia) hn0 i NX (xI i y hi)
   cases d' with
   |none=>exact eg (h2 _ false OA (ST.Cp k hE hl) ⟨λe=>(nomatch e),λe=>absurd (hU e) hE⟩)
   |some d0=>
    have j7:=(a5 d0 rfl).1
    dsimp only
    rw[if_neg (by rw[j7];simp)]
    exact eg (h2 d0 true OA (ST.Jm k hl (d:=0) a5) ⟨λ_=>((ST.BJ k.pr k.dr).mp j7).2,λ_=>rfl⟩)
end
end L2
namespace L2
open PySem PySem.Spec PyProof.Rows
theorem Zs:((sw 512).all λn=>decide (n<df n)&&[8,16,32,64,128,256,512].contains (df n))=true:=by decide+kernel
theorem DQ{n:Nat}(h:n<512):ST.bD (df n-1)/\n<df n/\df n<=512:=by
 have:=kC.mp Zs n (Pi.mpr h)
 rw[cQ,decide_eq_true_eq]at this
 have h2:=List.contains_iff_mem.mp this.2
 simp only[wl,List.not_mem_nil,or_false]at h2
 refine⟨?_,this.1,?_⟩
 .unfold ST.bD
  rcases h2 with e|e|e|e|e|e|e<;>rw[e]<;>simp
 .rcases h2 with e|e|e|e|e|e|e<;>rw[e]<;>decide
section
variable{prog:lw}{w:li}{A:ww}{E:al->ap->Prop}{s:ap}{a:ac}{es:Array (Int×al)}{ep:Nat}{t:GT}{zs:List (ac×List Int)}
theorem MW(ho:s.heap.get? a=some (KF es ep t))(k:ST.aH t es.toList)(z:cn prog w s.heap es zs){x:ac}{ns:List Int}(hx:TK prog w s.heap (x,ns))(hu:A.units<cLine){iZ:Bool}{Q:SetFound->ap->Prop}
 (h1:∀i y,zs[i]? =some y->y.2=ns->Q (.there (if iZ then none else some i)) s)
 (h2:∀j wd,ns∉zs.map (·.2)->ST.jQ t (hT prog w ns) j->(wd=true↔j∈t.dummies.toList)->Q (.free j wd) s):
 wpAny (model prog w) A (setSearch a (.ref x) (hT prog w ns) iZ) Q E s:=by
 obtain⟨E',e1,e2,e3⟩:=k.ends (hT prog w ns)
 have hm:t.mask<=511:=by
  have:=k.jo
  unfold ST.bD at this
  lia
 unfold setSearch
 refine Zv ho k z hx hu h1 h2 e2 e3 e1 100000 0 none none ?_ (SC _) ?_ (λx hx=>nomatch hx) (λk hk=>absurd hk (by lia))
 .exact ST.KD _ _ 0
 .unfold Al at e1;lia
theorem Nw(x:ac)(es:Array (Int×al)):byScan (.ref x) es=false:=rfl
theorem N'(ho:s.heap.get? a=some (KF es ep t))(k:ST.aH t es.toList)(z:cn prog w s.heap es zs){x:ac}{ns:List Int}(hx:TK prog w s.heap (x,ns))(hu:A.units<cLine){Q:Option Nat->ap->Prop}
 (h1:∀i y,zs[i]? =some y->y.2=ns->Q (some i) s)(h2:ns∉zs.map (·.2)->Q none s):
 wpAny (model prog w) A (setFind a (.ref x) (hT prog w ns)) Q E s:=by
 unfold setFind setFindIn
 refine bd (cK ho k ?_)
 dsimp only
 rw[if_neg (by rw[Nw];decide)]
 refine bd (MW ho k z hx hu (λi y hy hq=> ?_) (λj wd hn _ _=> ?_))
 .exact eg (h1 i y hy hq)
 .exact eg (h2 hn)
theorem ach{Q:Bool->ap->Prop}{x:ac}{ns:List Int}(hx:TK prog w s.heap (x,ns))(h:Q true s):wpAny (model prog w) A (hashByValue 8 (.ref x)) Q E s:=by
 have hT:s.TypeIs (.ref x) "tuple":=hx.typeIs
 obtain⟨o,items,n,ho,_,hd,hi⟩:=hx
 have hints:∀v∈items.toList,∃i t,v=.int i t:=by
  intro v hv
  clear ho hd
  generalize items.toList=l at hi hv
  generalize hm:(x,ns).2=ms at hi
  clear hm
  induction hi with
  |nil=>exact nomatch hv
  |cons h1 h2 ih=>
   rcases wl.mp hv with rfl|hv
   .obtain⟨t,e⟩:=W5 h1
    exact⟨_,t,e⟩
   .exact ih hv
 unfold hashByValue
 refine bd (La hT PySem.F.slot_tuple_hash.lookup ?_)
 dsimp only
 refine bd (u0 ho hd ?_)
 refine bd ?_
 refine xV _ (λrest r s'=>r.1=none/\s'=s/\∀v∈rest,∃(i:Int)(t:Tok),v=eO i t) _ ?_ ?_ _ _ ⟨rfl,rfl,hints⟩
 .rintro v rest r s' ⟨hr,rfl,aE⟩
  obtain⟨i,t,rfl⟩:=aE v Go
  rw[show hashByValue 7 (.int i t)=pure true from rfl]
  refine bd (eg ?_)
  rw[if_neg (by decide)]
  exact eg ⟨rfl,rfl,λu hu'=>aE u (AT _ hu')⟩
 .rintro⟨r1,r2⟩ s' ⟨hr,rfl,_⟩
  simp only at hr
  subst hr
  exact eg h
theorem k8{es':Array (Int×al)}{t':GT}{Q:Unit->ap->Prop}(ho:s.heap.get? a=some (KF es ep t))(hz:es'.size<=200)
 (h:∀h',aC a s.heap h'->h'.get? a=some (KF es' (ep+1) t')->Q () {s with heap:=h'}):wpAny (model prog w) A (storeSet a es' t') Q E s:=by
 refine wpAny_storeSet_of ho rfl (h _ (iE ..) ?_) (by rw[bu];lia)
 exact kl (Obj.putSet es' t') ho rfl
theorem Eg{wanted:Nat}(ho:s.heap.get? a=some (KF es ep t))(k:ST.aH t es.toList)(hw:wanted<512)(hn:2*es.size<=wanted)(he:es.size<=100){Q:Unit->ap->Prop}
 (h:∀h' es' t',aC a s.heap h'->h'.get? a=some (KF es' (ep+1) t')->es'.toList.Perm es.toList->ST.aH t' es'.toList->t'.plain=t.plain->t'.led=t.led->t'.fill*5<t'.mask*3->t'.dummies= #[]->t'.mask=df wanted-1->Q () {s with heap:=h'}):
 wpAny (model prog w) A (setRelay a wanted) Q E s:=by
 obtain⟨s1,s2,s3⟩:=DQ hw
 obtain⟨place,order,e1,e2⟩:=ST.Dt s1 t.finger (t.movedTo (df wanted-1)) t.led t.plain es (by lia)
 have e3:t.relaid (es.map (·.1)) wanted=some ({mask:=df wanted-1,place,dummies:= #[],finger:=t.finger,led:=t.led,moves:=t.movedTo (df wanted-1),plain:=t.plain},order):=e1
 have hp:=ST.vF e2
 have hsz:(order.filterMap (es[·]?)).size=es.size:=by
  have:=hp.length_eq
  rwa [wr,wr]at this
 unfold setRelay
 refine bd (cK ho k ?_)
 dsimp only
 rw[if_neg (by rw[bu];lia),e3]
 refine bd (?_:wpAny _ _ _ _ _ _)
 show wpAny _ _ (if((order.filterMap (es[·]?)).size != es.size)=true then unsupported _ >>= _ else _) _ _ _
 rw[if_neg (by rw[hsz];simp)]
 refine eg (k8 ho (by rw[hsz];lia) λh' hs hg=> ?_)
 have ok:=ST.DB (fg:=t.finger) (mv:=t.movedTo (df wanted-1)) (ld:=t.led) (pl:=t.plain) s1 (by lia) e2
 refine h h' _ _ hs hg hp ok rfl rfl ?_ rfl rfl
 have hl:=ok.len
 rw[hp.length_eq,wr,wr]at hl
 unfold uN
 simp only at hl⊢
 rw[hl]
 have h7:7<=df wanted-1:=by unfold ST.bD at s1;lia
 simp
 lia
end
end L2
namespace L2
open PySem PySem.Spec PyProof.Rows
theorem B7{α β:Type}(f:α->β):∀(l:List α)(i:Nat),(l.map f).eraseIdx i=(l.eraseIdx i).map f
 |[],_=>rfl
 |x::l,0=>rfl
 |x::l,i+1=>by
  simp only[FS,Gw]
  rw[B7 f l i]
section
variable{prog:lw}{w:li}{A:ww}{E:al->ap->Prop}{s:ap}{a:ac}{es:Array (Int×al)}{ep:Nat}{t:GT}{zs:List (ac×List Int)}
theorem cn.perm{h:io}{es':Array (Int×al)}(k:cn prog w h es zs)(p:es'.toList.Perm es.toList):∃zs',zs'.Perm zs/\cn prog w h es' zs':=by
 obtain⟨zs',p',e⟩:=gL p k.eq
 exact⟨zs',p',e,λz hz=>k.tup z (p'.mem_iff.mp hz),(p'.map _).nodup_iff.mpr k.nd⟩
theorem cn.but{h h':io}(k:cn prog w h es zs){es0:Array (Int×al)}{ep0:Nat}{t0:GT}{b:ac}(hb:h.get? b=some (KF es0 ep0 t0))(q:aC b h h'):cn prog w h' es zs:=
 k.kept λz hz o e=>(q.2 z.1 (Oi (k.tup z hz) hb)).trans e
theorem ox{h h':io}{x:ac×List Int}(k:TK prog w h x){es0:Array (Int×al)}{ep0:Nat}{t0:GT}{b:ac}(hb:h.get? b=some (KF es0 ep0 t0))(q:aC b h h'):TK prog w h' x:=
 wG k λo e=>(q.2 x.1 (Oi k hb)).trans e
structure SetT (prog:lw) (w:li) (h:io) (a:ac) (es:Array (Int×al)) (ep:Nat) (t:GT) (zs:List (ac×List Int)):Prop where
 at_:h.get? a=some (KF es ep t)
 ok:dz (Gt w) es t
 tup:cn prog w h es zs
theorem NG(k:SetT prog w s.heap a es ep t zs){x:ac}{ns:List Int}(hx:TK prog w s.heap (x,ns))(hu:A.units<cLine)(hl:zs.length+1<=100){Q:Bool->ap->Prop}
 (h:∀b h' es' ep' t' zs',aC a s.heap h'->SetT prog w h' a es' ep' t' zs'->(∀z∈zs',z∈zs\/z=(x,ns))->(∀c,c∈zs'.map (·.2)↔c∈zs.map (·.2)\/c=ns)->zs'.length<=zs.length+1->Q b {s with heap:=h'}):
 wpAny (model prog w) A (setAddHashed a (.ref x) (hT prog w ns)) Q E s:=by
 obtain⟨ho,ok,z⟩:=k
 have hsz:=z.size
 unfold setAddHashed setAddHashedIn
 refine b_ (bd (cK ho ok.ok ?_))
 dsimp only
 rw[if_neg (by rw[Nw];decide)]
 refine bd (MW ho ok.ok z hx hu (λi y hy hq=> ?_) (λj wd hn tk xN=> ?_))
 .refine eg (h _ s.heap es ep t zs (jv a s.heap) ⟨ho,ok,z⟩ (λz hz=>.inl hz) (λc=>⟨.inl,λq=>q.elim id λe=> ?_⟩) (gg _))
  rw[e,<-hq]
  exact nw.mpr ⟨y,Tk hy,rfl⟩
 .dsimp only
  refine bd (cK ho ok.ok ?_)
  dsimp only
  have Ey:=ok.room
  have h7:7<=t.mask:=by have:=ok.ok.jo;unfold ST.bD at this;lia
  obtain⟨k1,k2⟩:=ok.ok.put tk (λ_=>by lia) (.ref x)
  have hp1:(t.put j).1.plain=true:=ok.plain
  have hl1:(t.put j).1.led= !Gt w:=ok.led
  have hm1:(t.put j).1.mask=t.mask:=rfl
  have acD:wpAny (model prog w) A (do
   storeSet a (iG es (t.put j).2 (hT prog w ns,.ref x)) (t.put j).1
   if !wd&&(t.put j).1.tooFull then setRelay a (mZ (es.size+1))
   return true) Q E s:=by
   have hsz2:(iG es (t.put j).2 (hT prog w ns,im x)).size=es.size+1:=ST.n9 ..
   refine bd (k8 ho (by rw[hsz2];lia) λh1 hs1 hg1=> ?_)
   have z1:cn prog w h1 (iG es (t.put j).2 (hT prog w ns,.ref x)) (zs.take (t.put j).2++(x,ns)::zs.drop (t.put j).2):=by
    refine⟨?_,λy hy=> ?_,?_⟩
    .rw[Ri,z.eq,GM,FS,uZ,uY];rfl
    .rcases NE.mp hy with hy|hy
     .exact ox (z.tup y (Hj hy)) ho hs1
     .rcases wl.mp hy with rfl|hy
      .exact ox hx ho hs1
      .exact ox (z.tup y (Hi hy)) ho hs1
    .have hp:(zs.take (t.put j).2++(x,ns)::zs.drop (t.put j).2).Perm ((x,ns)::zs):=by
      refine zE.trans ?_
      rw[yk]
     refine((hp.map (·.2)).nodup_iff).mpr ?_
     exact gJ.mpr ⟨hn,z.nd⟩
   have jR:(zs.take (t.put j).2++(x,ns)::zs.drop (t.put j).2).Perm ((x,ns)::zs):=by
    refine zE.trans ?_
    rw[yk]
   generalize zs.take (t.put j).2++(x,ns)::zs.drop (t.put j).2=zs1 at z1 jR
   have fin:∀h' es' ep' t' zs',aC a s.heap h'->SetT prog w h' a es' ep' t' zs'->zs'.Perm zs1->Q true {s with heap:=h'}:=λh' es' ep' t' zs' q1 q2 q3=>by
    have q4:=q3.trans jR
    refine h _ h' es' ep' t' zs' q1 q2 (λy hy=> ?_) (λc=> ?_) (by rw[q4.length_eq];simp)
    .rcases wl.mp (q4.mem_iff.mp hy)with e|e
     .exact .inr e
     .exact .inl e
    .rw[(q4.map (·.2)).mem_iff,FS,wl]
     exact or_comm
   refine dj (λhc=> ?_) (λhc=> ?_)
   .have FE:mZ (es.size+1)=(es.size+1)*4:=by unfold mZ;rw[if_neg (by lia)]
    rw[FE]
    refine bd (Eg (s:={s with heap:=h1}) hg1 k1 (by lia) (by rw[hsz2];lia) (by rw[hsz2];lia) λh2 es2 t2 hs2 hg2 p2 ok2 pl2 ld2 rm2 _ _=> ?_)
    obtain⟨zs2,p3,z2⟩:=(z1.but hg1 hs2).perm p2
    refine eg (fin h2 es2 _ t2 zs2 (hs1.trans hs2) ⟨hg2,⟨ok2,by rw[pl2];exact hp1,by rw[ld2];exact hl1,rm2,?_⟩,z2⟩ p3)
    have:=p2.length_eq
    rw[wr,wr,hsz2]at this
    lia
   .refine eg (fin h1 _ _ _ zs1 hs1 ⟨hg1,⟨k1,hp1,hl1,?_,by rw[hsz2];lia⟩,z1⟩ (.refl _))
    rw[k2,hm1]
    split
    .exact Ey
    .rename_i mh
     have su:wd=false:=by
      cases wd with
      |false=>rfl
      |true=>exact absurd (xN.mp rfl) mh
     rw[su]at hc
     unfold Vt at hc
     rw[k2,if_neg mh,hm1]at hc
     simp at hc
     lia
  rw[show(t.put j).1.plain=true from hp1]
  rw[if_pos rfl]
  refine bd (ach hx ?_)
  rw[if_pos rfl]
  exact acD
theorem abW(k:SetT prog w s.heap a es ep t zs){x:ac}{ns:List Int}(hx:TK prog w s.heap (x,ns))(hu:A.units<cLine){Q:Bool->ap->Prop}
 (h:∀b h' es' ep' t' zs',aC a s.heap h'->SetT prog w h' a es' ep' t' zs'->(∀z∈zs',z∈zs)->(∀c,c∈zs'.map (·.2)↔c∈zs.map (·.2)/\c≠ns)->Q b {s with heap:=h'}):
 wpAny (model prog w) A (setDiscardHashed a (.ref x) (hT prog w ns)) Q E s:=by
 obtain⟨ho,ok,z⟩:=k
 have hsz:=z.size
 unfold setDiscardHashed
 refine bd (N' ho ok.ok z hx hu (λi y hy hq=> ?_) (λhn=> ?_))
 .dsimp only
  refine bd (cK ho ok.ok ?_)
  dsimp only
  have hi:=(P4.mp hy).1
  have hsz2:(SetTable.eraseAt es i).size=es.size-1:=by
   rw[<-wr,ST.di,pM,if_pos (by rw[wr];lia),wr]
  have rQ:=ok.e_
  refine bd (k8 ho (by rw[hsz2];lia) λh1 hs1 hg1=>bd (wpAny_point (eg ?_)))
  obtain⟨k1,k2⟩:=ok.ok.drop (i:=i) (by lia)
  have hl:i<t.place.toList.length:=by rw[ok.ok.len,wr];lia
  have Fy:=ST.drop_eq (t:=t) (wS hl)
  have jj:=z.nd
  refine h _ h1 _ _ _ (zs.eraseIdx i) hs1 ⟨hg1,⟨k1,?_,?_,?_,by rw[hsz2];lia⟩,⟨?_,λy' hy'=>ox (z.tup y' (kg hy')) ho hs1,?_⟩⟩ (λy' hy'=>kg hy') (λc=> ?_)
  .rw[Fy];exact ok.plain
  .rw[Fy];exact ok.led
  .rw[k2,Fy];exact ok.room
  .rw[ST.di,z.eq,B7]
  .exact jj.sublist ((GW _ _).map _)
  .rw[<-B7]
   have hy2:(zs.map (·.2))[i]? =some ns:=by rw[wP,hy,<-hq];rfl
   generalize zs.map (·.2)=l at hy2 jj
   rw[sU]
   constructor
   .rintro⟨i',h1,h2⟩
    refine⟨Tk h2,λe=>h1 ?_⟩
    subst e
    have e1:=P4.mp h2
    have e2:=P4.mp hy2
    obtain⟨b1,b2⟩:=e1
    obtain⟨c1,c2⟩:=e2
    exact(List.getElem_inj jj).mp (b2.trans c2.symm)
   .rintro⟨h1,h2⟩
    obtain⟨i',h3⟩:=fX.mp h1
    refine⟨i',λe=>h2 ?_,h3⟩
    subst e
    rw[hy2]at h3
    exact(TD h3).symm
 .refine eg (h _ s.heap es ep t zs (jv a s.heap) ⟨ho,ok,z⟩ (λz hz=>hz) (λc=>⟨λq=>⟨q,λe=>hn (e▸q)⟩,λq=>q.1⟩))
end
end L2
namespace L2
open PySem PySem.Spec PyProof.Rows
theorem CH(fg mv:Nat)(ld:Bool):ST.aH (cR fg mv ld) []:=
 ⟨.inl rfl,.nil,.nil,rfl,λj hj=>(nomatch hj),λj hj=>(nomatch hj),λj hj=>(nomatch hj),SC _,λi j e h=>(nomatch h)⟩
section
variable{prog:lw}{w:li}{A:ww}{E:al->ap->Prop}{s:ap}{a b r:ac}{es eb er:Array (Int×al)}{ep j6 xB:Nat}{t tb tr:GT}{zs zb zr:List (ac×List Int)}
theorem Kq{h:io}(hg:h.get? a=some (KF #[] 0 (cR 0 0 (!Gt w)))):SetT prog w h a #[] 0 (cR 0 0 (!Gt w)) []:=
 ⟨hg,⟨CH 0 0 _,rfl,rfl,(show 0*5<7*3 by decide),SC _⟩,⟨rfl,λz hz=>(nomatch hz),.nil⟩⟩
theorem N3{Q:al->ap->Prop}(h:Q (.ref s.heap.objs.size) {s with heap:=s.heap.push (KF #[] 0 (cR 0 0 (!Gt w)))}):wpAny (model prog w) A (newSet (.type "set")) Q E s:=by
 unfold newSet
 refine bd (ow ?_)
 dsimp only
 simp only[newObj]
 exact bd (wpAny_alloc (eg h))
theorem wH{Q:Bool->ap->Prop}(ho:s.heap.get? a=some (KF es ep t))(h:Q true s):wpAny (model prog w) A (pI (.ref a)) Q E s:=by
 unfold pI
 exact bd (mU (T:="set") (b:=true) ⟨_,ho,rfl⟩ M9 (eg h))
theorem xa{Q:Nat->ap->Prop}(ho:s.heap.get? a=some (KF es ep t))(k:ST.aH t es.toList)(h:Q es.size s):wpAny (model prog w) A (F4 a) Q E s:=by
 unfold F4
 exact bd (yZ ho rfl k.fits (eg h))
theorem MV{Q:al->ap->Prop}(ho:s.heap.get? a=some (KF es ep t))(h:Q (.type "set") s):wpAny (model prog w) A (Qq a) Q E s:=by
 unfold Qq
 exact bd (mU (T:="set") (b:=true) ⟨_,ho,rfl⟩ M9 (eg h))
theorem Oj{Q:Unit->ap->Prop}{id:String}(ho:s.heap.get? a=some (KF es ep t))(k:ST.aH t es.toList)(h:Q () s):wpAny (model prog w) A (F3 id a ep) Q E s:=by
 unfold F3
 refine bd (Ao ho rfl k.fits ?_)
 rw[if_neg (by simp)]
 exact eg h
theorem SetT.kept{h h':io}(k:SetT prog w h a es ep t zs)(q:∀b o,h.get? b=some o->h'.get? b=some o):SetT prog w h' a es ep t zs:=⟨q _ _ k.at_,k.ok,k.tup.kept λz _ o e=>q _ _ e⟩
theorem SetT.but{h h':io}(k:SetT prog w h a es ep t zs)(hb:h.get? b=some (KF eb j6 tb))(bn:a≠b)(q:aC b h h'):SetT prog w h' a es ep t zs:=⟨(q.2 a bn).trans k.at_,k.ok,k.tup.but hb q⟩
theorem Zp{m fg mv:Nat}(hm:ST.bD m)(hn:es.size<=m){Q:Array (Int×al)×GT->ap->Prop}
 (h:∀es' t',es'.toList.Perm es.toList->ST.aH t' es'.toList->t'.plain=true->t'.led=(!Gt w)->t'.mask=m->t'.fill=es.size->Q (es',t') s){ld pl:Bool}(Pr:ld= !Gt w)(SZ:pl=true){f:Option (GT×Array Nat)->Sem (Array (Int×al)×GT)}
 (hf:∀t order,(order.filterMap (es[·]?)).size=es.size->f (some (t,order))=pure (order.filterMap (es[·]?),t)):
 wpAny (model prog w) A (f (Ym m fg mv ld pl (es.map (·.1)))) Q E s:=by
 obtain⟨place,order,e1,e2⟩:=ST.Dt hm fg mv ld pl es hn
 have hp:=ST.vF e2
 have hsz:(order.filterMap (es[·]?)).size=es.size:=by
  have:=hp.length_eq
  rwa [wr,wr]at this
 rw[e1,hf _ _ hsz]
 have ok:=ST.DB (fg:=fg) (mv:=mv) (ld:=ld) (pl:=pl) hm hn e2
 refine eg (h _ _ hp ok SZ Pr rfl ?_)
 have hl:=ok.len
 rw[hp.length_eq,wr,wr]at hl
 simp only at hl
 unfold uN
 simp[hl]
theorem abY{t0:GT}(kr:SetT prog w s.heap r #[] xB t0 [])(h0:t0.fill=0)(h7:t0.mask=7)(kb:SetT prog w s.heap b eb j6 tb zb)(bn:r≠b){Q:Unit->ap->Prop}
 (h:∀h' es' ep' t' zs',aC r s.heap h'->SetT prog w h' r es' ep' t' zs'->zs'.Perm zb->Q () {s with heap:=h'}):wpAny (model prog w) A (setMerge r b) Q E s:=by
 unfold setMerge
 rw[if_neg (by simpa using bn)]
 refine bd (cK kb.at_ kb.ok.ok ?_)
 dsimp only
 have adF:=kb.tup.size
 have rQ:=kb.ok.e_
 refine dj (λhc=> ?_) (λhc=> ?_)
 .have:zb=[]:=by
   rw[QP]at hc
   exact cC.mp (by lia)
  subst this
  exact eg (h s.heap _ _ _ _ (jv ..) kr (.refl _))
 .have go:∀(h1:io)(ep1:Nat)(t1:GT),aC r s.heap h1->h1.get? r=some (KF #[] ep1 t1)->ST.aH t1 []->t1.plain=true->t1.led=(!Gt w)->t1.fill=0->eb.size*5<t1.mask*3->
   wpAny (model prog w) A (do
    let(_,_,ts) <-setState r
    match ts.road tb with
    |.slotForSlot=>storeSet r eb {tb with finger:=ts.finger,led:=ts.led&&tb.led,moves:=ts.moves,plain:=ts.plain&&tb.plain}
    |.clean=>
     let(es,t) <-(λlaid:Option (GT×Array Nat)=>(do
      let some (t,order):=laid|unsupported "internal:set-table-without-room"
      let es':=order.filterMap (eb[·]?)
      if es'.size != eb.size then unsupported "internal:set-table-lost-an-element"
      pure (es',t):Sem (Array (Int×al)×GT))) (Ym ts.mask ts.finger ts.moves (led:=ts.led&&tb.led) (plain:=ts.plain&&tb.plain) (eb.map (·.1)))
     storeSet r es t
    |.oneByOne=>
     for (h,x) in <-setWalkUnseen b [r] (some r) do
      let _ <-holding [x] (setAddHashed r x h)
      (pure ():Sem Unit)
      if(<-setState b).2.1 != j6 then unsupported "set.changed-during-merge") Q E {s with heap:=h1}:=by
   intro h1 ep1 t1 hs1 hg1 ok1 pl1 ld1 f1 rm1
   have kb1:=kb.but kr.at_ (dS bn) hs1
   refine bd (cK (s:={s with heap:=h1}) hg1 ok1 ?_)
   dsimp only
   have ld':(t1.led&&tb.led)= !Gt w:=by rw[ld1,kb.ok.led];simp
   have pl':(t1.plain&&tb.plain)=true:=by rw[pl1,kb.ok.plain];rfl
   cases j9:t1.road tb with
   |oneByOne=>
    exfalso
    unfold SetTable.road at j9
    rw[f1]at j9
    simp only[bne_self_eq_false,gG,↓reduceIte]at j9
    split at j9<;>cases j9
   |slotForSlot=>
    dsimp only
    refine k8 (s:={s with heap:=h1}) hg1 (by lia) λh2 hs2 hg2=> ?_
    refine h h2 _ _ _ zb (hs1.trans hs2) ⟨hg2,⟨?_,pl',ld',kb.ok.room,kb.ok.e_⟩,kb1.tup.but hg1 hs2⟩ (.refl _)
    have o:=kb.ok.ok
    exact⟨o.jo,o.pr,o.dr,o.len,o.pin,o.xy,o.r_,o.room,o.reach⟩
   |clean=>
    dsimp only
    refine bd ?_
    refine Zp (es:=eb) ok1.jo (by have:=kb.ok.e_;lia) (λes' t' p' o' q1 q2 q3 q4=> ?_) ld' pl' (f:=λlaid:Option (GT×Array Nat)=>(do
     let some (t,order):=laid|unsupported "internal:set-table-without-room"
     let es':=order.filterMap (eb[·]?)
     if es'.size != eb.size then unsupported "internal:set-table-lost-an-element"
     pure (es',t):Sem (Array (Int×al)×GT))) (λt order hsz=>by
      dsimp only
      rw[if_neg (by rw[hsz];simp)])
    dsimp only
    have adE:es'.size=eb.size:=by
     have:=p'.length_eq
     rwa [wr,wr]at this
    refine k8 (s:={s with heap:=h1}) hg1 (by lia) λh2 hs2 hg2=> ?_
    obtain⟨z2,p2,k2⟩:=(kb1.tup.but hg1 hs2).perm p'
    exact h h2 _ _ _ z2 (hs1.trans hs2) ⟨hg2,⟨o',q1,q2,by rw[q3,q4];exact rm1,by lia⟩,k2⟩ p2
  unfold setRoomFor
  refine bd (bd (cK kr.at_ kr.ok.ok ?_))
  dsimp only
  have cO:0<eb.size:=by
   rw[QP]at hc
   lia
  have UV:t0.place.size=0:=by unfold uN at h0;lia
  unfold SetTable.roomFor
  rw[h0,h7,UV]
  by_cases xl:(0+eb.size)*5>=7*3
  .rw[if_pos xl]
   dsimp only
   refine Eg (wanted:=(0+eb.size)*2) kr.at_ kr.ok.ok (by lia) (by show 2*0<=_;lia) (by show 0<=100;lia) λh1 es1 t1 hs1 hg1 p1 ok1 pl1 ld1 rm1 dm1 mk1=> ?_
   have he1:es1= #[]:=by
    have:=p1.length_eq
    rw[wr,wr]at this
    exact Array.size_eq_zero_iff.mp (by simpa using this)
   subst he1
   obtain⟨s1,s2,s3⟩:=DQ (n:=(0+eb.size)*2) (by lia)
   refine go h1 _ t1 hs1 hg1 ok1 (by rw[pl1];exact kr.ok.plain) (by rw[ld1];exact kr.ok.led) ?_ ?_
   .have:=ok1.len
    unfold uN
    rw[dm1]
    rw[wr]at this
    simpa using this
   .rw[mk1]
    have:7<=df ((0+eb.size)*2)-1:=by unfold ST.bD at s1;lia
    lia
  .rw[if_neg xl]
   dsimp only
   exact eg (go s.heap xB t0 (jv ..) kr.at_ kr.ok.ok kr.ok.plain kr.ok.led h0 (by rw[h7];lia))
end
end L2
namespace L2
open PySem PySem.Spec PyProof.Rows
section
variable{prog:lw}{w:li}{A:ww}{E:al->ap->Prop}{s:ap}{a b r:ac}{es eb er:Array (Int×al)}{ep j6 xB:Nat}{t tb tr:GT}{zs zb zr:List (ac×List Int)}
theorem K3{h:io}(k:cn prog w h es zs)(a:ac)(ep:Nat):∃zw:List (ac×List Int),zw.Perm zs/\(eE w a ep es).toList=zw.map (ent prog w):=by
 obtain⟨zw,p,e⟩:=gL (BP w a ep es) k.eq
 exact⟨zw,p,e⟩
theorem abZ(k:SetT prog w s.heap a es ep t zs){Q:Unit->ap->Prop}(h:∀h' es' ep' t' zs',aC a s.heap h'->SetT prog w h' a es' ep' t' zs'->zs'.Perm zs->Q () {s with heap:=h'}):
 wpAny (model prog w) A (setTidy a) Q E s:=by
 unfold setTidy
 refine bd (cK k.at_ k.ok.ok ?_)
 dsimp only
 have rQ:=k.ok.e_
 refine dj (λ_=> ?_) (λ_=>eg (h s.heap _ _ _ _ (jv ..) k (.refl _)))
 rw[show mZ es.size=es.size*4 by unfold mZ;rw[if_neg (by lia)]]
 refine Eg k.at_ k.ok.ok (by lia) (by lia) rQ λh1 es1 t1 hs1 hg1 p1 ok1 pl1 ld1 rm1 _ _=> ?_
 obtain⟨z1,p2,k2⟩:=(k.tup.but k.at_ hs1).perm p1
 have hsz:es1.size=es.size:=by
  have:=p1.length_eq
  rwa [wr,wr]at this
 exact h h1 _ _ _ z1 hs1 ⟨hg1,⟨ok1,by rw[pl1];exact k.ok.plain,by rw[ld1];exact k.ok.led,rm1,by lia⟩,k2⟩ p2
theorem abX{id:String}(kr:SetT prog w s.heap r er xB tr zr)(kb:SetT prog w s.heap b eb j6 tb zb)(bn:r≠b)(hu:A.units<cLine)(h8:eb.size / 8<=er.size){Q:Unit->ap->Prop}
 (h:∀h' es' ep' t' zs',aC r s.heap h'->SetT prog w h' r es' ep' t' zs'->(∀z∈zs',z∈zr)->(∀c,c∈zs'.map (·.2)↔c∈zr.map (·.2)/\c∉zb.map (·.2))->Q () {s with heap:=h'}):
 wpAny (model prog w) A (Qj id r (.ref b)) Q E s:=by
 unfold Qj
 have hv:((im b==im r)=true)->False:=λe=>by
  have:=eq_of_beq e
  exact bn (W6 this).symm
 rw[if_neg (λe=>hv e)]
 refine bd (wH kb.at_ ?_)
 rw[if_pos rfl]
 refine bd (eg ?_)
 refine bd (xa kb.at_ kb.ok.ok ?_)
 refine bd (xa kr.at_ kr.ok.ok ?_)
 rw[if_neg (by lia)]
 refine bd (Ao kb.at_ rfl kb.ok.ok.fits ?_)
 obtain⟨zw,pw,ew⟩:=K3 kb.tup b j6
 refine bd (b_ (bd (NH kb.at_ kb.ok ?_)))
 refine bd ?_
 refine xV _ (λrest _ s'=>∃(h':io)(es':Array (Int×al))(ep':Nat)(t':GT)(zs' cw res:List (ac×List Int)),rest=res.map (ent prog w)/\cw++res=zw/\s'={s with heap:=h'}/\aC r s.heap h'/\SetT prog w h' r es' ep' t' zs'/\(∀z∈zs',z∈zr)/\(∀c,c∈zs'.map (·.2)↔c∈zr.map (·.2)/\c∉cw.map (·.2))) _ ?_ ?_ _ _ ⟨s.heap,_,_,_,zr,[],zw,ew,rfl,rfl,jv ..,kr,λz hz=>hz,λc=>by simp⟩
 .rintro x rest _ s' ⟨h',es',ep',t',zs',cw,res,e1,e2,rfl,e4,e5,e6,e7⟩
  cases res with
  |nil=>cases e1
  |cons y res=>
   rw[FS,jy]at e1
   obtain⟨rfl,rfl⟩:=e1
   have hyb:y∈zb:=pw.mem_iff.mp (by rw[<-e2];simp)
   have hy:TK prog w h' y:=ox (kb.tup.tup y hyb) kr.at_ e4
   have kb':=kb.but kr.at_ (dS bn) e4
   show wpAny _ _ (holding [im y.1] (setDiscardHashed r (.ref y.1) (hT prog w y.2)) >>= _) _ _ _
   refine bd (b_ (abW (s:={s with heap:=h'}) e5 (x:=y.1) (ns:=y.2) hy hu λ_ h2 es2 ep2 t2 zs2 f1 f2 f3 f4=> ?_))
   have kb2:=kb'.but e5.at_ (dS bn) f1
   refine bd (Oj (s:={s with heap:=h2}) kb2.at_ kb2.ok.ok (eg ?_))
   refine⟨h2,es2,ep2,t2,zs2,cw++[y],res,rfl,by rw[<-e2];simp,rfl,e4.trans f1,f2,λz hz=>e6 z (f3 z hz),λc=> ?_⟩
   rw[f4,e7,GM,NE]
   simp only[FS,gO,zn,not_or]
   exact and_assoc
 .rintro _ s' ⟨h',es',ep',t',zs',cw,res,e1,e2,rfl,e4,e5,e6,e7⟩
  cases res with
  |cons y res=>cases e1
  |nil=>
   rw[iL]at e2
   subst e2
   refine eg ?_
   refine abZ (s:={s with heap:=h'}) e5 λh2 es2 ep2 t2 zs2 f1 f2 f3=> ?_
   refine h h2 es2 ep2 t2 zs2 (e4.trans f1) f2 (λz hz=>e6 z (f3.mem_iff.mp hz)) λc=> ?_
   rw[(f3.map (·.2)).mem_iff,e7,(pw.map (·.2)).mem_iff]
theorem abV{id:String}(ka:SetT prog w s.heap a es ep t zs)(kb:SetT prog w s.heap b eb j6 tb zb)(hu:A.units<cLine){Q:al->ap->Prop}
 (h:∀h' es' ep' t' zs',(∀x o,s.heap.get? x=some o->h'.get? x=some o)->SetT prog w h' s.heap.objs.size es' ep' t' zs'->(∀z∈zs',z∈zs)->(∀c,c∈zs'.map (·.2)↔c∈zs.map (·.2)/\c∉zb.map (·.2))->Q (.ref s.heap.objs.size) {s with heap:=h'}):
 wpAny (model prog w) A (Qm id a (.ref b)) Q E s:=by
 have FG:=FB ka.at_
 have FH:=FB kb.at_
 have kp:∀x o,s.heap.get? x=some o->(s.heap.push (KF #[] 0 (cR 0 0 (!Gt w)))).get? x=some o:=λx o e=>P5 _ e
 have sm:∀{h':io},aC s.heap.objs.size (s.heap.push (KF #[] 0 (cR 0 0 (!Gt w)))) h'->∀x o,s.heap.get? x=some o->h'.get? x=some o:=λq x o e=>(q.2 x (Ps (FB e))).trans (kp x o e)
 have kr:SetT prog w (s.heap.push (KF #[] 0 (cR 0 0 (!Gt w)))) s.heap.objs.size #[] 0 (cR 0 0 (!Gt w)) []:=Kq (Tl _ rfl)
 unfold Qm
 refine bd (wH kb.at_ ?_)
 rw[if_neg (by decide)]
 refine bd (eg ?_)
 rw[if_neg (by simp)]
 rw[if_pos rfl]
 refine bd (xa kb.at_ kb.ok.ok ?_)
 refine bd (xa ka.at_ ka.ok.ok ?_)
 have ka1:=ka.kept kp
 have kb1:=kb.kept kp
 refine dj (λxl=> ?_) (λxl=> ?_)
 .refine bd (wpAny_rule ?_)
  refine bd (m:=Qr a) ?_
  unfold Qr
  refine bd (MV ka.at_ ?_)
  refine bd (N3 ?_)
  refine bd (eg ?_)
  refine bd (abY (s:={s with heap:=s.heap.push (KF #[] 0 (cR 0 0 (!Gt w)))}) kr rfl rfl ka1 (nA FG) λh1 es1 ep1 t1 zs1 hs1 k1 p1=>eg ?_)
  have kb2:=kb1.but kr.at_ (Ps FH) hs1
  have hz1:=k1.tup.size
  have hz2:=ka.tup.size
  have hz3:=p1.length_eq
  refine bd (eg (bd (b_ ?_)))
  refine abX (s:={s with heap:=h1}) k1 kb2 (nA FH) hu (by lia) λh2 es2 ep2 t2 zs2 hs2 k2 f1 f2=>eg ?_
  refine h h2 es2 ep2 t2 zs2 (sm (hs1.trans hs2)) k2 (λz hz=>p1.mem_iff.mp (f1 z hz)) λc=> ?_
  rw[f2,(p1.map (·.2)).mem_iff]
 .refine bd (MV ka.at_ ?_)
  refine bd (N3 ?_)
  refine bd (eg ?_)
  refine bd (Ao ka1.at_ rfl ka1.ok.ok.fits ?_)
  rw[if_pos rfl]
  obtain⟨zw,pw,ew⟩:=K3 ka.tup a ep
  have hlen:zw.length<=100:=by
   have h1:=ka.tup.size
   have h2:=ka.ok.e_
   rw[pw.length_eq];lia
  refine bd (b_ (bd (NH (s:={s with heap:=s.heap.push (KF #[] 0 (cR 0 0 (!Gt w)))}) ka1.at_ ka1.ok ?_)))
  refine bd ?_
  refine xV _ (λrest _ s'=>∃(h':io)(es':Array (Int×al))(ep':Nat)(t':GT)(zs' cw res:List (ac×List Int)),rest=res.map (ent prog w)/\cw++res=zw/\s'={s with heap:=h'}/\aC s.heap.objs.size (s.heap.push (KF #[] 0 (cR 0 0 (!Gt w)))) h'/\SetT prog w h' s.heap.objs.size es' ep' t' zs'/\(∀z∈zs',z∈zs)/\(∀c,c∈zs'.map (·.2)↔c∈cw.map (·.2)/\c∉zb.map (·.2))/\zs'.length<=cw.length) _ ?_ ?_ _ _ ⟨_,_,_,_,[],[],zw,ew,rfl,rfl,jv ..,kr,λz hz=>(nomatch hz),λc=>by simp,nn _⟩
  .rintro x rest _ s' ⟨h',es',ep',t',zs',cw,res,e1,e2,rfl,e4,e5,e6,e7,e8⟩
   cases res with
   |nil=>cases e1
   |cons y res=>
    rw[FS,jy]at e1
    obtain⟨rfl,rfl⟩:=e1
    have PR:y∈zs:=pw.mem_iff.mp (by rw[<-e2];simp)
    have ka2:=ka1.but kr.at_ (Ps FG) e4
    have kb2:=kb1.but kr.at_ (Ps FH) e4
    have hy:TK prog w h' y:=ka2.tup.tup y PR
    have d6:cw.length+1<=100:=by
     have:=congrArg dm e2
     rw[Rs,Os]at this
     lia
    show wpAny _ _ (holding [im y.1] _ >>= _) _ _ _
    have Oy:∀(h2:io)es2 ep2 t2 zs2,aC s.heap.objs.size h' h2->SetT prog w h2 s.heap.objs.size es2 ep2 t2 zs2->(∀z∈zs2,z∈zs)->(∀c,c∈zs2.map (·.2)↔(c∈cw.map (·.2)\/c=y.2)/\c∉zb.map (·.2))->zs2.length<=cw.length+1->
     wpAny (model prog w) A (F3 id a ep >>= λ_=>pure (tX PUnit.unit)) (λr' s'=>match r' with
      |.yield b'=>∃(h':io)(es':Array (Int×al))(ep':Nat)(t':GT)(zs' cw OQ:List (ac×List Int)),res.map (ent prog w)=OQ.map (ent prog w)/\cw++OQ=zw/\s'={s with heap:=h'}/\aC s.heap.objs.size (s.heap.push (KF #[] 0 (cR 0 0 (!Gt w)))) h'/\SetT prog w h' s.heap.objs.size es' ep' t' zs'/\(∀z∈zs',z∈zs)/\(∀c,c∈zs'.map (·.2)↔c∈cw.map (·.2)/\c∉zb.map (·.2))/\zs'.length<=cw.length
      |.done b'=>False) E {s with heap:=h2}:=by
     intro h2 es2 ep2 t2 zs2 f1 f2 f3 f4 f5
     have ka3:=ka2.but e5.at_ (Ps FG) f1
     refine bd (Oj (s:={s with heap:=h2}) ka3.at_ ka3.ok.ok (eg ?_))
     refine⟨h2,es2,ep2,t2,zs2,cw++[y],res,rfl,by rw[<-e2];simp,rfl,e4.trans f1,f2,f3,λc=> ?_,by simpa using f5⟩
     rw[f4,GM,NE]
     simp only[FS,gO,zn]
    have weak:∀{m:Sem (ForInStep PUnit)}{Q1 Q2:ForInStep PUnit->ap->Prop}{s1:ap},(∀x s',Q1 x s'->Q2 x s')->wpAny (model prog w) A m Q1 E s1->wpAny (model prog w) A m Q2 E s1:=λhq hm=>cE hm hq (λ_ _ q=>q)
    refine bd (b_ ?_)
    rw[if_pos rfl]
    refine bd (N' (s:={s with heap:=h'}) kb2.at_ kb2.ok.ok kb2.tup (x:=y.1) (ns:=y.2) hy hu (λi z hz hq=> ?_) (λhn=> ?_))
    .refine bd (eg ?_)
     show wpAny _ _ (if(!true)=true then _ else _) _ _ _
     rw[if_neg (by decide)]
     refine eg ?_
     refine weak (λx s' q=>by cases x with|yield _=>exact q|done _=>exact q.elim) (Oy h' es' ep' t' zs' (jv ..) e5 e6 (λc=> ?_) (Nat.le_succ_of_le e8))
     rw[e7]
     have bH:y.2∈zb.map (·.2):=nw.mpr ⟨z,Tk hz,hq⟩
     constructor
     .exact λq=>⟨.inl q.1,q.2⟩
     .rintro⟨q1|q1,q2⟩
      .exact⟨q1,q2⟩
      .exact absurd bH (q1▸q2)
    .refine bd (eg ?_)
     show wpAny _ _ (if(!false)=true then _ else _) _ _ _
     rw[if_pos (by decide)]
     refine bd (NG (s:={s with heap:=h'}) e5 (x:=y.1) (ns:=y.2) hy hu (by lia) λ_ h2 es2 ep2 t2 zs2 f1 f2 f3 f4 f5=>eg ?_)
     refine weak (λx s' q=>by cases x with|yield _=>exact q|done _=>exact q.elim) (Oy h2 es2 ep2 t2 zs2 f1 f2 (λz hz=>(f3 z hz).elim (e6 z) λe=>e▸PR) (λc=> ?_) (by lia))
     rw[f4,e7]
     constructor
     .rintro(q|q)
      .exact⟨.inl q.1,q.2⟩
      .exact⟨.inr q,q▸hn⟩
     .rintro⟨q1|q1,q2⟩
      .exact .inl ⟨q1,q2⟩
      .exact .inr q1
  .rintro _ s' ⟨h',es',ep',t',zs',cw,res,e1,e2,rfl,e4,e5,e6,e7,e8⟩
   cases res with
   |cons y res=>cases e1
   |nil=>
    rw[iL]at e2
    subst e2
    refine eg (eg ?_)
    refine(h h' es' ep' t' zs' (sm e4) e5 e6 λc=> ?_)
    rw[e7,(pw.map (·.2)).mem_iff]
end
end L2
namespace L2
open PySem PySem.Spec PyProof.Rows
section
variable{prog:lw}{w:li}{A:ww}{E:al->ap->Prop}{s:ap}
theorem aaO{R:lL->ap->Prop}{I l S:ac}{items:Array al}(hh:A.handled=none)(hlI:l≠I)(hSI:S≠I)(hSl:S≠l){SI:Nat->io->Prop}
 (fr:∀i h h',SI i h->(∀b o,b≠I->h.get? b=some o->h'.get? b=some o)->SI i h')
 (step:∀i v(s:ap)(Q:Bool->ap->Prop)(E:al->ap->Prop),items[i]? =some v->SI i s.heap->(∀b h' tk,SI (i+1) h'->aC S s.heap h'->Q b {s with heap:=h',toks:=tk})->wpAny (model prog w) A.in1 (setAdd S v) Q E s):
 ∀(k i:Nat)(s:ap),items.size-i=k->i<=items.size->(s.heap.IsListIter I l i/\s.heap.IsList l items)->SI i s.heap->
  (∀h' tk,SI items.size h'->(∀b o,b≠S->b≠I->s.heap.get? b=some o->h'.get? b=some o)->R (.ok (.ret .none)) {s with heap:=h',toks:=tk})->
  codeAny (model prog w) A (.builtin "set.update.loop" ⟨[.ref S,.ref I],[]⟩) R s:=by
 have W:=C9 (prog:=prog) (w:=w) (A:=A.in1) hh I l hlI items
 intro k
 induction k with
 |zero=>
  intro i s hk hi st si hR
  have bH:i=items.size:=by lia
  subst bH
  refine jA Qk (?_:wpAny _ _ _ _ _ _)
  rw[mF F2 _]
  refine bd (m:=pyNext (.ref I)) (W.done s _ _ st λh' tk kp=>(eg ?_:wpAny _ _ _ _ _ _))
  exact hR h' tk (fr _ _ _ si λb o hb e=>kp b o (λq=>hb (zn.mp q)) e) λb o _ hb e=>kp b o (λq=>hb (zn.mp q)) e
 |succ k ih=>
  intro i s hk hi st si hR
  have rc:i<items.size:=by lia
  refine jA Qk (?_:wpAny _ _ _ _ _ _)
  rw[mF F2 _]
  refine bd (m:=pyNext (.ref I)) (W.item i s _ _ rc st λv h1 tk hv st1 kp=>(?_:wpAny _ _ _ _ _ _))
  have si1:=fr _ _ _ si λb o hb e=>kp b o (λq=>hb (zn.mp q)) e
  refine bd (m:=holding [v] (setAdd S v)) (b_ (step i v _ _ _ hv si1 λ_ h2 tk2 si2 sb=>eg ⟨qv F2 _,ih (i+1) _ (by lia) rc (W.frame _ _ _ st1 λb hb o e=> ?_) si2 λh3 tk3 si3 kp3=> ?_⟩))
  .refine(sb.2 b λq=> ?_).trans e
   rcases wl.mp hb with z|z
   .exact hSI (q.symm.trans z)
   .exact hSl (q.symm.trans (zn.mp z))
  .exact hR h3 tk3 si3 λb o hb hbI e=>kp3 b o hb hbI ((sb.2 b hb).trans (kp b o (λq=>hbI (zn.mp q)) e))
theorem Zr{R:lL->ap->Prop}{S l:ac}{items:Array al}(hh:A.handled=none)(hl:s.heap.IsList l items)(gS:s.heap.get? S=some (KF #[] 0 (cR 0 0 (!Gt w))))(hSl:S≠l){SI:Nat->io->Prop}(h0:SI 0 s.heap)
 (fr:∀i h h',SI i h->(∀b o,b≠s.heap.objs.size->h.get? b=some o->h'.get? b=some o)->SI i h')
 (step:∀i v(s':ap)(Q:Bool->ap->Prop)(E:al->ap->Prop),items[i]? =some v->SI i s'.heap->(∀b h' tk,SI (i+1) h'->aC S s'.heap h'->Q b {s' with heap:=h',toks:=tk})->wpAny (model prog w) A.in1.in1 (setAdd S v) Q E s')
 (hR:∀h' tk,SI items.size h'->(∀b o,b≠S->s.heap.get? b=some o->h'.get? b=some o)->R (.ok (.ret .none)) {s with heap:=h',toks:=tk}):
 wpAny (model prog w) A.in1 (Builtin.«set.__init__» ⟨[.ref S,.ref l],[]⟩) (λfin s'=>match fin with|.done f=>R (.ok f) s'|.again c'=>c'.quiet=true/\codeAny (model prog w) A c' R s') (λe s'=>R (.error e) s') s:=by
 have hTl:s.TypeIs (.ref l) "list":=by
  obtain⟨ol,e1,e2,_⟩:=hl
  exact⟨ol,e1,e2⟩
 have hT:s.TypeIs (.ref S) "set":=⟨_,gS,rfl⟩
 have k0:=CH 0 0 (!Gt w)
 have rc:l<s.heap.objs.size:=by obtain⟨_,e,_⟩:=hl;exact FB e
 refine bd (m:=noKeywords "set" _) (eg ?_)
 refine bd (m:=typeNameOfCut 200 (.ref S)) ?_
 unfold typeNameOfCut shownTypeOf
 refine bd (bd (C_ hT ?_))
 rw[if_neg (by decide)]
 refine eg ?_
 show wpAny _ _ (pure _) _ _ _
 refine eg ?_
 show wpAny _ _ (pure () >>= _) _ _ _
 refine bd (eg (bd (m:=setUsed S) ?_))
 unfold setUsed
 refine bd (cK (es:= #[]) gS k0 (eg ?_))
 dsimp only
 refine dj (λz=>absurd z (show ¬((0 != 0)=true) by decide)) (λ_=> ?_)
 refine bd (m:=Qn "set.__init__" S (.ref l)) ?_
 unfold Qn pI
 refine bd (bd (mU hTl PySem.F.sub_list_set ?_))
 refine mU hTl PySem.F.sub_list_frozenset ?_
 rw[if_neg (by decide)]
 refine bd (C_ hTl ?_)
 rw[if_neg (by decide)]
 refine bd (An hl ?_)
 refine bd (wpAny_runValue ?_)
 refine aaO (A:=A.in1) (S:=S) (l:=l) (items:=items) (SI:=SI) hh (Ps rc) (Ps (FB gS)) hSl fr step (items.size-0) 0 _ rfl (SC _) ?_ ?_ λh' tk si kp=> ?_
 .exact⟨⟨_,Tl _ rfl,rfl,rfl⟩,hl.push _⟩
 .exact fr _ _ _ h0 λb o _ e=>P5 _ e
 show wpAny _ _ (pure ()) _ _ _
 refine eg ?_
 show wpAny _ _ (ret iP) _ _ _
 refine eg ?_
 exact hR h' tk si λb o hb e=>kp b o hb (Ps (FB e)) (P5 _ e)
end
end L2
namespace L2
open PySem PySem.Spec PyProof.Rows
section
variable{prog:lw}{w:li}{A:ww}{E:al->ap->Prop}{s:ap}
theorem Kk{l:ac}{items:Array al}{Q:al->ap->Prop}(hh:A.handled=none)(hl:s.heap.IsList l items){SI:Nat->io->Prop}
 (h0:∀h',(∀b o,s.heap.get? b=some o->h'.get? b=some o)->h'.get? s.heap.objs.size=some (KF #[] 0 (cR 0 0 (!Gt w)))->SI 0 h')
 (fr:∀i h h',SI i h->(∀b o,b≠s.heap.objs.size+1->h.get? b=some o->h'.get? b=some o)->SI i h')
 (step:∀i v(s':ap)(Q:Bool->ap->Prop)(E:al->ap->Prop),items[i]? =some v->SI i s'.heap->(∀b h' tk,SI (i+1) h'->aC s.heap.objs.size s'.heap h'->Q b {s' with heap:=h',toks:=tk})->wpAny (model prog w) A.in1.in1.in1 (setAdd s.heap.objs.size v) Q E s')
 (h:∀h' tk,SI items.size h'->(∀b o,s.heap.get? b=some o->h'.get? b=some o)->Q (.ref s.heap.objs.size) {s with heap:=h',toks:=tk}):
 wpAny (model prog w) A (call (.type "set") [.ref l]) Q E s:=by
 have tc:=PySem.F.called_set
 obtain⟨c,tl,adC⟩:=tc.mro
 have adA:=tc.made
 have OE:=tc.sub
 have rc:l<s.heap.objs.size:=by obtain⟨_,e,_⟩:=hl;exact FB e
 refine DX (codeAny_of_tree (?_:wpAny _ _ (callAny (.type "set") _) _ _ _))
 refine eg ⟨WX _ (by decide+kernel),jA PySem.F.entry_type_call (?_:wpAny _ _ _ _ _ _)⟩
 rw[Around.under_plain (weight_type_call_type "set" [.ref l] []) rfl]
 have n1:=tc.notType
 have n2:=tc.canCreate
 have n3:=PySem.F.typeCall_set_1 (.ref l)
 repeat(any_goals(first|assumption|wp_step))
 refine nL (R:=wants (λo s1=>o=.ref s.heap.objs.size/\s1={s with heap:=s.heap.push (KF #[] 0 (cR 0 0 (!Gt w)))}) E) ?_ λr s1 hr=> ?_
 .refine codeAny_of_tree (?_:wpAny _ _ (checkBuiltinCall "set.__new__" ⟨[.type "set",.ref l],[]⟩ >>= _) _ _ s)
  refine bd (Df (PySem.F.newCall_set_1 (.ref l)) (eg ⟨qv SX _,jA PySem.F.entry_set_new (?_:wpAny _ _ _ _ _ _)⟩))
  rw[mF SX _]
  refine bd (m:=Qp "set" ⟨[.type "set",.ref l],[]⟩) ?_
  unfold Qp
  have hs1:=M9
  wp_walk
  refine Kd (eg ?_)
  dsimp only
  simp only[newObj]
  exact bd (wpAny_alloc (eg (eg ⟨rfl,rfl⟩)))
 cases r with
 |error e=>exact hr
 |ok fl=>
  cases fl with
  |ret obj=>
   obtain⟨rfl,rfl⟩:=hr
   have gS:(s.heap.push (KF #[] 0 (cR 0 0 (!Gt w)))).get? s.heap.objs.size=some (KF #[] 0 (cR 0 0 (!Gt w))):=Tl _ rfl
   have hT:Shared.TypeIs {s with heap:=s.heap.push (KF #[] 0 (cR 0 0 (!Gt w)))} (.ref s.heap.objs.size) "set":=⟨_,gS,rfl⟩
   have i1:=tc.init.lookup
   have i2:=tc.init.bind (.ref s.heap.objs.size)
   repeat(any_goals(first|assumption|wp_step))
   refine nL (codeAny_call_builtin (R:=wants (λv s2=>v=.none/\∃h' tk,s2={s with heap:=h',toks:=tk}/\SI items.size h'/\(∀b o,s.heap.get? b=some o->h'.get? b=some o)) E) tc.init.plain PySem.F.entry_set_init (check_set_init_1 hT ?_)) λr2 s2 hr2=> ?_
   .refine Zr (A:=A.in1) hh (hl.push _) gS (nA rc) (h0 _ (λb o e=>P5 _ e) gS) (by rw[eL];exact fr) step λh' tk si kp=>⟨rfl,h',tk,rfl,si,λb o e=>kp b o (Ps (FB e)) (P5 _ e)⟩
   .cases r2 with
    |error e=>exact hr2
    |ok f2=>
     cases f2 with
     |ret v=>
      obtain⟨rfl,h',tk,rfl,si,kp⟩:=hr2
      repeat(any_goals(first|assumption|wp_step))
      exact h h' tk si kp
     |_=>exact hr2.elim
  |_=>exact hr.elim
end
end L2
namespace L2
open PySem PySem.Spec PyProof.Rows
theorem Xy{t:GT}{es:Array (Int×al)}(o:ST.aH t es.toList)(hr:t.fill+1<=t.mask)(h:Int)(x:al):
 ∃j wd,ST.jQ t h j/\(wd=true↔j∈t.dummies.toList)/\layNew t es h x=(iG es (t.put j).2 (h,x),(t.put j).1,wd,false):=by
 obtain⟨E',e1,e2,e3⟩:=o.ends h
 have key:∀d',ST.lX t h E' d'->t.probe (λ_=>h+1) h (t.probeStart h)=some (.empty (ST.path t.mask h E').j d')->
  ∃j wd,ST.jQ t h j/\(wd=true↔j∈t.dummies.toList)/\layNew t es h x=(iG es (t.put j).2 (h,x),(t.put j).1,wd,false):=by
  intro d' hd hp
  have main:∀j wd,ST.jQ t h j->(wd=true↔j∈t.dummies.toList)->t.freeSlot h=some (j,wd)->layNew t es h x=(iG es (t.put j).2 (h,x),(t.put j).1,wd,false):=by
   intro j wd tk xN hf
   have k:=(o.put tk (λ_=>hr) x).1.fits
   unfold layNew
   rw[hf]
   dsimp only
   unfold SetTable.orStandIn
   rw[k]
   rfl
  cases d' with
  |none=>
   have hf:t.freeSlot h=some ((ST.path t.mask h E').j,false):=by
    unfold Vl;rw[hp];rfl
   refine⟨_,false,ST.Cp o e2 e3,⟨λe=>(nomatch e),λe=>absurd (hU e) e2⟩,?_⟩
   exact main _ _ (ST.Cp o e2 e3) ⟨λe=>(nomatch e),λe=>absurd (hU e) e2⟩ hf
  |some d=>
   have hf:t.freeSlot h=some (d,true):=by
    unfold Vl;rw[hp];rfl
   have tk:=ST.Jm o e3 (d:=0) hd
   have Pf:=((ST.BJ o.pr o.dr).mp (hd d rfl).1).2
   exact⟨d,true,tk,⟨λ_=>Pf,λ_=>rfl⟩,main _ _ tk ⟨λ_=>Pf,λ_=>rfl⟩ hf⟩
 rcases ST.vX o (λ_=>h+1) e2 e3 (10*Al t.mask) 0 none (SC _) (by lia) (λx hx=>nomatch hx)with⟨q,i,d',a1,a2,a3,a4,_⟩|⟨d',a5,a6,a7⟩
 .exact absurd a4 (by lia)
 .rw[<-ST.KD]at a7
  exact key d' a5 a7
theorem U9{t:GT}{es:Array (Int×al)}{wanted:Nat}(hw:wanted<512)(hn:2*es.size<=wanted):
 ∃es' t',relayAll t es wanted=(es',t',false)/\es'.toList.Perm es.toList/\ST.aH t' es'.toList/\t'.plain=t.plain/\t'.led=t.led/\t'.fill*5<t'.mask*3:=by
 obtain⟨s1,s2,s3⟩:=DQ hw
 obtain⟨place,order,e1,e2⟩:=ST.Dt s1 t.finger (t.movedTo (df wanted-1)) t.led t.plain es (by lia)
 have e3:t.relaid (es.map (·.1)) wanted=some ({mask:=df wanted-1,place,dummies:= #[],finger:=t.finger,led:=t.led,moves:=t.movedTo (df wanted-1),plain:=t.plain},order):=e1
 have hp:=ST.vF e2
 have ok:=ST.DB (fg:=t.finger) (mv:=t.movedTo (df wanted-1)) (ld:=t.led) (pl:=t.plain) s1 (by lia) e2
 have ac5:coversAll order es.size=true:=List.isPerm_iff.mpr e2.perm
 refine⟨_,_,?_,hp,ok,rfl,rfl,?_⟩
 .unfold relayAll
  rw[e3]
  dsimp only
  rw[ac5,ok.fits]
  rfl
 .have hl:=ok.len
  rw[hp.length_eq,wr,wr]at hl
  simp only at hl
  have h7:7<=df wanted-1:=by unfold ST.bD at s1;lia
  unfold uN
  simp only
  rw[hl]
  simp
  lia
section
variable{prog:lw}{w:li}{A:ww}{E:al->ap->Prop}{s:ap}{a:ac}{es:Array (Int×al)}{ep:Nat}{t:GT}{xs:List (Int×Tok)}
noncomputable def oV(prog:lw)(w:li)(p:Int×Tok):Int×al:=((intKind prog w).hash p.1,.int p.1 p.2)
structure jX (prog:lw) (w:li) (h:io) (a:ac) (es:Array (Int×al)) (ep:Nat) (t:GT) (xs:List (Int×Tok)):Prop where
 at_:h.get? a=some (KF es ep t)
 ok:dz (Gt w) es t
 eq:es.toList=xs.map (oV prog w)
 nd:(xs.map (·.1)).Nodup
theorem jX.size{h:io}(k:jX prog w h a es ep t xs):es.size=xs.length:=by
 have:=congrArg dm k.eq
 rwa [wr,dL]at this
theorem jX.elems{h:io}(k:jX prog w h a es ep t xs):ElemsOf (intKind prog w) es.toList:=by
 intro e he
 rw[k.eq]at he
 obtain⟨p,_,rfl⟩:=nw.mp he
 exact⟨⟨p.1,jJ _ _ _ _,rfl⟩,rfl⟩
theorem abU(k:jX prog w s.heap a es ep t xs){n:Int}{tk:Tok}(hl:xs.length+1<=100){Q:Bool->ap->Prop}
 (h:∀b h' es' ep' t' xs',aC a s.heap h'->jX prog w h' a es' ep' t' xs'->(∀c,c∈xs'.map (·.1)↔c∈xs.map (·.1)\/c=n)->xs'.length<=xs.length+1->Q b {s with heap:=h'}):
 wpAny (model prog w) A (setAddHashed a (.int n tk) ((intKind prog w).hash n)) Q E s:=by
 have me:=k.elems
 have hsz:=k.size
 obtain⟨ho,ok,eq,nd⟩:=k
 unfold setAddHashed setAddHashedIn
 refine b_ (bd (cK ho ok.ok ?_))
 dsimp only
 have hsb:es.size<scanBound:=by unfold scanBound;lia
 rw[byScan_of (knd:=intKind prog w) rfl hsb me,if_pos rfl]
 unfold setAddByScan
 refine bd (bd (wpAny_rule (bd (wpAny_setScan_of (knd:=intKind prog w) (jJ _ _ _ _) ho rfl ok.ok.fits me ?_))))
 have Pn:∀p:Int×Tok,(intKind prog w).is n (oV prog w p).2=true↔p.1=n:=λp=>⟨λq=>(intKind prog w).inj _ _ _ (jJ _ _ _ _) q,λq=>q▸jJ _ _ _ _⟩
 cases hr:List.findIdx? (λe=>(intKind prog w).is n e.2) es.toList with
 |some j=>
  dsimp only
  refine eg (eg (h _ s.heap es ep t xs (jv ..) ⟨ho,ok,eq,nd⟩ (λc=>⟨.inl,λq=>q.elim id λe=> ?_⟩) (gg _)))
  obtain⟨hj,iu,_⟩:=List.findIdx?_eq_some_iff_getElem.mp hr
  have hm:es.toList[j]∈xs.map (oV prog w):=by rw[<-eq];exact f6 hj
  obtain⟨p,hp,e2⟩:=nw.mp hm
  rw[<-e2]at iu
  rw[e,<-(Pn p).mp iu]
  exact nw.mpr ⟨p,hp,rfl⟩
 |none=>
  dsimp only
  have hn:n∉xs.map (·.1):=λhm=>by
   obtain⟨p,hp,e⟩:=nw.mp hm
   have:=List.findIdx?_eq_none_iff.mp hr (oV prog w p) (by rw[eq];exact nw.mpr ⟨p,hp,rfl⟩)
   rw[(Pn p).mpr e]at this
   cases this
  have Ey:=ok.room
  have h7:7<=t.mask:=by have:=ok.ok.jo;unfold ST.bD at this;lia
  obtain⟨j,wd,tk1,xN,E3⟩:=Xy ok.ok (by lia) ((intKind prog w).hash n) (.int n tk)
  rw[E3]
  dsimp only
  obtain⟨k1,k2⟩:=ok.ok.put tk1 (λ_=>by lia) (.int n tk)
  have hp1:(t.put j).1.plain=true:=ok.plain
  have hl1:(t.put j).1.led= !Gt w:=ok.led
  have hm1:(t.put j).1.mask=t.mask:=rfl
  have hsz2:(iG es (t.put j).2 ((intKind prog w).hash n,eO n tk)).size=es.size+1:=ST.n9 ..
  refine bd ?_
  show wpAny _ _ (pure ()) _ _ _
  refine eg ?_
  rw[hp1,if_pos rfl]
  refine bd ?_
  show wpAny _ _ (pure true) _ _ _
  refine eg ?_
  rw[if_pos rfl]
  refine bd (k8 ho (by rw[hsz2];lia) λh1 hs1 hg1=> ?_)
  have eq1:(iG es (t.put j).2 ((intKind prog w).hash n,eO n tk)).toList=(xs.take (t.put j).2++(n,tk)::xs.drop (t.put j).2).map (oV prog w):=by
   rw[Ri,eq,GM,FS,uZ,uY];rfl
  have jR:(xs.take (t.put j).2++(n,tk)::xs.drop (t.put j).2).Perm ((n,tk)::xs):=by
   refine zE.trans ?_
   rw[yk]
  generalize xs.take (t.put j).2++(n,tk)::xs.drop (t.put j).2=xs1 at eq1 jR
  have fin:∀h' es' ep' t'(xs':List (Int×Tok)),aC a s.heap h'->h'.get? a=some (KF es' ep' t')->dz (Gt w) es' t'->es'.toList=xs'.map (oV prog w)->xs'.Perm xs1->Q true {s with heap:=h'}:=λh' es' ep' t' xs' q1 q2 q3 q5 q6=>by
   have q4:=q6.trans jR
   refine h _ h' es' ep' t' xs' q1 ⟨q2,q3,q5,?_⟩ (λc=> ?_) (by rw[q4.length_eq];simp)
   .exact(q4.map (·.1)).nodup_iff.mpr (gJ.mpr ⟨hn,nd⟩)
   .rw[(q4.map (·.1)).mem_iff,FS,wl]
    exact or_comm
  refine dj (λhc=> ?_) (λhc=> ?_)
  .have FE:mZ (iG es (t.put j).2 ((intKind prog w).hash n,eO n tk)).size=(es.size+1)*4:=by rw[hsz2];unfold mZ;rw[if_neg (by lia)]
   rw[FE]
   obtain⟨es2,t2,e2,p2,ok2,pl2,ld2,rm2⟩:=U9 (t:=(t.put j).1) (es:=iG es (t.put j).2 ((intKind prog w).hash n,eO n tk)) (wanted:=(es.size+1)*4) (by lia) (by rw[hsz2];lia)
   rw[e2]
   dsimp only
   have hsz3:es2.size=es.size+1:=by
    have:=p2.length_eq
    rwa [wr,wr,hsz2]at this
   refine bd ?_
   show wpAny _ _ (pure ()) _ _ _
   refine eg ?_
   refine bd (k8 (s:={s with heap:=h1}) hg1 (by lia) λh2 hs2 hg2=>eg (eg ?_))
   obtain⟨xs2,q1,q2⟩:=gL p2 eq1
   exact fin h2 es2 _ t2 xs2 (hs1.trans hs2) hg2 ⟨ok2,by rw[pl2];exact hp1,by rw[ld2];exact hl1,rm2,by lia⟩ q2 q1
  .refine eg (eg ?_)
   refine fin h1 _ _ _ xs1 hs1 hg1 ⟨k1,hp1,hl1,?_,by rw[hsz2];lia⟩ eq1 (.refl _)
   rw[k2,hm1]
   split
   .exact Ey
   .rename_i mh
    have su:wd=false:=by
     cases wd with
     |false=>rfl
     |true=>exact absurd (xN.mp rfl) mh
    rw[su]at hc
    unfold Vt at hc
    rw[k2,if_neg mh,hm1]at hc
    simp at hc
    lia
end
end L2
namespace L2
open PySem PySem.Spec PyProof.Rows
theorem R9:entryFor table "set.__sub__"=some Builtin.«frozenset.__sub__»:=
 L9 (id':="frozenset.__sub__") (by kernel_rfl) rfl (by decide+kernel) (by kernel_rfl)
def Nb(w:li)(a:ac)(ns:List Int)(h:io):Prop:=ns.length<=60/\∃prog es ep t xs,jX prog w h a es ep t xs/\∀y,y∈xs.map (·.1)↔y∈ns
noncomputable def lB(w:li)(a:ac)(ns:List Int):HO:=.ext (Nb w a ns)
def Nc(prog:lw)(w:li)(a:ac)(zs:List (ac×List Int))(h:io):Prop:=∃es ep t,h.get? a=some (KF es ep t)/\dz (Gt w) es t/\es.toList=zs.map (ent prog w)/\(zs.map (·.2)).Nodup
noncomputable def bg(prog:lw)(w:li)(a:ac)(zs:List (ac×List Int)):HO:=.ext (Nc prog w a zs)
theorem Zq{P:lw}{w w':li}{H:Hp}{h:io}{a:ac}{ns:List Int}(k:Nb w a ns h):aA P w' H h a (lB w a ns):=by
 have k':=k
 obtain⟨_,prog,es,ep,t,xs,k1,k2⟩:=k'
 refine⟨k,⟨_,k1.at_⟩,?_⟩
 rintro h1 h2 ⟨q0,prog,es,ep,t,xs,q1,q2⟩ kp
 exact⟨q0,prog,es,ep,t,xs,⟨kp _ q1.at_,q1.ok,q1.eq,q1.nd⟩,q2⟩
theorem LX{P prog:lw}{w w':li}{H:Hp}{h:io}{a:ac}{zs:List (ac×List Int)}(k:Nc prog w a zs h):aA P w' H h a (bg prog w a zs):=by
 have k':=k
 obtain⟨es,ep,t,k1,k2,k3,k4⟩:=k'
 refine⟨k,⟨_,k1⟩,?_⟩
 rintro h1 h2 ⟨es,ep,t,q1,q2,q3,q4⟩ kp
 exact⟨es,ep,t,kp _ q1,q2,q3,q4⟩
def N6(K:ge)(w:li):List V->Hp->VK->Prop:=λvs H Q=>∃(a:ac)(ns:List Int),vs=[.ref a]/\aa K H a (ns.map V.int)/\ns.length<=60/\∀p,H p=none->Q (.ref p) (upd H p (lB w p ns))
def XY(w:li):List V->Hp->VK->Prop:=λvs H Q=>∃(p:ac)(ns:List Int),vs=[.ref p]/\H p=some (lB w p ns)/\
 ∀(ms:List Int)(q:ac),ms.Pairwise (·<·)->(∀y,y∈ms↔y∈ns)->H q=none->Q (.ref q) (upd H q (.lst (ms.map V.int)))
def ED(K:ge)(P:lw)(w:li):List V->Hp->VK->Prop:=λvs H Q=>∃(a:ac)(zs:List (ac×List Int)),vs=[.ref a]/\aa K H a (zs.map λz=>V.ref z.1)/\(∀z∈zs,PP H z)/\zs.length<=100/\
 ∀(p:ac)(ys:List (ac×List Int)),H p=none->(∀z∈ys,z∈zs)->(∀c,c∈ys.map (·.2)↔c∈zs.map (·.2))->(ys.map (·.2)).Nodup->Q (.ref p) (upd H p (bg P w p ys))
def N7(P:lw)(w:li):R2:=λx y H Q=>∃(p q:ac)(zs zb:List (ac×List Int)),x=.ref p/\y=.ref q/\H p=some (bg P w p zs)/\H q=some (bg P w q zb)/\(∀z∈zs,PP H z)/\(∀z∈zb,PP H z)/\
 ∀(r:ac)(ys:List (ac×List Int)),H r=none->(∀z∈ys,z∈zs)->(∀c,c∈ys.map (·.2)↔c∈zs.map (·.2)/\c∉zb.map (·.2))->(ys.map (·.2)).Nodup->Q (.ref r) (upd H r (bg P w r ys))
def KH(P:lw)(w:li):List V->Hp->VK->Prop:=λvs H Q=>∃(p:ac)(zs:List (ac×List Int)),vs=[.ref p]/\H p=some (bg P w p zs)/\(∀z∈zs,PP H z/\z.2≠[])/\
 ∀(ys:List (ac×List Int))(q:ac),ys.Perm zs->ys.Pairwise (λx y=>HT.lexLt y.2 x.2=false)->H q=none->Q (.ref q) (upd H q (.lst (ys.map λz=>V.ref z.1)))
section
variable{X:Cx}{pins:List (ac×Obj)}{σ:St}{H:Hp}{s:ap}
theorem Lw{P:lw}{w:li}:∀{ns:List Int}{ci:List al},Vals (ns.map V.int) ci->ItemsAre (intKind P w) ns ci
 |[],_,r=>by cases r;exact .nil
 |n::ns,_,r=>by
  cases r with
  |cons h t=>
   obtain⟨tk,rfl⟩:=h
   exact .cons (jJ _ _ _ _) (Lw t)
theorem EI(I:Inv X pins σ H s){z:ac×List Int}(h:PP H z):TK X.prog X.w s.heap z:=by
 obtain⟨ci,rv,⟨o,ho,hc,n,hd⟩,_⟩:=I.tuple (P3.of (K:=X.K) h)
 exact⟨o,ci.toArray,n,ho,hc,hd,by simpa using Lw rv⟩
theorem DP(I:Inv X pins σ H s){p:ac}{zs:List (ac×List Int)}(h:H p=some (bg X.prog X.w p zs))(ht:∀z∈zs,PP H z):∃es ep t,SetT X.prog X.w s.heap p es ep t zs:=by
 obtain⟨⟨es,ep,t,k1,k2,k3,k4⟩,_⟩:=I.ab p _ h
 exact⟨es,ep,t,k1,k2,⟨k3,λz hz=>EI I (ht z hz),k4⟩⟩
theorem aav(hc:X.calm=true)(hu:X.A.units+2<cLine):aM X (binaryOp .Sub) (N7 X.prog X.w):=by
 intro pins s σ H x y v u Q I rx ry h
 obtain⟨p,q,zs,zb,rfl,rfl,hp,hq,tp,tq,k⟩:=h
 cases rx
 cases ry
 obtain⟨ea,epa,ta,ka⟩:=DP I hp tp
 obtain⟨eb,j6,tb,kb⟩:=DP I hq tq
 have T1:s.TypeIs (.ref p) "set":=⟨_,ka.at_,rfl⟩
 have T2:s.TypeIs (.ref q) "set":=⟨_,kb.at_,rfl⟩
 refine wpAny_binaryOp_same T1 T2 PySem.F.fills_set_sub Ud (jz Ud T1 R9 ?_ (PySem.F.args_set_sub_2 _ _))
 refine bd (m:=Builtin.Frozenset.slot1 "__sub__" _) (bd (eg (eg ?_)))
 show wpAny _ _ ((pI (.ref p)<&&>pI (.ref q)) >>= _) _ _ _
 refine bd (bd (wH ka.at_ ?_))
 show wpAny _ _ (pI (.ref q)) _ _ _
 refine wH kb.at_ ?_
 rw[if_neg (by decide)]
 refine bd (eg (bd ?_))
 refine abV (A:=X.A.in1) ka kb (Nat.lt_of_succ_lt hu) λh' es' ep' t' zs' kp kr f1 f2=> ?_
 refine eg ⟨_,rfl,(λe=>nomatch e),.ref s.heap.objs.size,upd H s.heap.objs.size (bg X.prog X.w s.heap.objs.size zs'),I.laid (t':=s.toks) kp (nn _) (LX ⟨es',ep',t',kr.at_,kr.ok,kr.tup.eq,kr.tup.nd⟩),rfl,k _ zs' (I.ab.fresh (nn _)) f1 f2 kr.tup.nd⟩
theorem KQ{prog:lw}{w:li}{A:ww}{E:al->ap->Prop}{s:ap}{a:ac}{es:Array (Int×al)}{ep:Nat}{t:GT}{Q:al->ap->Prop}(hh:A.handled=none)(ho:s.heap.get? a=some (KF es ep t))(k:dz (Gt w) es t)
 (h:∀(h1:io)(tk:Nat),(∀b o,s.heap.get? b=some o->h1.get? b=some o)->s.heap.objs.size<h1.objs.size->
   wpAny (model prog w) A.in1.in1 (Builtin.«list.sort» ⟨[.ref h1.objs.size],[]⟩) (λf s'=>f=.done (.ret .none)/\Q (.ref h1.objs.size) s') E {s with heap:=h1.push (seqObj "list" (cM w a ep es).toArray 0),toks:=tk}):
 wpAny (model prog w) A (call (.builtin "sorted") [.ref a]) Q E s:=by
 refine Calls.call_function_entry kind_sorted plain_sorted entry_sorted (args_sorted1 _) ?_
 unfold Builtin.«sorted»
 have hlen:(cM w a ep es).length<=sizeLine:=by
  unfold cM
  have:=k.e_
  rw[dL,wr,vq,bu];lia
 refine bd (m:=checkCount "sorted" 1 1 _) (eg (bd (VS (A:=A.in1) hh ho k λh1 tk kp hle=>bd (Ct (hsz:=hlen) ?_))))
 have hg:(h1.push (seqObj "list" (cM w a ep es).toArray 0)).get? h1.objs.size=some (seqObj "list" (cM w a ep es).toArray 0):=Tl _ rfl
 refine bd (b_ (jz slot_list_sort ⟨_,hg,rfl⟩ entry_list_sort ?_ (args_list_sort _)))
 refine cE (h h1 tk kp hle) (λf s' q=> ?_) (λ_ _ q=>q)
 obtain⟨rfl,q⟩:=q
 exact⟨_,rfl,eg ⟨_,rfl,q⟩⟩
end
end L2
namespace L2
open PySem PySem.Spec PyProof.Rows
section
variable{X:Cx}
theorem Xr{prog:lw}{w:li}:∀{l:List al}{xs:List (Int×Tok)},l.Perm (xs.map λp=>eO p.1 p.2)->∃ns,dU l ns/\ns.Perm (xs.map (·.1)):=by
 intro l xs h
 obtain⟨ys,p,e⟩:=gL h rfl
 subst e
 refine⟨ys.map (·.1),?_,p.map _⟩
 clear h p
 induction ys with
 |nil=>exact .nil
 |cons y ys ih=>exact .cons y.1 y.2 ih
theorem L6:∀{l:List al}{ns:List Int},dU l ns->Vals (ns.map V.int) l
 |_,_,.nil=>.nil
 |_,_,.cons n t h=>.cons ⟨t,rfl⟩ (L6 h)
theorem k7{α:Type}[DecidableEq α]:∀{l m:List α},l.Nodup->(∀x∈l,x∈m)->l.length<=m.length
 |[],_,_,_=>SC _
 |x::l,m,d,h=>by
  obtain⟨d1,d2⟩:=gJ.mp d
  have hx:=h x Go
  have:=k7 (l:=l) (m:=m.erase x) d2 λy hy=>(Vp (by intro e;subst e;exact d1 hy)).mpr (h y (AT _ hy))
  rw[SU hx]at this
  have:=GU hx
  simp only[Os];lia
theorem G2:∀{ns:List Int},ns.Pairwise (·<=·)->ns.Nodup->ns.Pairwise (·<·)
 |[],_,_=>.nil
 |n::ns,h,d=>by
  obtain⟨h1,h2⟩:=be.mp h
  obtain⟨d1,d2⟩:=gJ.mp d
  refine be.mpr ⟨λm hm=> ?_,G2 h2 d2⟩
  have:=h1 m hm
  have:n≠m:=λe=>d1 (e▸hm)
  lia
theorem AD(hc:X.calm=true):ak X (.builtin "sorted") (XY X.w):=by
 intro pins s σ H vs us Q I r h
 obtain⟨p,ns,rfl,hp,q⟩:=h
 rw[Vals.d4 r]
 obtain⟨⟨hlen,prog,es,ep,t,xs,k,km⟩,_⟩:=I.ab p _ hp
 have cy:(cM X.w p ep es).Perm (xs.map λp=>eO p.1 p.2):=by
  refine(J4 X.w p ep es).trans ?_
  rw[k.eq,P6]
  exact .refl _
 obtain⟨ms,m1,m2⟩:=Xr (prog:=prog) (w:=X.w) cy
 have hl64:(cM X.w p ep es).length<64:=by
  have h1:=k7 k.nd λx hx=>(km x).mp hx
  rw[dL]at h1
  rw[cy.length_eq,dL];lia
 refine KQ (I.ok.hd hc) k.at_ k.ok λh1 tk kp hle=> ?_
 have hg:(h1.push (seqObj "list" (cM X.w p ep es).toArray 0)).get? h1.objs.size=some (seqObj "list" (cM X.w p ep es).toArray 0):=Tl _ rfl
 refine list_sort_tree (s:={s with heap:=h1.push (seqObj "list" (cM X.w p ep es).toArray 0),toks:=tk}) hg m1 hl64 λout ns' a1 a2 a3=>⟨rfl,?_⟩
 obtain⟨c,hc2⟩:=sortedHeap_at (out:=out) hg
 have hold:∀b o,s.heap.get? b=some o->(sortedHeap (h1.push (seqObj "list" (cM X.w p ep es).toArray 0)) h1.objs.size (cM X.w p ep es) out).get? b=some o:=λb o e=>by
  have rc:=FB (kp b o e)
  rw[sortedHeap_old (Ps rc) (by rw[wa];exact iI rc)]
  exact P5 _ (kp b o e)
 have pD:=a2.trans m2
 have jj:ns'.Nodup:=pD.nodup_iff.mpr k.nd
 have hlen2:(ns'.map V.int).length<=sizeLine:=by
  have h1:=pD.length_eq
  have h2:=k.size
  have h3:=k.ok.e_
  rw[dL]at h1⊢
  rw[bu];lia
 exact⟨.ref _,upd H h1.objs.size (.lst (ns'.map V.int)),I.laid (t':=tk) hold (TW hle) ⟨hlen2,out.toList,c,L6 a1,by simpa using hc2⟩,rfl,q ns' _ (G2 a3 jj) (λy=>by rw[pD.mem_iff];exact km y) (I.ab.fresh (TW hle))⟩
theorem Uy(hc:X.calm=true):ak X (.builtin "sorted") (KH X.prog X.w):=by
 intro pins s σ H vs us Q I r h
 obtain⟨p,zs,rfl,hp,ht,q⟩:=h
 rw[Vals.d4 r]
 obtain⟨es,ep,t,k⟩:=DP I hp λz hz=>(ht z hz).1
 have cy:(cM X.w p ep es).Perm (zs.map λz=>im z.1):=by
  refine(J4 X.w p ep es).trans ?_
  rw[k.tup.eq,P6]
  exact .refl _
 obtain⟨zw,pw,ew⟩:=gL cy rfl
 have xK:∀z∈zw,PP H z/\z.2≠[]:=λz hz=>ht z (pw.mem_iff.mp hz)
 have hlen:zw.length<=100:=by
  have h1:=k.tup.size
  have h2:=k.ok.e_
  rw[pw.length_eq];lia
 refine KQ (I.ok.hd hc) k.at_ k.ok λh1 tk kp hle=> ?_
 rw[ew]
 have hg:(h1.push (seqObj "list" (zw.map λz=>im z.1).toArray 0)).get? h1.objs.size=some (seqObj "list" (zw.map λz=>im z.1).toArray 0):=Tl _ rfl
 have kp2:∀b o,s.heap.get? b=some o->(h1.push (seqObj "list" (zw.map λz=>im z.1).toArray 0)).get? b=some o:=λb o e=>P5 _ (kp b o e)
 have I2:Inv X pins σ H {s with heap:=h1.push (seqObj "list" (zw.map λz=>im z.1).toArray 0),toks:=tk}:=I.kept kp2
 obtain⟨fs,dC⟩:=vp I2 xK
 have hk:∀v,v∈(zw.map λz=>im z.1)->∃l,qN (h1.push (seqObj "list" (zw.map λz=>im z.1).toArray 0)) cP v=some l:=λv hv=>by
  obtain⟨z,hz,rfl⟩:=nw.mp hv
  exact⟨_,(lq I2 (xK z hz).1 (xK z hz).2).1⟩
 have FJ:(zw.map λz=>im z.1).length<=sizeLine:=by rw[dL,bu];lia
 refine G.list_sort_tups (s:={s with heap:=h1.push (seqObj "list" (zw.map λz=>im z.1).toArray 0),toks:=tk}) hg dC hk FJ λst' hp' sj _=>⟨rfl,?_⟩
 obtain⟨c,hc2⟩:=sortedHeap_at (out:=(arrOf st').map (·.2)) hg
 have hold:∀b o,s.heap.get? b=some o->(sortedHeap (h1.push (seqObj "list" (zw.map λz=>im z.1).toArray 0)) h1.objs.size (zw.map λz=>im z.1) ((arrOf st').map (·.2))).get? b=some o:=λb o e=>by
  have rc:=FB (kp b o e)
  rw[sortedHeap_old (Ps rc) (by rw[wa];exact iI rc)]
  exact kp2 b o e
 have hp2:(arrOf st').toList.Perm (zw.map λz=>(im z.1,im z.1)):=by
  have e1:(pairsOf (zw.map λz=>im z.1)).toList=zw.map λz=>(im z.1,im z.1):=by
   rw[pairsOf_toList,List.zip_map']
  rw[<-e1]
  exact hp'.toList
 obtain⟨ys,hy,ey⟩:=gL hp2 rfl
 have eo:((arrOf st').map (·.2))=(ys.map λz=>im z.1).toArray:=by
  apply zy.mp
  rw[zA,ey,P6]
  rfl
 have jl:∀z∈ys,PP H z/\z.2≠[]:=λz hz=>xK z (hy.mem_iff.mp hz)
 have oY:ys.Pairwise (λx y=>HT.lexLt y.2 x.2=false):=by
  rw[sW]
  intro i j hi hj d8
  have hsz:(pairsOf (zw.map λz=>im z.1)).size=ys.length:=by rw[pairsOf_size,dL,hy.length_eq]
  have q1:=sj i j (TW d8) (by rw[hsz];exact hj)
  have kk:∀m(hm:m<ys.length),KK (nU (h1.push (seqObj "list" (zw.map λz=>im z.1).toArray 0)) cP) (arrOf st') m=(ys[m].2.map EQ):=λm hm=>by
   have e1:(arrOf st')[m]? =some (im ys[m].1,im ys[m].1):=by
    rw[<-de,ey,wP,wS hm]
    rfl
   unfold KK
   rw[e1]
   show((qN _ cP (.ref ys[m].1)).getD [])=_
   rw[(lq I2 (jl _ (f6 hm)).1 (jl _ (f6 hm)).2).1]
   rfl
  rw[kk i hi,kk j hj]at q1
  have q2:s_ itemOrd (ys[j].2.map EQ) (ys[i].2.map EQ)=false:=q1
  rw[vR]at q2
  exact q2
 rw[eo]at hc2 hold⊢
 have hlen2:(ys.map λz=>V.ref z.1).length<=sizeLine:=by rw[dL,hy.length_eq,bu];lia
 exact⟨.ref _,upd H h1.objs.size (.lst (ys.map λz=>V.ref z.1)),I.laid (t':=tk) hold (TW hle) ⟨hlen2,_,c,vK ys,hc2⟩,rfl,q ys _ (hy.trans pw) oY (I.ab.fresh (TW hle))⟩
theorem R7(hc:X.calm=true):ak X (.type "set") (N6 X.K X.w):=by
 intro pins s σ H vs us Q I r h
 obtain⟨a,ns,rfl,hs,hlen,q⟩:=h
 obtain⟨ci,rv,hl,hz⟩:=I.list hs
 rw[Vals.d4 r]
 have Pk:=rv.ints
 have a_:ci.length=ns.length:=by
  have:=IntsAre.length Pk
  lia
 refine Kk (items:=ci.toArray) (SI:=λi h'=>∃es ep t xs,jX X.prog X.w h' s.heap.objs.size es ep t xs/\(∀c,c∈xs.map (·.1)↔c∈ns.take i)/\xs.length<=i) (I.ok.hd hc) hl.isList (λh' kp hg=> ?_) (λi h h'=> ?_) (λi v s' Q' E' hv=> ?_) λh' tk=> ?_
 .exact⟨#[],0,_,[],⟨hg,⟨CH 0 0 _,rfl,rfl,(show 0*5<7*3 by decide),SC _⟩,rfl,.nil⟩,λc=>by simp,nn _⟩
 .rintro⟨es,ep,t,xs,k,k2,k3⟩ kp
  exact⟨es,ep,t,xs,⟨kp _ _ (Ps (uk _)) k.at_,k.ok,k.eq,k.nd⟩,k2,k3⟩
 .rintro⟨es,ep,t,xs,k,k2,k3⟩ hq
  have hil2:i<ci.length:=by
   have:=(xX.mp hv).1
   simpa using this
  obtain⟨tk,rfl⟩:=IntsAre.int_at Pk i v (by simpa using hv)
  unfold setAdd
  refine b_ (bd ((intKind X.prog X.w).pyHash (k:=ns.getD i 0) (jJ _ _ _ _) ?_))
  refine abU (s:={s' with toks:=s'.toks+1}) k (by lia) λb h' es' ep' t' xs' sb k' f1 f2=> ?_
  refine hq b h' _ ⟨es',ep',t',xs',k',λc=> ?_,by lia⟩ sb
  rw[f1,k2]
  have ml:ns[i]? =some (ns.getD i 0):=by
   rw[Sc,wS (by lia)];rfl
  rw[Kb,ml]
  simp
 .rintro⟨es,ep,t,xs,k,k2,k3⟩ kp
  have e1:ns.take ci.toArray.size=ns:=ki (by simp;lia)
  rw[e1]at k2
  exact⟨.ref _,_,I.laid (t':=tk) kp (nn _) (Zq ⟨hlen,X.prog,es,ep,t,xs,k,k2⟩),rfl,q _ (I.ab.fresh (nn _))⟩
theorem R8(hc:X.calm=true)(hu:X.A.units+4<cLine):ak X (.type "set") (ED X.K X.prog X.w):=by
 intro pins s σ H vs us Q I r h
 obtain⟨a,zs,rfl,hs,ht,hlen,q⟩:=h
 obtain⟨ci,rv,hl,hz⟩:=I.list hs
 rw[Vals.d4 r]
 have ei:=kZ rv
 subst ei
 refine Kk (items:=(zs.map λz=>im z.1).toArray) (SI:=λi h'=>(∀z∈zs,TK X.prog X.w h' z)/\∃es ep t ys,SetT X.prog X.w h' s.heap.objs.size es ep t ys/\(∀z∈ys,z∈zs)/\(∀c,c∈ys.map (·.2)↔c∈(zs.take i).map (·.2))/\ys.length<=i) (I.ok.hd hc) hl.isList (λh' kp hg=> ?_) (λi h h'=> ?_) (λi v s' Q' E' hv=> ?_) λh' tk=> ?_
 .exact⟨λz hz=>wG (EI I (ht z hz)) (λo e=>kp _ o e),#[],0,_,[],Kq hg,λz hz=>(nomatch hz),λc=>by simp,nn _⟩
 .rintro⟨hz1,es,ep,t,ys,k,k1,k2,k3⟩ kp
  have bn:∀z∈zs,z.1≠s.heap.objs.size+1:=λz hz=>by
   obtain⟨o,_,_,e,_⟩:=EI I (ht z hz)
   exact Ps (iI (FB e))
  exact⟨λz hz=>wG (hz1 z hz) (λo e=>kp _ o (bn z hz) e),es,ep,t,ys,⟨kp _ _ (Ps (uk _)) k.at_,k.ok,k.tup.kept λz hz o e=>kp _ o (bn z (k1 z hz)) e⟩,k1,k2,k3⟩
 .rintro⟨hz1,es,ep,t,ys,k,k1,k2,k3⟩ hq
  have hil2:i<zs.length:=by
   have:=(xX.mp hv).1
   simpa using this
  have ev:v=.ref zs[i].1:=by
   rw[kn,wP,wS hil2]at hv
   exact(TD hv).symm
  subst ev
  have hz2:=hz1 zs[i] (f6 hil2)
  unfold setAdd
  refine b_ (bd ((tupleKind (intKind X.prog X.w)).pyHash (k:=zs[i].2) (show X.A.units+3<cLine by lia) hz2 ?_))
  refine NG (s:={s' with toks:=s'.toks+_}) k (x:=zs[i].1) (ns:=zs[i].2) hz2 (show X.A.units+3<cLine by lia) (by lia) λb h' es' ep' t' ys' sb k' f0 f1 f2=> ?_
  refine hq b h' _ ⟨λz hz=>ox (hz1 z hz) k.at_ sb,es',ep',t',ys',k',λz hz=>(f0 z hz).elim (k1 z) λe=>e▸f6 hil2,λc=> ?_,by lia⟩ sb
  rw[f1,k2,show zs.take (i+1)=zs.take i++[zs[i]] by rw[Kb,wS hil2];rfl,GM,NE]
  simp only[FS,gO,zn]
 .rintro⟨hz1,es,ep,t,ys,k,k1,k2,k3⟩ kp
  have e1:zs.take (zs.map λz=>im z.1).toArray.size=zs:=ki (by simp)
  rw[e1]at k2
  exact⟨.ref _,_,I.laid (t':=tk) kp (nn _) (LX ⟨es,ep,t,k.at_,k.ok,k.tup.eq,k.tup.nd⟩),rfl,q _ ys (I.ab.fresh (nn _)) k1 k2 k.tup.nd⟩
end
end L2
end
section
namespace L2
open PySem PySem.Spec PyProof.Rows
def ace(_ j:Int):Prop:=0<j/\j<2 ^ 100
theorem CM{X:Cx}:aM X (binaryOp .FloorDiv) (rI ace λi j=>.int (i / j)):=sJ λi j _ _ _ _ _ hc q=>by
 have h1:(0:Int)<j:=hc.1
 have h2:j<2 ^ 100:=hc.2
 refine floordiv_int (by lia) (by rw[SM i (by lia)];exact q) (.inl (PyProof.noPylong_of_log2 ?_))
 have h3:j.natAbs.log2<100:=(Nat.log2_lt (by lia)).mpr (by lia)
 lia
theorem q_:bootBuiltins "set"=some (.type "set"):=by decide+kernel
section
variable{X:Cx}(K:ge)(h:X.K=K)
include h
theorem yI(hc:X.calm=true):ak X (.type "set") (N6 K X.w):=h▸R7 hc
theorem G0(hc:X.calm=true)(hu:X.A.units+4<cLine):ak X (.type "set") (ED K X.prog X.w):=h▸R8 hc hu
end
theorem Nk{A:ww}{k:Nat}(hr:UF k A):A.units+4<cLine:=by have:=hr.un;lia
end L2
end
section
namespace L2
open PySem PySem.Spec PyProof.Rows
noncomputable def FO(a:ac)(o:Obj):HO:=.ext λh=>h.get? a=some o
theorem Ep{P:lw}{w:li}{H:Hp}{h:io}{a:ac}{o:Obj}(e:h.get? a=some o):aA P w H h a (FO a o):=⟨e,⟨o,e⟩,λh1 h2 p k=>k _ p⟩
section
variable{X:Cx}{pins:List (ac×Obj)}{σ:St}{H:Hp}{s:ap}{a:ac}{o o':Obj}{h':io}{t':Nat}
theorem lC(I:Inv X pins σ H s)(h:H a=some (FO a o)):s.heap.get? a=some o:=(I.ab a _ h).1
theorem wL(I:Inv X pins σ H s)(h:H a=some (FO a o))(sb:aC a s.heap h')(e:h'.get? a=some o'):Inv X pins σ (upd H a (FO a o')) {s with heap:=h',toks:=t'}:=
 I.write (x:=a) (e:=a) (by rw[h];trivial) (.inl rfl) (λb u hb q=>(sb.2 b hb).trans q) ⟨_,e⟩ (Ep e)
theorem D6(I:Inv X pins σ H s)(kp:∀b u,s.heap.get? b=some u->h'.get? b=some u)(hp:s.heap.objs.size<=a)(e:h'.get? a=some o):Inv X pins σ (upd H a (FO a o)) {s with heap:=h',toks:=t'}:=
 I.laid kp hp (Ep e)
theorem aad{A:ww}{k:Nat}{Q:VK}{F c:ac}{name q:Str}{params:qY}{body:lv}{scope:aK}{pm ct:al}{N ps:List Str}{us:List al}{vs:List V}{E:al->ap->Prop}(S:ut N ps scope)(hr:UF (k+1) A)(hA:A.frames=X.A.frames)(I:Inv X pins σ H s)
 (hF:s.heap.get? F=some (gI name q params body scope [] pm c ct))(d5:s.heap.CodeRec (.ref c) q)
 (hb:bindArgs (Jt name q params body scope [] pm (.ref c) ct) ⟨us,[]⟩=pure (ps.zip us))(hl:vs.length=ps.length)(r:Vals vs us){t:TE}
 (ht:PE (ia ae X.prog X.w X.K X.mg X.base N q scope F (.ref c) A X.stack s H E0) body t)(hq:t (start N vs) H Q):wpAny (model X.prog X.w) A (call (.ref F) us) (EP X pins σ Q) E s:=by
 have e0:jU X.prog X.w X.K X.mg X.base A X.stack s H:={I.xj with frames:=hA.trans I.xj.frames}
 have lim:s.heap.NoLimit:=I.nolimit
 have Eu:∀y∈ps.zip us,scope.names.lookup y.1=some .local\/(scope.names.lookup y.1=some .cell/\((cellsFrom (s.heap.objs.size+1) scope.names []).lookup y.1).isSome=true):=λ⟨n,v⟩hy=>by
  rcases S.par n (ur hy).1 with z|z
  .exact .inl z
  .exact .inr ⟨z,Gv _ _ _ (.inl z)⟩
 refine DX (nL (R:=CR ae X.stack X.prog X.w H s Q E0) ?_ λr s' hs=> ?_)
 .refine PySem.W.kla_callFunE hr.depth hF rfl S.co S.gen rfl d5 ?_
  rw[hb]
  refine eg (Vm S.kind Eu λenv he s1 x=> ?_)
  subst he
  refine⟨lim.keeps x.toInCall.keep,PySem.W.kla_codeExpr ?_⟩
  have J:=Ku (CX:=ae) (E:=E0) S hr.hd e0 hl r x
  refine cE (ht [] s1 (start N vs) H _ J hq) (λu s' hs=> ?_) λe s' hs=>hs
  obtain⟨v,H',J',rv,q'⟩:=hs
  exact⟨v,H',J'.os,J'.bare,J'.base,J'.ab,rv,q'⟩
 .cases r with
  |error e=>exact bR hs
  |ok fl=>
   cases fl with
   |ret u=>exact I.after hs
   |next=>exact bR hs
   |brk=>exact bR hs
   |cont=>exact bR hs
theorem T8{pos:Pos}{c:al}:∀(l:List al),Ej l->Ej (l++[rawInt pos.line,rawInt pos.col,c]):=by
 intro l h
 fun_induction Ej l with
 |case1=>trivial
 |case2 a t b u x rest ih=>exact ih h
 |case3 l h1 h2=>exact h.elim
end
end L2
namespace L2
open PySem PySem.Spec PyProof.Rows
abbrev fG(H H':Hp):Prop:=∀b o,H b=some o->H' b=some o
section
variable{X:Cx}{pins:List (ac×Obj)}{σ:St}
theorem aaa{H:Hp}{s:ap}{A:ww}{E:al->ap->Prop}{kS a:ac}{kA:Array al}{e e1:Nat}{st:SortSt}{out:List al}{P:Dd->ap->Prop}(I:Inv X pins σ H s)(hk:H kS=some (FO kS (seqObj "list" kA e)))(ha:H a=some (FO a (seqObj "list" #[] e1)))(jh:kS≠a)
 (hkz:kA.size<=200)(OB:(arrOf st).map (·.2)=out.toArray)(Pz:out.length<=200)(fS:failedOf st=none)
 (h:∀H' s' c,Inv X pins σ H' s'->(∀b o,b≠kS->b≠a->H b=some o->H' b=some o)->H' a=some (FO a (seqObj "list" out.toArray c))->P (.done (.ret .none)) s'):
 wpAny (model X.prog X.w) A (ksk_tail a false e1 (.ref kS) st) P E s:=by
 have g1:=lC I hk
 have sl:=bu
 unfold ksk_tail
 dsimp only
 refine bd (Cs g1 rfl ?_ (by lia) (SC _))
 have s1:=iE s.heap kS (aX λ_=>(#[]:Array al))
 obtain⟨c1,g1'⟩:∃c1,(s.heap.update kS (aX λ_=>(#[]:Array al))).get? kS=some (seqObj "list" #[] c1):=⟨_,A9 g1 λ_=> #[]⟩
 have I1:=wL (t':=s.toks) I hk s1 g1'
 have ha1:upd H kS (FO kS (seqObj "list" #[] c1)) a=some (FO a (seqObj "list" #[] e1)):=by rw[gl (dS jh)];exact ha
 have g2:=lC I1 ha1
 refine bd (v_ ?_)
 refine bd (seqEpoch_at g2 rfl ?_)
 refine bd (Cs g2 rfl ?_ (SC _) ?_)
 .rw[fS,OB]
  simp only[bne_self_eq_false,gG,if_false]
  have s2:=iE (s.heap.update kS (aX λ_=>(#[]:Array al))) a (aX λ_=>out.toArray)
  obtain⟨c2,g2'⟩:∃c2,((s.heap.update kS (aX λ_=>(#[]:Array al))).update a (aX λ_=>out.toArray)).get? a=some (seqObj "list" out.toArray c2):=⟨_,A9 g2 λ_=>out.toArray⟩
  have I2:=wL (t':=s.toks) I1 ha1 s2 g2'
  exact eg (h _ _ c2 I2 (λb o b1 b2 q=>by rw[gl b2,gl b1];exact q) bv)
 .rw[OB]
  simp only[gG,if_false,XV]
  lia
theorem ZI{ks zs:List (ac×List Int)}(hl:ks.length=zs.length):((ks.map λz=>im z.1).toArray.zip (zs.map λz=>im z.1).toArray).toList=(ks.zip zs).map λp=>(im p.1.1,im p.2.1):=by
 rw[ksk_zip]
 simp only[List.zip_map]
 rfl
theorem abt{H:Hp}{s:ap}{A:ww}{E:al->ap->Prop}{kS a:ac}{e e1:Nat}{ks zs:List (ac×List Int)}{P:Dd->ap->Prop}(I:Inv X pins σ H s)(hk:H kS=some (FO kS (seqObj "list" (ks.map λz=>im z.1).toArray e)))(ha:H a=some (FO a (seqObj "list" #[] e1)))(jh:kS≠a)
 (ht:∀z∈ks,PP H z/\z.2≠[])(Po:ks.map (·.2)=zs.map (·.2))(hlen:zs.length<=100)
 (h:∀(ys:List (ac×List Int))H' s' c,ys.Perm zs->ys.Pairwise (λx y=>HT.lexLt y.2 x.2=false)->Inv X pins σ H' s'->(∀b o,b≠kS->b≠a->H b=some o->H' b=some o)->H' a=some (FO a (seqObj "list" (ys.map λz=>im z.1).toArray c))->P (.done (.ret .none)) s'):
 wpAny (model X.prog X.w) A (ksk_end a false (zs.map λz=>im z.1).toArray e1 (.ref kS) (ks.map λz=>im z.1).toArray) P E s:=by
 have FI:ks.length=zs.length:=by have:=congrArg dm Po;rwa [dL,dL]at this
 have hz:=ZI FI
 have PV:((ks.map λz=>im z.1).toArray.zip (zs.map λz=>im z.1).toArray).size=zs.length:=by
  rw[<-wr,hz,dL,List.length_zip,FI,Nat.min_self]
 have fin:∀st:SortSt,(arrOf st).Perm ((ks.map λz=>im z.1).toArray.zip (zs.map λz=>im z.1).toArray)->SortedToK (nU s.heap cP) (arrOf st) zs.length->failedOf st=none->
  wpAny (model X.prog X.w) A (ksk_tail a false e1 (.ref kS) st) P E s:=by
  intro st hp sj fS
  have hp2:(arrOf st).toList.Perm ((ks.zip zs).map λp=>(im p.1.1,im p.2.1)):=by rw[<-hz];exact hp.toList
  obtain⟨ps,q1,q2⟩:=gL hp2 rfl
  have bo:∀p∈ps,p.1.2=p.2.2/\p.1∈ks/\p.2∈zs:=λp hp=>by
   have hpz:=q1.mem_iff.mp hp
   obtain⟨i,hi⟩:=fX.mp hpz
   rw[List.getElem?_zip_eq_some]at hi
   have e1:(ks.map (·.2))[i]? =some p.1.2:=by rw[wP,hi.1];rfl
   have e2:(zs.map (·.2))[i]? =some p.2.2:=by rw[wP,hi.2];rfl
   rw[Po,e2]at e1
   exact⟨(TD e1).symm,Tk hi.1,Tk hi.2⟩
  have dE:(ps.map (·.2)).Perm zs:=by
   have:=q1.map (·.2)
   rwa [List.map_snd_zip (by lia)]at this
  have eo:(arrOf st).map (·.2)=((ps.map (·.2)).map λz=>im z.1).toArray:=by
   apply zy.mp
   rw[zA,q2,P6,P6]
   rfl
  have SZ:ps.length=zs.length:=by rw[q1.length_eq,List.length_zip,FI,Nat.min_self]
  refine aaa (out:=(ps.map (·.2)).map λz=>im z.1) I hk ha jh (by simp;lia) eo (by simp;lia) fS λH' s' c i1 i2 i3=>h (ps.map (·.2)) H' s' c dE ?_ i1 i2 i3
  rw[sW]
  intro i j hi hj d8
  rw[dL]at hi hj
  have q3:=sj i j (TW d8) (by lia)
  have kk:∀m(hm:m<ps.length),KK (nU s.heap cP) (arrOf st) m=(ps[m].2.2.map EQ):=λm hm=>by
   have e1:(arrOf st)[m]? =some (im ps[m].1.1,im ps[m].2.1):=by
    rw[<-de,q2,wP,wS hm]
    rfl
   have hm2:=bo ps[m] (f6 hm)
   unfold KK
   rw[e1]
   show((qN s.heap cP (.ref ps[m].1.1)).getD [])=_
   rw[(lq I (ht _ hm2.2.1).1 (ht _ hm2.2.1).2).1,hm2.1]
   rfl
  rw[kk i hi,kk j hj]at q3
  have q4:s_ itemOrd (ps[j].2.2.map EQ) (ps[i].2.2.map EQ)=false:=q3
  rw[vR]at q4
  simpa using q4
 obtain⟨fs,dC⟩:=vp I ht
 have acB:KeysOf (nU s.heap cP) ((ks.map λz=>im z.1).toArray.zip (zs.map λz=>im z.1).toArray):=by
  intro p hp
  have hp':p∈((ks.map λz=>im z.1).toArray.zip (zs.map λz=>im z.1).toArray).toList:=by simpa using hp
  rw[hz]at hp'
  obtain⟨q,hq,rfl⟩:=nw.mp hp'
  have hq1:=ur hq
  exact⟨_,(lq I (ht _ hq1.1).1 (ht _ hq1.1).2).1⟩
 unfold ksk_end
 dsimp only
 rw[if_neg (by decide)]
 by_cases h2:(zs.map λz=>im z.1).toArray.size<2
 .rw[if_pos h2,if_pos h2]
  refine bd (eg ?_)
  rw[StateT.run_pure]
  refine bd (eg ?_)
  dsimp only
  rw[if_neg (by decide)]
  refine fin (SortSt.mk' general' ((ks.map λz=>im z.1).toArray.zip (zs.map λz=>im z.1).toArray) #[] 7 none) (Vh _) ?_ rfl
  intro i j d8 hj
  simp at h2
  have:i=j:=by lia
  subst this;exact KeyOrd.kle_refl _
 .rw[if_neg h2,if_neg h2]
  simp only[XV,dL]at h2
  refine bd (tup_kind (s:=s) (by rw[G.TupsOf.length dC,dL];lia) dC ?_)
  try dsimp only
  rw[if_neg (by decide)]
  refine bd (cE (G.wpS_sortRunsSt (κ:=nU s.heap cP) (kd:=tuples' true) (a₀:=(ks.map λz:ac×List Int=>im z.1).toArray.zip (zs.map λz:ac×List Int=>im z.1).toArray) (st:=SortSt.mk' (tuples' true) ((ks.map λz:ac×List Int=>im z.1).toArray.zip (zs.map λz:ac×List Int=>im z.1).toArray) #[] 7 none)
   (Q:=λ_ st'=>(arrOf st').Perm ((ks.map λz:ac×List Int=>im z.1).toArray.zip (zs.map λz:ac×List Int=>im z.1).toArray)/\failedOf st'=none/\SortedToK (nU s.heap cP) (arrOf st') zs.length)
   (G.tupC_ltAt (prog:=X.prog) (w:=X.w) (s:=s) true (λ_ _ e _=>e)) acB ⟨Vh _,rfl,rfl⟩ rfl (Stable.refl _) (by rw[PV];lia) λst' a1 a2 a3 a4=>⟨a1,a2,by rw[<-PV];exact a3⟩) ?_ λ_ _ e=>e)
  rintro⟨⟨⟩,st'⟩ s' ⟨rfl,hp,hf,hs⟩
  exact fin st' hp hs hf
end
end L2
namespace L2
open PySem PySem.Spec PyProof.Rows
section
variable{X:Cx}{pins:List (ac×Obj)}{σ:St}
def wb(X:Cx)(pins:List (ac×Obj))(σ:St)(A:ww)(H:Hp)(F:ac)(zs:List (ac×List Int)):Prop:=
 ∀z∈zs,∀(H1:Hp)(s1:ap),Inv X pins σ H1 s1->fG H H1->
  wpAny (model X.prog X.w) A (call (.ref F) [.ref z.1]) (λu s2=>∃p H2,u=.ref p/\Inv X pins σ H2 s2/\fG H1 H2/\PP H2 (p,z.2)) (λ_ _=>False) s1
theorem Z'{H:Hp}{s:ap}{A:ww}{E:al->ap->Prop}{kS a F:ac}{e1:Nat}{zs:List (ac×List Int)}{P:Dd->ap->Prop}(I:Inv X pins σ H s)(hk:H kS=some (FO kS (seqObj "list" #[] 0)))(ha:H a=some (FO a (seqObj "list" #[] e1)))(jh:kS≠a)
 {H0:Hp}(h0:fG H0 H)(nk:H0 kS=none)(na:H0 a=none)(bn:∀z∈zs,z.2≠[])(hlen:zs.length<=100)(turn:wb X pins σ A H0 F zs)
 (h:∀(ys:List (ac×List Int))H' s' c,ys.Perm zs->ys.Pairwise (λx y=>HT.lexLt y.2 x.2=false)->Inv X pins σ H' s'->fG H0 H'->H' a=some (FO a (seqObj "list" (ys.map λz=>im z.1).toArray c))->P (.done (.ret .none)) s'):
 wpAny (model X.prog X.w) A (ksk_rest a (.ref F) false (zs.map λz=>im z.1).toArray e1 (.ref kS)) P E s:=by
 have sl:=bu
 unfold ksk_rest
 refine bd (wpAny_rule ?_)
 first
  |rw[List.forIn_toArray]
  |(rw[<-WK];simp only[List.toList_toArray])
  |rw[<-WK]
 refine bd (ksk_fold (λi s'=>∃(H':Hp)(ks:List (ac×List Int))(e:Nat),Inv X pins σ H' s'/\fG H0 H'/\H' kS=some (FO kS (seqObj "list" (ks.map λz=>im z.1).toArray e))/\H' a=some (FO a (seqObj "list" #[] e1))/\(∀z∈ks,PP H' z/\z.2≠[])/\ks.map (·.2)=(zs.take i).map (·.2)) (zs.map λz=>im z.1) 0 s
  ⟨H,[],0,I,h0,hk,ha,λz hz=>(nomatch hz),rfl⟩ ?step ?done)
 case step=>
  rintro j x s' hx ⟨H1,ks,e,I1,f0,f1,f2,f3,f4⟩
  simp only[gQ]at f4⊢
  rw[wP]at hx
  obtain⟨z,hz,rfl⟩:=kh.mp hx
  have c_:=Tk hz
  have gy:=(P4.mp hz).1
  have Pp:ks.length<=100:=by
   have:=congrArg dm f4
   rw[dL,dL,dG]at this
   lia
  refine bd (vy (cE (turn z c_ H1 s' I1 f0) (λu s2 hu=> ?_) λ_ _ hF=>hF.elim))
  obtain⟨p,H2,rfl,I2,g0,g1⟩:=hu
  dsimp only
  have hk2:=g0 _ _ f1
  have ha2:=g0 _ _ f2
  have o1:=lC I2 hk2
  have s1:=iE s2.heap kS (aX (·.push (.ref p)))
  obtain⟨c2,o2⟩:∃c2,(s2.heap.update kS (aX (·.push (.ref p)))).get? kS=some (seqObj "list" ((ks.map λz=>im z.1).toArray.push (.ref p)) c2):=⟨_,A9 o1 (·.push (.ref p))⟩
  refine bd (Cs o1 rfl ?_ (by simp;lia) (by simp;lia))
  have I3:=wL (t':=s2.toks) I2 hk2 s1 o2
  have ea:((ks.map λz=>im z.1).toArray.push (im p))=((ks++[(p,z.2)]).map λz=>im z.1).toArray:=by
   apply zy.mp
   simp
  have xR:∀b o,H2 b=some o->b≠kS->upd H2 kS (FO kS (seqObj "list" ((ks.map λz=>im z.1).toArray.push (.ref p)) c2)) b=some o:=λb o q hb=>by rw[gl hb];exact q
  have xr:∀y,PP H2 y->y.1≠kS:=λy hy z=>by
   unfold PP at hy
   rw[z,hk2]at hy
   cases hy
  refine eg ⟨rfl,_,ks++[(p,z.2)],c2,I3,λb o q=>xR b o (g0 _ _ (f0 _ _ q)) (wT q nk),?_,xR _ _ ha2 (dS jh),λy hy=> ?_,?_⟩
  .rw[bv,ea]
  .rcases NE.mp hy with hy|hy
   .have:=f3 y hy
    exact⟨xR _ _ (g0 _ _ this.1) (xr y (g0 _ _ this.1)),this.2⟩
   .rw[zn.mp hy]
    exact⟨xR _ _ g1 (xr _ g1),bn z c_⟩
  .rw[GM,f4,Kb,hz]
   simp
 case done=>
  rintro s' ⟨H1,ks,e,I1,f0,f1,f2,f3,f4⟩
  have e3:zs.take (0+(zs.map λz=>im z.1).length)=zs:=ki (by simp)
  rw[e3]at f4
  refine bd (listItems_at (lC I1 f1) rfl ?_)
  refine abt I1 f1 f2 jh f3 f4 hlen λys H' s2 c i1 i2 i3 i4 i5=>h ys H' s2 c i1 i2 i3 (λb o q=>i4 b o (wT q nk) (wT q na) (f0 b o q)) i5
theorem aab{H:Hp}{s:ap}{A:ww}{E:al->ap->Prop}{a F:ac}{n:Nat}{zs:List (ac×List Int)}{P:Dd->ap->Prop}(I:Inv X pins σ H s)(ha:H a=some (FO a (seqObj "list" (zs.map λz=>im z.1).toArray n)))
 {H0:Hp}(h0:fG H0 H)(na:H0 a=none)(bn:∀z∈zs,z.2≠[])(hlen:zs.length<=100)(turn:wb X pins σ A H0 F zs)
 (h:∀(ys:List (ac×List Int))H' s' c,ys.Perm zs->ys.Pairwise (λx y=>HT.lexLt y.2 x.2=false)->Inv X pins σ H' s'->fG H0 H'->H' a=some (FO a (seqObj "list" (ys.map λz=>im z.1).toArray c))->P (.done (.ret .none)) s'):
 wpAny (model X.prog X.w) A (ksk_tree a (.ref F) false) P E s:=by
 have sl:=bu
 have g:=lC I ha
 have rc:=FB g
 unfold ksk_tree
 refine bd (listItems_at g rfl ?_)
 refine bd (Cs g rfl ?_ (by simp;lia) (SC _))
 have s1:=iE s.heap a (aX λ_=>(#[]:Array al))
 obtain⟨e1,g1⟩:∃e1,(s.heap.update a (aX λ_=>(#[]:Array al))).get? a=some (seqObj "list" #[] e1):=⟨_,A9 g λ_=> #[]⟩
 have I1:=wL (t':=s.toks) I ha s1 g1
 refine bd (seqEpoch_at g1 rfl ?_)
 refine bd (wpAny_newTuple ?_ (by simp;lia))
 refine bd (Ct ?_ (SC _))
 refine b_ ?_
 have hz1:(s.heap.update a (aX λ_=>(#[]:Array al))).objs.size=s.heap.objs.size:=Heap.size_update ..
 have I2:=D6 (t':=s.toks) (a:=((s.heap.update a (aX λ_=>(#[]:Array al))).push (seqObj "tuple" (zs.map λz=>im z.1).toArray 0)).objs.size) (o:=seqObj "list" #[] 0) I1
  (h':=((s.heap.update a (aX λ_=>(#[]:Array al))).push (seqObj "tuple" (zs.map λz=>im z.1).toArray 0)).push (seqObj "list" #[] 0)) (λb u q=>P5 _ (P5 _ q)) (by rw[wa];exact gg _) (Tl _ rfl)
 have Pq:((s.heap.update a (aX λ_=>(#[]:Array al))).push (seqObj "tuple" (zs.map λz=>im z.1).toArray 0)).objs.size=s.heap.objs.size+1:=by rw[wa,hz1]
 have jh:((s.heap.update a (aX λ_=>(#[]:Array al))).push (seqObj "tuple" (zs.map λz=>im z.1).toArray 0)).objs.size≠a:=by rw[Pq];exact nA (iI rc)
 have fr:∀b o,H b=some o->b≠((s.heap.update a (aX λ_=>(#[]:Array al))).push (seqObj "tuple" (zs.map λz=>im z.1).toArray 0)).objs.size:=λb o q=>by
  rw[Pq];exact Ps (iI (I.ab.lt q))
 refine Z' (H0:=H0) I2 bv (by rw[gl (dS jh),bv]) jh (λb o q=> ?_) ?_ na bn hlen turn h
 .rw[gl (fr b o (h0 _ _ q)),gl (wT q na)];exact h0 _ _ q
 .cases q:H0 ((s.heap.update a (aX λ_=>(#[]:Array al))).push (seqObj "tuple" (zs.map λz=>im z.1).toArray 0)).objs.size with
  |none=>rfl
  |some o=>exact absurd rfl (fr _ o (h0 _ _ q))
theorem Xw{H:Hp}{s:ap}{A:ww}{E:al->ap->Prop}{l F:ac}{zs:List (ac×List Int)}{Q:al->ap->Prop}(I:Inv X pins σ H s)(hl:s.heap.IsList l (zs.map λz=>im z.1).toArray)
 (bn:∀z∈zs,z.2≠[])(hlen:zs.length<=100)(turn:wb X pins σ A.in1.in1 H F zs)
 (h:∀(ys:List (ac×List Int))H' s' c q,ys.Perm zs->ys.Pairwise (λx y=>HT.lexLt y.2 x.2=false)->Inv X pins σ H' s'->fG H H'->H q=none->H' q=some (FO q (seqObj "list" (ys.map λz=>im z.1).toArray c))->Q (.ref q) s'):
 wpAny (model X.prog X.w) A (call (.builtin "sorted") [.ref l] [(kO "key",.ref F)]) Q E s:=by
 have sl:=bu
 refine call_function_entry_kw kind_sorted plain_sorted entry_sorted (ksk_s1 _ _) ?_
 unfold Builtin.«sorted»
 refine bd (m:=checkCount "sorted" 1 1 _) (eg ?_)
 refine bd (collect_list hl ?_ (by simp;lia))
 refine bd (Ct ?_ (by simp;lia))
 have hsz:((s.heap.push (seqObj "list" #[] 0)).update s.heap.objs.size (aX (·++(zs.map λz=>im z.1).toArray))).objs.size=s.heap.objs.size+1:=by rw[Heap.size_update,wa]
 have hoL:(((s.heap.push (seqObj "list" #[] 0)).update s.heap.objs.size (aX (·++(zs.map λz=>im z.1).toArray))).push (seqObj "list" (zs.map λz=>im z.1).toArray 0)).get? (s.heap.objs.size+1)=some (seqObj "list" (zs.map λz=>im z.1).toArray 0):=by
  rw[<-hsz];exact Tl _ rfl
 have keep:∀b o,s.heap.get? b=some o->(((s.heap.push (seqObj "list" #[] 0)).update s.heap.objs.size (aX (·++(zs.map λz=>im z.1).toArray))).push (seqObj "list" (zs.map λz=>im z.1).toArray 0)).get? b=some o:=λb o q=>by
  have rc:b<s.heap.objs.size:=FB q
  rw[Ye _ _ _ (by rw[hsz];exact Ps (iI rc)),Heap.get?_update_ne _ _ _ _ (Ps rc),Ye _ _ _ (Ps rc)]
  exact q
 have d7:H (s.heap.objs.size+1)=none:=I.ab.fresh (gg _)
 have I1:=D6 (t':=s.toks) I keep (gg _) hoL
 show wpAny _ _ _ _ _ {s with heap:=((s.heap.push (seqObj "list" #[] 0)).update s.heap.objs.size (aX (·++(zs.map λz=>im z.1).toArray))).push (seqObj "list" (zs.map λz=>im z.1).toArray 0)}
 rw[hsz]
 refine bd (b_ (wpAny_call_entry_kw slot_list_sort ⟨_,hoL,rfl⟩ entry_list_sort ?_ (ksk_l1 _ _)))
 show wpAny (model X.prog X.w) A.in1.in1 (Builtin.«list.sort» ⟨[.ref (s.heap.objs.size+1)],[(kO "key",.ref F)]⟩) _ _ _
 rw[ksk_t1]
 refine aab (H0:=H) I1 bv (λb o q=>by rw[gl (wT q d7)];exact q) d7 bn hlen turn λys H' s' c i1 i2 i3 i4 i5=>⟨_,rfl,?_⟩
 exact eg ⟨_,rfl,h ys H' s' c _ i1 i2 i3 i4 d7 i5⟩
def L0(K:ge)(KeyOf:Hp->ac->List Int->Prop)(Pt:ac)(fJ:Pos)(q:Str)(te:TE):TE:=λσ H Q=>te σ H λv H1=>∃(a:ac)(zs:List (ac×List Int)),v=.ref a/\aa K H1 a (zs.map λz=>V.ref z.1)/\(∀z∈zs,KeyOf H1 z.1 z.2/\z.2≠[])/\H1 Pt=some (.lam fJ q)/\zs.length<=100/\
 ∀(ys:List (ac×List Int))(H2:Hp)(p:ac),ys.Perm zs->ys.Pairwise (λx y=>HT.lexLt y.2 x.2=false)->fG H1 H2->H1 p=none->H2 p=some (.lst (ys.map λz=>V.ref z.1))->Q (.ref p) H2
end
end L2
end
section
namespace Sq
open PySem PySem.Spec PyProof.Rows L2
def Kt(H H':Hp):Prop:=∀b xs,H b=some (.tup xs)->H' b=some (.tup xs)
theorem Kt.trans{H H1 H2:Hp}(a:Kt H H1)(b:Kt H1 H2):Kt H H2:=λc o h=>b c o (a c o h)
theorem Kt.of_same{H H':Hp}(s:db H H'):Kt H H':=λb _ h=>s b _ h
theorem Kt.upd{H:Hp}{D:ac}{xs:List V}{o:HO}(h:H D=some (.lst xs)):Kt H (upd H D o):=λb ys hb=>by
 rw[gl (P8 hb h (by intro q;cases q))];exact hb
theorem iW{H0 H:Hp}{l:ac}{o:HO}(s:db H0 H)(h:H0 l=none):db H0 (upd H l o):=λb u hb=>by
 rw[gl (wT hb h)];exact s b u hb
theorem cr{H:Hp}{p:ac}{o:HO}(h:H p=none):db H (upd H p o):=iW (db.refl H) h
def IL(H:Hp)(l:ac)(ns:List Int):Prop:=H l=some (.lst (ns.map V.int))
def TL(H:Hp)(l:ac)(Ix:List (List Int)):Prop:=∃zs:List (ac×List Int),H l=some (.lst (zs.map λz=>V.ref z.1))/\zs.map (·.2)=Ix/\∀z∈zs,PP H z
theorem IL.same{H H':Hp}{l:ac}{ns:List Int}(s:db H H')(h:IL H l ns):IL H' l ns:=s _ _ h
theorem TL.same{H H':Hp}{l:ac}{Ix:List (List Int)}(s:db H H')(h:TL H l Ix):TL H' l Ix:=by
 obtain⟨zs,h1,h2,h3⟩:=h
 exact⟨zs,s _ _ h1,h2,λz hz=>s _ _ (h3 z hz)⟩
theorem TL.lst{H:Hp}{l:ac}{Ix:List (List Int)}(h:TL H l Ix):∃xs,H l=some (.lst xs)/\xs.length=Ix.length:=by
 obtain⟨zs,h1,h2,_⟩:=h
 exact⟨_,h1,by rw[<-h2,dL,dL]⟩
theorem TL.get{H:Hp}{l:ac}{Ix:List (List Int)}{xs:List V}{i:Nat}{ns:List Int}(h:TL H l Ix)(hl:H l=some (.lst xs))(hi:Ix[i]? =some ns):
 ∃a,xs[i]? =some (V.ref a)/\H a=some (.tup (ns.map V.int)):=by
 obtain⟨zs,h1,h2,h3⟩:=h
 rw[hl]at h1
 cases h1
 rw[<-h2,wP]at hi
 cases e:zs[i]? with
 |none=>rw[e]at hi;cases hi
 |some z=>
  rw[e]at hi
  cases hi
  exact⟨z.1,by rw[wP,e];rfl,h3 z (Tk e)⟩
theorem TL.nil{H:Hp}{l:ac}(h:H l=some (.lst [])):TL H l []:=⟨[],h,rfl,λ_ h=>nomatch h⟩
theorem TL.cat{H:Hp}{l m p:ac}{xs ys:List (List Int)}{us vs:List V}(h:TL H l xs)(k:TL H m ys)(hu:H l=some (.lst us))(hv:H m=some (.lst vs))(hp:H p=none):
 TL (upd H p (.lst (us++vs))) p (xs++ys):=by
 obtain⟨zs,h1,h2,h3⟩:=h
 obtain⟨ws,k1,k2,k3⟩:=k
 rw[hu]at h1;cases h1
 rw[hv]at k1;cases k1
 refine⟨zs++ws,by rw[bv,GM],by rw[GM,h2,k2],λz hz=> ?_⟩
 rcases NE.mp hz with hz|hz
 .exact cr hp _ _ (h3 z hz)
 .exact cr hp _ _ (k3 z hz)
theorem TL.push{H:Hp}{q t:ac}{Ix:List (List Int)}{us:List V}{ns:List Int}(h:TL H q Ix)(hu:H q=some (.lst us))(ht:H t=none):
 TL (upd (upd H t (.tup (ns.map V.int))) q (.lst (us++[.ref t]))) q (Ix++[ns]):=by
 obtain⟨zs,h1,h2,h3⟩:=h
 rw[hu]at h1;cases h1
 have s:=cr (o:=.tup (ns.map V.int)) ht
 have kt:Kt (upd H t (.tup (ns.map V.int))) (upd (upd H t (.tup (ns.map V.int))) q (.lst (zs.map (λz=>V.ref z.1)++[.ref t]))):=Kt.upd (s _ _ hu)
 refine⟨zs++[(t,ns)],by rw[bv,GM];rfl,by rw[GM,h2];rfl,λz hz=> ?_⟩
 rcases NE.mp hz with hz|hz
 .exact kt _ _ (s _ _ (h3 z hz))
 .cases zn.mp hz
  exact kt _ _ bv
theorem Lm{α:Type}(f:α->V)(zs:List α)(lo hi:Option Int):aU (zs.map f) lo hi=((zs.drop (HT.bq zs.length 0 lo)).take (HT.bq zs.length zs.length hi-HT.bq zs.length 0 lo)).map f:=by
 unfold aU
 rw[dL,<-uY,<-uZ]
noncomputable def lM{α:Type}(xs:List α)(lo hi:Option Int):List α:=(xs.drop (HT.bq xs.length 0 lo)).take (HT.bq xs.length xs.length hi-HT.bq xs.length 0 lo)
theorem TL.cut{H:Hp}{l p:ac}{Ix:List (List Int)}{us:List V}(h:TL H l Ix)(hu:H l=some (.lst us))(hp:H p=none)(lo hi:Option Int):
 TL (upd H p (.lst (aU us lo hi))) p (lM Ix lo hi):=by
 obtain⟨zs,h1,h2,h3⟩:=h
 rw[hu]at h1;cases h1
 have el:zs.length=Ix.length:=by rw[<-h2,dL]
 refine⟨lM zs lo hi,by rw[bv,Lm];rfl,?_,λz hz=> ?_⟩
 .unfold lM
  rw[uZ,uY,h2,el]
 .exact cr hp _ _ (h3 z (Hi (Hj hz)))
theorem VW{α:Type}(xs:List α){i:Nat}(h:i<=xs.length):lM xs none (some (i:Int))=xs.take i:=by
 unfold lM
 rw[HT.LS,HT.wC,kJ h]
 simp
theorem Xf{α:Type}(xs:List α){i:Nat}(h:i<=xs.length):lM xs (some (i:Int)) none=xs.drop i:=by
 unfold lM
 rw[HT.LS,HT.wC,kJ h]
 exact ki (by rw[pZ];exact nn _)
section
variable{K:ge}{H:Hp}{a:ac}{xs:List V}{i:Int}{v:V}{Q:VK}
theorem aO(h:H a=some (.tup xs))(e:e9 xs i=some v)(q:Q v H):Fd K (.ref a) (.int i) H Q:=⟨a,xs,i,v,rfl,rfl,P3.of h,e,q⟩
theorem Fa(h:H a=some (.lst xs))(e:e9 xs i=some v)(q:Q v H):xu K (.ref a) (.int i) H Q:=⟨a,xs,i,v,rfl,rfl,aa.of h,e,q⟩
theorem ixS(h:aa K H a xs)(e:e9 xs i=some v)(q:Q v H):xu K (.ref a) (.int i) H Q:=⟨a,xs,i,v,rfl,rfl,h,e,q⟩
end
theorem bB{K:ge}{H:Hp}{a:ac}{x y:V}{i j:Nat}{σ:L2.St}{Q:L2.St->Hp->Prop}(h:H a=some (.tup [x,y]))(q:Q ((σ.set i (some x)).set j (some y)) H):
 xk K 2 (oJ (eV i) (oJ (eV j) EW)) (.ref a) σ H Q:=
 ⟨_,_,rfl,P3.of h,rfl,_,_,rfl,_,_,rfl,rfl,q⟩
theorem oh{K:ge}{H:Hp}{a:ac}{x y z:V}{i j k:Nat}{σ:L2.St}{Q:L2.St->Hp->Prop}(h:H a=some (.tup [x,y,z]))(q:Q (((σ.set i (some x)).set j (some y)).set k (some z)) H):
 xk K 3 (oJ (eV i) (oJ (eV j) (oJ (eV k) EW))) (.ref a) σ H Q:=
 ⟨_,_,rfl,P3.of h,rfl,_,_,rfl,_,_,rfl,_,_,rfl,rfl,q⟩
section
variable{α:Type}{K:ge}{a:ac}{xs:List V}{g:TG}{tt:TT}{te:TE}{vs:List Nat}{σ:L2.St}{H1:Hp}{D:ac}{Qd:Hp->Prop}
theorem take_snoc{β:Type}{l:List β}{i:Nat}{x:β}(h:l[i]? =some x):l.take (i+1)=l.take i++[x]:=by
 rw[List.take_add_one,h];rfl
theorem Paired.snoc{β γ:Type}{R:β->γ->Prop}:∀{l:List β}{m:List γ}{x:β}{y:γ},Paired R l m->R x y->Paired R (l++[x]) (m++[y])
 |_,_,_,_,.nil,r=>.cons r .nil
 |_,_,_,_,.cons h t,r=>.cons h (Paired.snoc t r)
theorem ou(ds:List α)(keep:α->Bool)(R:α->V->Hp->Prop)(ay:∀d v H H',Kt H H'->R d v H->R d v H')
 (hlen:ds.length=xs.length)(hz:xs.length<sizeLine)(hD:H1 D=none)(hl:aa K H1 a xs)
 (hs:∀(i:Nat)(x:V)(d:α)(H:Hp)(C:V->Hp->Prop)(N:Hp->Prop),xs[i]? =some x->ds[i]? =some d->db H1 H->(keep d=true->∀y H4,db H H4->R d y H4->C y H4)->(keep d=false->∀H3,db H H3->N H3)->
   g x (wipe σ vs) H λσ2 H2=>wipe σ2 vs=wipe σ vs/\tt σ2 H2 λb H3=>if b=true then te σ2 H3 C else N H3)
 (hd:∀H acc,db H1 H->H D=some (.lst acc)->Paired (λd v=>R d v H) (ds.filter keep) acc->Qd H):
 ∃W:Nat->Nat->Hp->Prop,(∃m,W 0 m (upd H1 D (.lst [])))/\∀i m H,W i m H->
  ((a9 K a).stop i H/\Qd H)\/((a9 K a).go i H/\∃Nx:Hp->Prop,(∀H',Nx H'->∃m',m'<m/\W (i+1) m' H')/\∀x H',(a9 K a).bZ i H x H'->g x (wipe σ vs) H' λσ2 H2=>wipe σ2 vs=wipe σ vs/\tt σ2 H2 λb H3=>
    if b=true then te σ2 H3 λy H4=>∃acc,H4 D=some (.lst acc)/\acc.length<sizeLine/\Nx (upd H4 D (.lst (acc++[y])))else Nx H3):=by
 refine aae (xs:=xs) (λi H=>db H1 H/\∃acc,H D=some (.lst acc)/\acc.length<=i/\Paired (λd v=>R d v H) ((ds.take i).filter keep) acc)
  ⟨cr hD,[],bv,nn _,.nil⟩ (λi H _ p=>p.1.seq hl) ?_ ?_
 .rintro i x H hi ⟨s,acc,IR,gz,hp⟩
  have rc:i<xs.length:=(P4.mp hi).1
  obtain⟨d,hd'⟩:∃d,ds[i]? =some d:=⟨_,wS (by lia)⟩
  refine hs i x d H _ _ hi hd' s (λhk y H4 s4 r=>⟨acc,s4 _ _ IR,by lia,iW (s.trans s4) hD,acc++[y],bv,?_,?_⟩) (λhk H3 s3=>⟨s.trans s3,acc,s3 _ _ IR,by lia,?_⟩)
  .rw[Rs,fW];lia
  .have kt:Kt H4 (upd H4 D (.lst (acc++[y]))):=Kt.upd (s4 _ _ IR)
   rw[take_snoc hd',mG,eK,if_pos hk,Aq]
   exact Paired.snoc (Paired.jY hp λd v r=>ay d v _ _ ((Kt.of_same s4).trans kt) r) (ay _ _ _ _ kt r)
  .rw[take_snoc hd',mG,eK,if_neg (by rw[hk];exact bI),Aq,iL]
   exact Paired.jY hp λd v r=>ay d v _ _ (Kt.of_same s3) r
 .rintro H ⟨s,acc,IR,gz,hp⟩
  rw[ki (by lia)]at hp
  exact hd H acc s IR hp
theorem qA{β:Type}{f:α->β}:∀{l:List α}{m:List β},Paired (λd v=>v=f d) l m->m=l.map f
 |_,_,.nil=>rfl
 |_,_,.cons h t=>by rw[FS,<-h,<-qA t]
theorem qo{F:α->List Int}{H:Hp}:∀{l:List α}{m:List V},Paired (λd v=>∃b,v=V.ref b/\H b=some (.tup ((F d).map V.int))) l m->
 ∃zs:List (ac×List Int),m=zs.map (λz=>V.ref z.1)/\zs.map (·.2)=l.map F/\∀z∈zs,PP H z
 |_,_,.nil=>⟨[],rfl,rfl,λ_ h=>nomatch h⟩
 |d::_,_,.cons h t=>by
  obtain⟨b,rfl,hb⟩:=h
  obtain⟨zs,h1,h2,h3⟩:=qo t
  refine⟨(b,F d)::zs,by rw[h1];rfl,by rw[FS,h2];rfl,λz hz=> ?_⟩
  rcases wl.mp hz with rfl|hz
  .exact hb
  .exact h3 z hz
theorem kP{β:Type}:∀l:List β,l.filter (λ_=>true)=l
 |[]=>rfl
 |x::l=>by rw[eK,if_pos rfl,kP l]
theorem abu(ds:List α)(f:α->V)(hlen:ds.length=xs.length)(hz:xs.length<sizeLine)(hD:H1 D=none)(hl:aa K H1 a xs)
 (hs:∀(i:Nat)(x:V)(d:α)(H:Hp)(C:V->Hp->Prop),xs[i]? =some x->ds[i]? =some d->db H1 H->(∀H4,db H H4->C (f d) H4)->g x (wipe σ vs) H λσ2 H2=>wipe σ2 vs=wipe σ vs/\te σ2 H2 C)
 (hd:∀H,db H1 H->H D=some (.lst (ds.map f))->Qd H):
 ∃W:Nat->Nat->Hp->Prop,(∃m,W 0 m (upd H1 D (.lst [])))/\∀i m H,W i m H->
  ((a9 K a).stop i H/\Qd H)\/((a9 K a).go i H/\∃Nx:Hp->Prop,(∀H',Nx H'->∃m',m'<m/\W (i+1) m' H')/\∀x H',(a9 K a).bZ i H x H'->g x (wipe σ vs) H' λσ2 H2=>wipe σ2 vs=wipe σ vs/\j0 σ2 H2 λb H3=>
    if b=true then te σ2 H3 λy H4=>∃acc,H4 D=some (.lst acc)/\acc.length<sizeLine/\Nx (upd H4 D (.lst (acc++[y])))else Nx H3):=by
 refine ou ds (λ_=>true) (λd v _=>v=f d) (λ_ _ _ _ _ r=>r) hlen hz hD hl (λi x d H C N hx hd' s hC hN=> ?_) λH acc s IR hp=> ?_
 .exact hs i x d H C hx hd' s λH4 s4=>hC rfl _ H4 s4 rfl
 .rw[kP]at hp
  rw[qA hp]at IR
  exact hd H s IR
theorem aaf(ds:List α)(F:α->List Int)(hlen:ds.length=xs.length)(hz:xs.length<sizeLine)(hD:H1 D=none)(hl:aa K H1 a xs)
 (hs:∀(i:Nat)(x:V)(d:α)(H:Hp)(C:V->Hp->Prop),xs[i]? =some x->ds[i]? =some d->db H1 H->(∀b H4,db H H4->H4 b=some (.tup ((F d).map V.int))->C (.ref b) H4)->g x (wipe σ vs) H λσ2 H2=>wipe σ2 vs=wipe σ vs/\te σ2 H2 C)
 (hd:∀H,db H1 H->TL H D (ds.map F)->Qd H):
 ∃W:Nat->Nat->Hp->Prop,(∃m,W 0 m (upd H1 D (.lst [])))/\∀i m H,W i m H->
  ((a9 K a).stop i H/\Qd H)\/((a9 K a).go i H/\∃Nx:Hp->Prop,(∀H',Nx H'->∃m',m'<m/\W (i+1) m' H')/\∀x H',(a9 K a).bZ i H x H'->g x (wipe σ vs) H' λσ2 H2=>wipe σ2 vs=wipe σ vs/\j0 σ2 H2 λb H3=>
    if b=true then te σ2 H3 λy H4=>∃acc,H4 D=some (.lst acc)/\acc.length<sizeLine/\Nx (upd H4 D (.lst (acc++[y])))else Nx H3):=by
 refine ou ds (λ_=>true) (λd v H=>∃b,v=V.ref b/\H b=some (.tup ((F d).map V.int))) (λ_ _ _ _ k⟨b,e,r⟩=>⟨b,e,k _ _ r⟩) hlen hz hD hl (λi x d H C N hx hd' s hC hN=> ?_) λH acc s IR hp=> ?_
 .exact hs i x d H C hx hd' s λb H4 s4 h4=>hC rfl _ H4 s4 ⟨b,rfl,h4⟩
 .rw[kP]at hp
  obtain⟨zs,e1,e2,e3⟩:=qo hp
  exact hd H s ⟨zs,by rw[IR,e1],e2,e3⟩
theorem aag(ds:List α)(keep:α->Bool)(f:α->V)(hlen:ds.length=xs.length)(hz:xs.length<sizeLine)(hD:H1 D=none)(hl:aa K H1 a xs)
 (hs:∀(i:Nat)(x:V)(d:α)(H:Hp)(C:V->Hp->Prop)(N:Hp->Prop),xs[i]? =some x->ds[i]? =some d->db H1 H->(keep d=true->∀H4,db H H4->C (f d) H4)->(keep d=false->∀H3,db H H3->N H3)->
   g x (wipe σ vs) H λσ2 H2=>wipe σ2 vs=wipe σ vs/\tt σ2 H2 λb H3=>if b=true then te σ2 H3 C else N H3)
 (hd:∀H,db H1 H->H D=some (.lst ((ds.filter keep).map f))->Qd H):
 ∃W:Nat->Nat->Hp->Prop,(∃m,W 0 m (upd H1 D (.lst [])))/\∀i m H,W i m H->
  ((a9 K a).stop i H/\Qd H)\/((a9 K a).go i H/\∃Nx:Hp->Prop,(∀H',Nx H'->∃m',m'<m/\W (i+1) m' H')/\∀x H',(a9 K a).bZ i H x H'->g x (wipe σ vs) H' λσ2 H2=>wipe σ2 vs=wipe σ vs/\tt σ2 H2 λb H3=>
    if b=true then te σ2 H3 λy H4=>∃acc,H4 D=some (.lst acc)/\acc.length<sizeLine/\Nx (upd H4 D (.lst (acc++[y])))else Nx H3):=by
 refine ou ds keep (λd v _=>v=f d) (λ_ _ _ _ _ r=>r) hlen hz hD hl (λi x d H C N hx hd' s hC hN=> ?_) λH acc s IR hp=> ?_
 .exact hs i x d H C N hx hd' s (λk H4 s4=>hC k _ H4 s4 rfl) hN
 .rw[qA hp]at IR
  exact hd H s IR
end
def oR(g:TG)(tb:TS)(D:Ends)(σ:L2.St)(J:It)(H1:Hp):Prop:=∃W:Nat->Nat->L2.St->Hp->Prop,(∃m,W 0 m σ H1)/\∀i m σ H,W i m σ H->
 (J.stop i H/\D.nx σ H)\/(J.go i H/\∃N:L2.St->Hp->Prop,(∀σ' H',N σ' H'->∃m',m'<m/\W (i+1) m' σ' H')/\∀x H',J.bZ i H x H'->g x σ H' λσ2 H2=>tb {D with nx:=N,ct:=N,bk:=D.nx} σ2 H2)
theorem aaN(wi:TI)(g:TG)(tb:TS)(D:Ends)(σ:L2.St)(H:Hp):OX wi g tb D σ H=wi σ H λJ H1=>oR g tb D σ J H1:=rfl
def jg(g:TG)(tt:TT)(te:TE)(vs:List Nat)(σ:L2.St)(J:It)(H1:Hp)(Q:VK):Prop:=∀D,H1 D=none->∃W:Nat->Nat->Hp->Prop,(∃m,W 0 m (upd H1 D (.lst [])))/\∀i m H,W i m H->
 (J.stop i H/\Q (.ref D) H)\/(J.go i H/\∃Nx:Hp->Prop,(∀H',Nx H'->∃m',m'<m/\W (i+1) m' H')/\∀x H',J.bZ i H x H'->g x (wipe σ vs) H' λσ2 H2=>wipe σ2 vs=wipe σ vs/\tt σ2 H2 λb H3=>
   if b=true then te σ2 H3 λy H4=>∃acc,H4 D=some (.lst acc)/\acc.length<sizeLine/\Nx (upd H4 D (.lst (acc++[y])))else Nx H3)
theorem ab5(wi:TI)(g:TG)(tt:TT)(te:TE)(vs:List Nat)(σ:L2.St)(H:Hp)(Q:VK):sO wi g tt te vs σ H Q=wi σ H λJ H1=>jg g tt te vs σ J H1 Q:=rfl
section
variable{α:Type}{K:ge}{a:ac}{xs:List V}{g:TG}{tt:TT}{te:TE}{vs:List Nat}{σ:L2.St}{H1:Hp}{Q:VK}
theorem eQ(ds:List α)(f:α->V)(hlen:ds.length=xs.length)(hz:xs.length<sizeLine)(hl:aa K H1 a xs)
 (hs:∀(i:Nat)(x:V)(d:α)(H:Hp)(C:V->Hp->Prop),xs[i]? =some x->ds[i]? =some d->db H1 H->(∀H4,db H H4->C (f d) H4)->g x (wipe σ vs) H λσ2 H2=>wipe σ2 vs=wipe σ vs/\te σ2 H2 C)
 (hd:∀D H,H1 D=none->db H1 H->H D=some (.lst (ds.map f))->Q (.ref D) H):jg g j0 te vs σ (a9 K a) H1 Q:=
 λD hD=>abu ds f hlen hz hD hl hs λH s h=>hd D H hD s h
theorem iV(ds:List α)(F:α->List Int)(hlen:ds.length=xs.length)(hz:xs.length<sizeLine)(hl:aa K H1 a xs)
 (hs:∀(i:Nat)(x:V)(d:α)(H:Hp)(C:V->Hp->Prop),xs[i]? =some x->ds[i]? =some d->db H1 H->(∀b H4,db H H4->H4 b=some (.tup ((F d).map V.int))->C (.ref b) H4)->g x (wipe σ vs) H λσ2 H2=>wipe σ2 vs=wipe σ vs/\te σ2 H2 C)
 (hd:∀D H,H1 D=none->db H1 H->TL H D (ds.map F)->Q (.ref D) H):jg g j0 te vs σ (a9 K a) H1 Q:=
 λD hD=>aaf ds F hlen hz hD hl hs λH s h=>hd D H hD s h
theorem YS(ds:List α)(keep:α->Bool)(f:α->V)(hlen:ds.length=xs.length)(hz:xs.length<sizeLine)(hl:aa K H1 a xs)
 (hs:∀(i:Nat)(x:V)(d:α)(H:Hp)(C:V->Hp->Prop)(N:Hp->Prop),xs[i]? =some x->ds[i]? =some d->db H1 H->(keep d=true->∀H4,db H H4->C (f d) H4)->(keep d=false->∀H3,db H H3->N H3)->
   g x (wipe σ vs) H λσ2 H2=>wipe σ2 vs=wipe σ vs/\tt σ2 H2 λb H3=>if b=true then te σ2 H3 C else N H3)
 (hd:∀D H,H1 D=none->db H1 H->H D=some (.lst ((ds.filter keep).map f))->Q (.ref D) H):jg g tt te vs σ (a9 K a) H1 Q:=
 λD hD=>aag ds keep f hlen hz hD hl hs λH s h=>hd D H hD s h
end
section
variable{K:ge}{a:ac}{xs:List V}{g:TG}{tb:TS}{D:Ends}{σ:L2.St}{H:Hp}
theorem nH{lo:Int}{n:Nat}(Pv:Nat->L2.St->Hp->Prop)(h0:Pv 0 σ H)
 (hs:∀i σ H,i<n->Pv i σ H->g (.int (lo+i)) σ H λσ2 H2=>tb {D with nx:=Pv (i+1),ct:=Pv (i+1),bk:=D.nx} σ2 H2)(hd:∀σ H,Pv n σ H->D.nx σ H):oR g tb D σ (jf lo n) H:=Xm Pv h0 hs hd
theorem gU(Pv:Nat->L2.St->Hp->Prop)(h0:Pv 0 σ H)(hl:∀i σ H,i<=xs.length->Pv i σ H->aa K H a xs)
 (hs:∀(i:Nat)x σ H,xs[i]? =some x->Pv i σ H->g x σ H λσ2 H2=>tb {D with nx:=Pv (i+1),ct:=Pv (i+1),bk:=D.nx} σ2 H2)(hd:∀σ H,Pv xs.length σ H->D.nx σ H):oR g tb D σ (a9 K a) H:=YI Pv h0 hl hs hd
end
theorem aQ{t u:TS}{D:Ends}{σ:L2.St}{H:Hp}(h:∀R:L2.St->Hp->Prop,(∀σ' H',u D σ' H'->R σ' H')->t {D with nx:=R} σ H):Fm t u D σ H:=h _ λ_ _ h=>h
end Sq
end
section
namespace Sq
open PySem PySem.Spec PyProof.Rows L2
structure Wk (J:It) (H1:Hp) (xs:List V):Prop where
 go:∀i H,db H1 H->i<xs.length->J.go i H
 bZ:∀i H x H',db H1 H->i<xs.length->J.bZ i H x H'->H'=H/\xs[i]? =some x
 stop:∀H,db H1 H->J.stop xs.length H
theorem qX{K:ge}{a:ac}{xs:List V}{H1:Hp}(h:aa K H1 a xs):Wk (a9 K a) H1 xs where
 go:=λi H s hi=>⟨xs,xs[i],s.seq h,wS hi⟩
 bZ:=λi H x H' s hi y=>⟨y.1,y.2 xs (s.seq h)⟩
 stop:=λH s=>⟨xs,s.seq h,nn _⟩
theorem k_{lo:Int}{n:Nat}{H1:Hp}:Wk (jf lo n) H1 ((sw n).map λ(i:Nat)=>V.int (lo+(i:Int))) where
 go:=λi H s hi=>show i<n by simpa using hi
 bZ:=λi H x H' s hi y=>⟨y.1,by
  have hi:i<n:=by simpa using hi
  rw[wP,ku hi,y.2];rfl⟩
 stop:=λH s=>by show n<=_;simp
theorem Yb{lo c:Int}{n:Nat}{H1:Hp}:Wk (Fo lo c n) H1 ((sw n).map λ(i:Nat)=>V.int (lo+(i:Int)*c)) where
 go:=λi H s hi=>show i<n by simpa using hi
 bZ:=λi H x H' s hi y=>⟨y.1,by
  have hi:i<n:=by simpa using hi
  rw[wP,ku hi,y.2];rfl⟩
 stop:=λH s=>by show n<=_;simp
theorem aca{K:ge}{a:ac}{xs:List V}{H1:Hp}(h:aa K H1 a xs):Wk (Fq K a xs.length) H1 xs.reverse where
 go:=λi H s hi=>by
  have hi:i<xs.length:=by simpa using hi
  exact⟨hi,xs,xs[xs.length-1-i],s.seq h,wS (by omega)⟩
 bZ:=λi H x H' s hi y=>⟨y.1,by
  have hi:i<xs.length:=by simpa using hi
  rw[GY hi];exact y.2 xs (s.seq h)⟩
 stop:=λH s=>by show xs.length<=_;simp
section
variable{α:Type}{J:It}{xs:List V}{g:TG}{tt:TT}{te:TE}{vs:List Nat}{σ:L2.St}{H1:Hp}{Q:VK}
theorem qS(ds:List α)(keep:α->Bool)(R:α->V->Hp->Prop)(ay:∀d v H H',Kt H H'->R d v H->R d v H')(hlen:ds.length=xs.length)(hz:xs.length<sizeLine)(w:Wk J H1 xs)
 (hs:∀(i:Nat)(x:V)(d:α)(H:Hp)(C:V->Hp->Prop)(N:Hp->Prop),xs[i]? =some x->ds[i]? =some d->db H1 H->(keep d=true->∀y H4,db H H4->R d y H4->C y H4)->(keep d=false->∀H3,db H H3->N H3)->
   g x (wipe σ vs) H λσ2 H2=>wipe σ2 vs=wipe σ vs/\tt σ2 H2 λb H3=>if b=true then te σ2 H3 C else N H3)
 (hd:∀D H acc,H1 D=none->db H1 H->H D=some (.lst acc)->Paired (λd v=>R d v H) (ds.filter keep) acc->Q (.ref D) H):jg g tt te vs σ J H1 Q:=by
 intro D hD
 refine⟨λi m H=>m=xs.length-i/\i<=xs.length/\db H1 H/\∃acc,H D=some (.lst acc)/\acc.length<=i/\Paired (λd v=>R d v H) ((ds.take i).filter keep) acc,
  ⟨_,rfl,SC _,cr hD,[],bv,nn _,.nil⟩,?_⟩
 rintro i m H ⟨rfl,hi,s,acc,IR,gz,hp⟩
 rcases mH hi with rc|rfl
 .obtain⟨d,hd'⟩:∃d,ds[i]? =some d:=⟨_,wS (by omega)⟩
  refine .inr ⟨w.go i H s rc,λH'=>i+1<=xs.length/\db H1 H'/\∃acc,H' D=some (.lst acc)/\acc.length<=i+1/\Paired (λd v=>R d v H') ((ds.take (i+1)).filter keep) acc,λH' q=>⟨_,by omega,rfl,q⟩,λx H' y=> ?_⟩
  obtain⟨rfl,hx⟩:=w.bZ i H x H' s rc y
  refine hs i x d H' _ _ hx hd' s (λhk y H4 s4 r=>⟨acc,s4 _ _ IR,by omega,rc,iW (s.trans s4) hD,acc++[y],bv,?_,?_⟩) (λhk H3 s3=>⟨rc,s.trans s3,acc,s3 _ _ IR,by omega,?_⟩)
  .rw[Rs,fW];omega
  .have kt:Kt H4 (upd H4 D (.lst (acc++[y]))):=Kt.upd (s4 _ _ IR)
   rw[take_snoc hd',mG,eK,if_pos hk,Aq]
   exact Paired.snoc (Paired.jY hp λd v r=>ay d v _ _ ((Kt.of_same s4).trans kt) r) (ay _ _ _ _ kt r)
  .rw[take_snoc hd',mG,eK,if_neg (by rw[hk];exact bI),Aq,iL]
   exact Paired.jY hp λd v r=>ay d v _ _ (Kt.of_same s3) r
 .rw[ki (by omega)]at hp
  exact .inl ⟨w.stop H s,hd D H acc hD s IR hp⟩
theorem wy(ds:List α)(f:α->V)(hlen:ds.length=xs.length)(hz:xs.length<sizeLine)(w:Wk J H1 xs)
 (hs:∀(i:Nat)(x:V)(d:α)(H:Hp)(C:V->Hp->Prop),xs[i]? =some x->ds[i]? =some d->db H1 H->(∀H4,db H H4->C (f d) H4)->g x (wipe σ vs) H λσ2 H2=>wipe σ2 vs=wipe σ vs/\te σ2 H2 C)
 (hd:∀D H,H1 D=none->db H1 H->H D=some (.lst (ds.map f))->Q (.ref D) H):jg g j0 te vs σ J H1 Q:=by
 refine qS ds (λ_=>true) (λd v _=>v=f d) (λ_ _ _ _ _ r=>r) hlen hz w (λi x d H C N hx hd' s hC hN=> ?_) λD H acc hD s IR hp=> ?_
 .exact hs i x d H C hx hd' s λH4 s4=>hC rfl _ H4 s4 rfl
 .rw[kP]at hp
  rw[qA hp]at IR
  exact hd D H hD s IR
theorem YT(ds:List α)(keep:α->Bool)(f:α->V)(hlen:ds.length=xs.length)(hz:xs.length<sizeLine)(w:Wk J H1 xs)
 (hs:∀(i:Nat)(x:V)(d:α)(H:Hp)(C:V->Hp->Prop)(N:Hp->Prop),xs[i]? =some x->ds[i]? =some d->db H1 H->(keep d=true->∀H4,db H H4->C (f d) H4)->(keep d=false->∀H3,db H H3->N H3)->
   g x (wipe σ vs) H λσ2 H2=>wipe σ2 vs=wipe σ vs/\tt σ2 H2 λb H3=>if b=true then te σ2 H3 C else N H3)
 (hd:∀D H,H1 D=none->db H1 H->H D=some (.lst ((ds.filter keep).map f))->Q (.ref D) H):jg g tt te vs σ J H1 Q:=by
 refine qS ds keep (λd v _=>v=f d) (λ_ _ _ _ _ r=>r) hlen hz w (λi x d H C N hx hd' s hC hN=> ?_) λD H acc hD s IR hp=> ?_
 .exact hs i x d H C N hx hd' s (λk H4 s4=>hC k _ H4 s4 rfl) hN
 .rw[qA hp]at IR
  exact hd D H hD s IR
theorem k6(ds:List α)(F:α->List Int)(hlen:ds.length=xs.length)(hz:xs.length<sizeLine)(w:Wk J H1 xs)
 (hs:∀(i:Nat)(x:V)(d:α)(H:Hp)(C:V->Hp->Prop),xs[i]? =some x->ds[i]? =some d->db H1 H->(∀b H4,db H H4->H4 b=some (.tup ((F d).map V.int))->C (.ref b) H4)->g x (wipe σ vs) H λσ2 H2=>wipe σ2 vs=wipe σ vs/\te σ2 H2 C)
 (hd:∀D H,H1 D=none->db H1 H->TL H D (ds.map F)->Q (.ref D) H):jg g j0 te vs σ J H1 Q:=by
 refine qS ds (λ_=>true) (λd v H=>∃b,v=V.ref b/\H b=some (.tup ((F d).map V.int))) (λ_ _ _ _ k⟨b,e,r⟩=>⟨b,e,k _ _ r⟩) hlen hz w (λi x d H C N hx hd' s hC hN=> ?_) λD H acc hD s IR hp=> ?_
 .exact hs i x d H C hx hd' s λb H4 s4 h4=>hC rfl _ H4 s4 ⟨b,rfl,h4⟩
 .rw[kP]at hp
  obtain⟨zs,e1,e2,e3⟩:=qo hp
  exact hd D H hD s ⟨zs,by rw[IR,e1],e2,e3⟩
theorem Xz(ds:List α)(keep:α->Bool)(F:α->List Int)(hlen:ds.length=xs.length)(hz:xs.length<sizeLine)(w:Wk J H1 xs)
 (hs:∀(i:Nat)(x:V)(d:α)(H:Hp)(C:V->Hp->Prop)(N:Hp->Prop),xs[i]? =some x->ds[i]? =some d->db H1 H->(keep d=true->∀b H4,db H H4->H4 b=some (.tup ((F d).map V.int))->C (.ref b) H4)->(keep d=false->∀H3,db H H3->N H3)->
   g x (wipe σ vs) H λσ2 H2=>wipe σ2 vs=wipe σ vs/\tt σ2 H2 λb H3=>if b=true then te σ2 H3 C else N H3)
 (hd:∀D H,H1 D=none->db H1 H->TL H D ((ds.filter keep).map F)->Q (.ref D) H):jg g tt te vs σ J H1 Q:=by
 refine qS ds keep (λd v H=>∃b,v=V.ref b/\H b=some (.tup ((F d).map V.int))) (λ_ _ _ _ k⟨b,e,r⟩=>⟨b,e,k _ _ r⟩) hlen hz w (λi x d H C N hx hd' s hC hN=> ?_) λD H acc hD s IR hp=> ?_
 .exact hs i x d H C N hx hd' s (λk b H4 s4 h4=>hC k _ H4 s4 ⟨b,rfl,h4⟩) hN
 .obtain⟨zs,e1,e2,e3⟩:=qo hp
  exact hd D H hD s ⟨zs,by rw[IR,e1],e2,e3⟩
end
section
variable{K:ge}{a:ac}{xs:List V}{g:TG}{tb:TS}{D:Ends}{σ:L2.St}{H:Hp}
theorem Lp(Pv:Nat->L2.St->Hp->Prop)(h0:Pv 0 σ H)(hl:∀i σ H,i<=xs.length->Pv i σ H->P3 K H a xs)
 (hs:∀(i:Nat)x σ H,xs[i]? =some x->Pv i σ H->g x σ H λσ2 H2=>tb {D with nx:=Pv (i+1),ct:=Pv (i+1),bk:=D.nx} σ2 H2)(hd:∀σ H,Pv xs.length σ H->D.nx σ H):oR g tb D σ (pb K a) H:=Z2 Pv h0 hl hs hd
theorem Xl(Pv:Nat->L2.St->Hp->Prop)(h0:Pv 0 σ H)(hl:∀i σ H,i<=xs.length->Pv i σ H->aa K H a xs)
 (hs:∀(i:Nat)x σ H T,xs[i]? =some x->Pv i σ H->H T=none->g (.ref T) σ (upd H T (.tup [.int (i:Nat),x])) λσ2 H2=>tb {D with nx:=Pv (i+1),ct:=Pv (i+1),bk:=D.nx} σ2 H2)(hd:∀σ H,Pv xs.length σ H->D.nx σ H):oR g tb D σ (Fp K a) H:=by
 refine⟨λi m σ H=>m=xs.length-i/\i<=xs.length/\Pv i σ H,⟨xs.length,by simp,SC _,h0⟩,?_⟩
 rintro i m σ H ⟨rfl,hi,p⟩
 have q:=hl i σ H hi p
 rcases mH hi with rc|rfl
 .refine .inr ⟨⟨xs,xs[i],q,wS rc⟩,Pv (i+1),λσ' H' z=>⟨_,by omega,rfl,rc,z⟩,λx H'⟨T,y,ex,eT,eH,hy⟩=> ?_⟩
  subst ex eH
  exact hs i y σ H T (hy xs q) p eT
 .exact .inl ⟨⟨xs,q,nn _⟩,hd σ H p⟩
end
end Sq
end
section
namespace Sq
open PySem PySem.Spec PyProof.Rows L2
noncomputable def top(i:Nat):nl:=PySem.Challenge.pw_squaretrees_s01_answers.main.body.getD i (.Pass ⟨0,0,0,0⟩)
noncomputable abbrev BG:nl:=top 3
noncomputable abbrev Wi:List Str:=["x","y"]
noncomputable abbrev jG:List Str:=["x","y"]
theorem Je:ut Wi jG (sn BG):=⟨rfl,rfl,rfl,by decide+kernel,rfl,by decide+kernel,by decide+kernel⟩
noncomputable abbrev yM:nl:=top 4
noncomputable abbrev Ry:List Str:=["points","x","y"]
noncomputable abbrev pU:List Str:=["points"]
theorem GD:ut Ry pU (sn yM):=⟨rfl,rfl,rfl,by decide+kernel,rfl,by decide+kernel,by decide+kernel⟩
noncomputable abbrev A2:nl:=top 5
noncomputable abbrev UN:List Str:=["points","i"]
noncomputable abbrev kN:List Str:=["points","i"]
theorem Iq:ut UN kN (sn A2):=⟨rfl,rfl,rfl,by decide+kernel,rfl,by decide+kernel,by decide+kernel⟩
noncomputable abbrev BF:nl:=top 6
noncomputable abbrev Wh:List Str:=["points"]
noncomputable abbrev qy:List Str:=["points"]
theorem Jd:ut Wh qy (sn BF):=⟨rfl,rfl,rfl,by decide+kernel,rfl,by decide+kernel,by decide+kernel⟩
noncomputable abbrev yq:nl:=top 7
noncomputable abbrev Q4:List Str:=["points","i"]
noncomputable abbrev pR:List Str:=["points","i"]
theorem Gq:ut Q4 pR (sn yq):=⟨rfl,rfl,rfl,by decide+kernel,rfl,by decide+kernel,by decide+kernel⟩
noncomputable abbrev BD:nl:=top 8
noncomputable abbrev Wg:List Str:=["here","there"]
noncomputable abbrev gh:List Str:=["here","there"]
theorem Jc:ut Wg gh (sn BD):=⟨rfl,rfl,rfl,by decide+kernel,rfl,by decide+kernel,by decide+kernel⟩
noncomputable abbrev C1:nl:=top 9
noncomputable abbrev Y4:List Str:=["points","places","point"]
noncomputable abbrev qK:List Str:=["points"]
theorem KO:ut Y4 qK (sn C1):=⟨rfl,rfl,rfl,by decide+kernel,rfl,by decide+kernel,by decide+kernel⟩
noncomputable abbrev CW:nl:=top 10
noncomputable abbrev Y0:List Str:=["points","xs","ys","x","y"]
noncomputable abbrev nY:List Str:=["points"]
theorem KI:ut Y0 nY (sn CW):=⟨rfl,rfl,rfl,by decide+kernel,rfl,by decide+kernel,by decide+kernel⟩
noncomputable abbrev Bv:nl:=inClass (top 18) 0
noncomputable abbrev V_:List Str:=["self"]
noncomputable abbrev qx:List Str:=["self"]
theorem IW:ut V_ qx (sn Bv):=⟨rfl,rfl,rfl,by decide+kernel,rfl,by decide+kernel,by decide+kernel⟩
noncomputable abbrev DM:nl:=top 19
noncomputable abbrev aan:List Str:=["net","arguments"]
noncomputable abbrev DD:List Str:=["net","arguments"]
theorem LU:ut aan DD (sn DM):=⟨rfl,rfl,rfl,by decide+kernel,rfl,by decide+kernel,by decide+kernel⟩
noncomputable abbrev AW:nl:=top 20
noncomputable abbrev UH:List Str:=["net","arguments","x","y"]
noncomputable abbrev AO:List Str:=["net","arguments"]
theorem Ij:ut UH AO (sn AW):=⟨rfl,rfl,rfl,by decide+kernel,rfl,by decide+kernel,by decide+kernel⟩
noncomputable abbrev yT:nl:=top 21
noncomputable abbrev RF:List Str:=["net","arguments","i"]
noncomputable abbrev yL:List Str:=["net","arguments"]
theorem GL:ut RF yL (sn yT):=⟨rfl,rfl,rfl,by decide+kernel,rfl,by decide+kernel,by decide+kernel⟩
noncomputable abbrev z9:nl:=top 22
noncomputable abbrev Tz:List Str:=["net","arguments","i","x","y"]
noncomputable abbrev zS:List Str:=["net","arguments"]
theorem HC:ut Tz zS (sn z9):=⟨rfl,rfl,rfl,by decide+kernel,rfl,by decide+kernel,by decide+kernel⟩
noncomputable abbrev DO:nl:=top 23
noncomputable abbrev aap:List Str:=["net","arguments","dx","dy","shifted","x","y"]
noncomputable abbrev DF:List Str:=["net","arguments"]
theorem LW:ut aap DF (sn DO):=⟨rfl,rfl,rfl,by decide+kernel,rfl,by decide+kernel,by decide+kernel⟩
noncomputable abbrev Ef:nl:=top 24
noncomputable abbrev abz:List Str:=["net","arguments","turned","quarter","x","y"]
noncomputable abbrev D_:List Str:=["net","arguments"]
theorem MU:ut abz D_ (sn Ef):=⟨rfl,rfl,rfl,by decide+kernel,rfl,by decide+kernel,by decide+kernel⟩
noncomputable abbrev Ee:nl:=top 25
noncomputable abbrev aby:List Str:=["net","arguments","x","y"]
noncomputable abbrev D9:List Str:=["net","arguments"]
theorem MT:ut aby D9 (sn Ee):=⟨rfl,rfl,rfl,by decide+kernel,rfl,by decide+kernel,by decide+kernel⟩
noncomputable abbrev DN:nl:=top 26
noncomputable abbrev aao:List Str:=["net","arguments","n","scaled","x","y"]
noncomputable abbrev DE:List Str:=["net","arguments"]
theorem LV:ut aao DE (sn DN):=⟨rfl,rfl,rfl,by decide+kernel,rfl,by decide+kernel,by decide+kernel⟩
noncomputable abbrev CY:nl:=top 28
noncomputable abbrev Y1:List Str:=["net","number","arguments"]
noncomputable abbrev vT:List Str:=["net","number","arguments"]
theorem KJ:ut Y1 vT (sn CY):=⟨rfl,rfl,rfl,by decide+kernel,rfl,by decide+kernel,by decide+kernel⟩
noncomputable abbrev AV:nl:=inClass (top 30) 0
noncomputable abbrev UG:List Str:=["self","points","xs","ys","y","x"]
noncomputable abbrev qm:List Str:=["self","points"]
theorem Ii:ut UG qm (sn AV):=⟨rfl,rfl,rfl,by decide+kernel,rfl,by decide+kernel,by decide+kernel⟩
noncomputable abbrev zi:nl:=top 31
noncomputable abbrev Si:List Str:=["grid","i"]
noncomputable abbrev uf:List Str:=["grid"]
theorem G7:ut Si uf (sn zi):=⟨rfl,rfl,rfl,by decide+kernel,rfl,by decide+kernel,by decide+kernel⟩
noncomputable abbrev yp:nl:=top 32
noncomputable abbrev Q3:List Str:=["grid","i"]
noncomputable abbrev tK:List Str:=["grid"]
theorem Gp:ut Q3 tK (sn yp):=⟨rfl,rfl,rfl,by decide+kernel,rfl,by decide+kernel,by decide+kernel⟩
noncomputable abbrev zl:nl:=top 33
noncomputable abbrev Sl:List Str:=["grid","steps","lines","start","end","here","there"]
noncomputable abbrev ug:List Str:=["grid"]
theorem G_:ut Sl ug (sn zl):=⟨rfl,rfl,rfl,by decide+kernel,rfl,by decide+kernel,by decide+kernel⟩
noncomputable abbrev yP:nl:=top 34
noncomputable abbrev RB:List Str:=["grid","here","there","corner","level","upright","i"]
noncomputable abbrev tV:List Str:=["grid","here","there"]
theorem GH:ut RB tV (sn yP):=⟨rfl,rfl,rfl,by decide+kernel,rfl,by decide+kernel,by decide+kernel⟩
noncomputable abbrev zU:nl:=inClass (top 36) 0
noncomputable abbrev To:List Str:=["self","places","i","place"]
noncomputable abbrev qc:List Str:=["self","places"]
theorem Hr:ut To qc (sn zU):=⟨rfl,rfl,rfl,by decide+kernel,rfl,by decide+kernel,by decide+kernel⟩
noncomputable abbrev BI:nl:=top 37
noncomputable abbrev Wl:List Str:=["group","first","part"]
noncomputable abbrev qz:List Str:=["group"]
theorem Jg:ut Wl qz (sn BI):=⟨rfl,rfl,rfl,by decide+kernel,rfl,by decide+kernel,by decide+kernel⟩
noncomputable abbrev yO:nl:=top 38
noncomputable abbrev RA:List Str:=["joined","group","parts","u","part"]
noncomputable abbrev tU:List Str:=["joined","group","parts","u"]
theorem GG:ut RA tU (sn yO):=⟨rfl,rfl,rfl,by decide+kernel,rfl,by decide+kernel,by decide+kernel⟩
noncomputable abbrev yi:nl:=top 39
noncomputable abbrev QL:List Str:=["table","group","parts","u"]
noncomputable abbrev tE:List Str:=["table","group"]
theorem Gd:ut QL tE (sn yi):=⟨rfl,rfl,rfl,by decide+kernel,rfl,by decide+kernel,by decide+kernel⟩
noncomputable abbrev zh:nl:=top 40
noncomputable abbrev Sh:List Str:=["table","group","nodes","end","node"]
noncomputable abbrev ue:List Str:=["table","group"]
theorem G6:ut Sh ue (sn zh):=⟨rfl,rfl,rfl,by decide+kernel,rfl,by decide+kernel,by decide+kernel⟩
noncomputable abbrev C0:nl:=top 41
noncomputable abbrev Y3:List Str:=["lengths","steps","reached","here","there","far"]
noncomputable abbrev vV:List Str:=["lengths","steps"]
theorem KN:ut Y3 vV (sn C0):=⟨rfl,rfl,rfl,by decide+kernel,rfl,by decide+kernel,by decide+kernel⟩
noncomputable abbrev yN:nl:=top 42
noncomputable abbrev Rz:List Str:=["places","table","steps","group"]
noncomputable abbrev pV:List Str:=["places"]
theorem GF:ut Rz pV (sn yN):=⟨rfl,rfl,rfl,by decide+kernel,rfl,by decide+kernel,by decide+kernel⟩
noncomputable abbrev x6:nl:=top 43
noncomputable abbrev Qz:List Str:=["points","places","table"]
noncomputable abbrev ko:List Str:=["points"]
theorem F8:ut Qz ko (sn x6):=⟨rfl,rfl,rfl,by decide+kernel,rfl,by decide+kernel,by decide+kernel⟩
noncomputable abbrev yR:nl:=top 45
noncomputable abbrev RD:List Str:=["points","ahead","rest","here","choices","there","bit"]
noncomputable abbrev pW:List Str:=["points","ahead","rest","here"]
theorem GJ:ut RD pW (sn yR):=⟨rfl,rfl,rfl,by decide+kernel,rfl,by decide+kernel,by decide+kernel⟩
noncomputable abbrev z_:nl:=top 46
noncomputable abbrev TB:List Str:=["points","home","ahead","rest","here"]
noncomputable abbrev uI:List Str:=["points","home"]
theorem HD:ut TB uI (sn z_):=⟨rfl,rfl,rfl,by decide+kernel,rfl,by decide+kernel,by decide+kernel⟩
noncomputable abbrev zZ:nl:=top 47
noncomputable abbrev Tt:List Str:=["points","starts","home","ahead","every","best","order","rest","there","start"]
noncomputable abbrev qd:List Str:=["points","starts","home"]
theorem Hx:ut Tt qd (sn zZ):=⟨rfl,rfl,rfl,by decide+kernel,rfl,by decide+kernel,by decide+kernel⟩
noncomputable abbrev zY:nl:=top 48
noncomputable abbrev Ts:List Str:=["points","point"]
noncomputable abbrev uE:List Str:=["points"]
theorem Hw:ut Ts uE (sn zY):=⟨rfl,rfl,rfl,by decide+kernel,rfl,by decide+kernel,by decide+kernel⟩
noncomputable abbrev A1:nl:=top 49
noncomputable abbrev UM:List Str:=["points","point"]
noncomputable abbrev uS:List Str:=["points"]
theorem Ip:ut UM uS (sn A1):=⟨rfl,rfl,rfl,by decide+kernel,rfl,by decide+kernel,by decide+kernel⟩
noncomputable abbrev yh:nl:=top 51
noncomputable abbrev QK:List Str:=["points","pairs","i","j"]
noncomputable abbrev tD:List Str:=["points"]
theorem Gb:ut QK tD (sn yh):=⟨rfl,rfl,rfl,by decide+kernel,rfl,by decide+kernel,by decide+kernel⟩
noncomputable abbrev CZ:nl:=top 52
noncomputable abbrev Y2:List Str:=["groups","kept","gone","group"]
noncomputable abbrev vU:List Str:=["groups","kept","gone"]
theorem KL:ut Y2 vU (sn CZ):=⟨rfl,rfl,rfl,by decide+kernel,rfl,by decide+kernel,by decide+kernel⟩
noncomputable abbrev zj:nl:=top 53
noncomputable abbrev Sj:List Str:=["points","groups","taken","length","i","j"]
noncomputable abbrev p_:List Str:=["points"]
theorem G8:ut Sj p_ (sn zj):=⟨rfl,rfl,rfl,by decide+kernel,rfl,by decide+kernel,by decide+kernel⟩
noncomputable abbrev yS:nl:=top 54
noncomputable abbrev RE:List Str:=["pairs","length","i","j"]
noncomputable abbrev pX:List Str:=["pairs"]
theorem GK:ut RE pX (sn yS):=⟨rfl,rfl,rfl,by decide+kernel,rfl,by decide+kernel,by decide+kernel⟩
noncomputable abbrev zk:nl:=top 56
noncomputable abbrev Sk:List Str:=["points","centre","point"]
noncomputable abbrev qa:List Str:=["points","centre"]
theorem G9:ut Sk qa (sn zk):=⟨rfl,rfl,rfl,by decide+kernel,rfl,by decide+kernel,by decide+kernel⟩
noncomputable abbrev yo:nl:=top 57
noncomputable abbrev Q0:List Str:=["numbers"]
noncomputable abbrev tJ:List Str:=["numbers"]
theorem Gn:ut Q0 tJ (sn yo):=⟨rfl,rfl,rfl,by decide+kernel,rfl,by decide+kernel,by decide+kernel⟩
noncomputable abbrev yQ:nl:=top 58
noncomputable abbrev RC:List Str:=["points","x","y"]
noncomputable abbrev tW:List Str:=["points"]
theorem GI:ut RC tW (sn yQ):=⟨rfl,rfl,rfl,by decide+kernel,rfl,by decide+kernel,by decide+kernel⟩
noncomputable abbrev x5:nl:=top 59
noncomputable abbrev Qy:List Str:=["points","t","total","column","heights","x","y"]
noncomputable abbrev sZ:List Str:=["points","t"]
theorem F7:ut Qy sZ (sn x5):=⟨rfl,rfl,rfl,by decide+kernel,rfl,by decide+kernel,by decide+kernel⟩
noncomputable abbrev z5:nl:=top 60
noncomputable abbrev Tu:List Str:=["points","box","width","x","t"]
noncomputable abbrev uF:List Str:=["points"]
theorem Hy:ut Tu uF (sn z5):=⟨rfl,rfl,rfl,by decide+kernel,rfl,by decide+kernel,by decide+kernel⟩
noncomputable abbrev z6:nl:=top 62
noncomputable abbrev Tv:List Str:=["table","group","v","nodes","parted","u"]
noncomputable abbrev uG:List Str:=["table","group","v"]
theorem Hz:ut Tv uG (sn z6):=⟨rfl,rfl,rfl,by decide+kernel,rfl,by decide+kernel,by decide+kernel⟩
noncomputable abbrev z7:nl:=top 63
noncomputable abbrev Tw:List Str:=["table","group","u","joined","part"]
noncomputable abbrev uH:List Str:=["table","group","u"]
theorem HA:ut Tw uH (sn z7):=⟨rfl,rfl,rfl,by decide+kernel,rfl,by decide+kernel,by decide+kernel⟩
noncomputable abbrev A3:nl:=top 64
noncomputable abbrev UO:List Str:=["table","ways","waiting","state","group","v","u","part"]
noncomputable abbrev uT:List Str:=["table"]
theorem Ir:ut UO uT (sn A3):=⟨rfl,rfl,rfl,by decide+kernel,rfl,by decide+kernel,by decide+kernel⟩
noncomputable abbrev Ab:nl:=top 65
noncomputable abbrev TF:List Str:=["points","places","table","found","here","there","line","nodes","start","end"]
noncomputable abbrev qf:List Str:=["points"]
theorem HF:ut TF qf (sn Ab):=⟨rfl,rfl,rfl,by decide+kernel,rfl,by decide+kernel,by decide+kernel⟩
noncomputable abbrev BH:nl:=top 66
noncomputable abbrev Wj:List Str:=["lines","axis","counts","line","node"]
noncomputable abbrev vg:List Str:=["lines","axis"]
theorem Jf:ut Wj vg (sn BH):=⟨rfl,rfl,rfl,by decide+kernel,rfl,by decide+kernel,by decide+kernel⟩
noncomputable abbrev z8:nl:=top 67
noncomputable abbrev Tx:List Str:=["points","lines","upright","level","nodes","counted","node"]
noncomputable abbrev qe:List Str:=["points"]
theorem HB:ut Tx qe (sn z8):=⟨rfl,rfl,rfl,by decide+kernel,rfl,by decide+kernel,by decide+kernel⟩
noncomputable abbrev zm:nl:=top 68
noncomputable abbrev Sm:List Str:=["points","node","level","upright"]
noncomputable abbrev uh:List Str:=["points"]
theorem G':ut Sm uh (sn zm):=⟨rfl,rfl,rfl,by decide+kernel,rfl,by decide+kernel,by decide+kernel⟩
noncomputable abbrev Aa:nl:=top 69
noncomputable abbrev TC:List Str:=["points","node","level","upright"]
noncomputable abbrev uJ:List Str:=["points"]
theorem HE:ut TC uJ (sn Aa):=⟨rfl,rfl,rfl,by decide+kernel,rfl,by decide+kernel,by decide+kernel⟩
noncomputable abbrev Ci:nl:=top 71
noncomputable abbrev XJ:List Str:=["places","answer","x","y"]
noncomputable abbrev kW:List Str:=["places"]
theorem JY:ut XJ kW (sn Ci):=⟨rfl,rfl,rfl,by decide+kernel,rfl,by decide+kernel,by decide+kernel⟩
noncomputable abbrev zX:nl:=top 72
noncomputable abbrev Tr:List Str:=["points","arguments"]
noncomputable abbrev zR:List Str:=["points","arguments"]
theorem Hv:ut Tr zR (sn zX):=⟨rfl,rfl,rfl,by decide+kernel,rfl,by decide+kernel,by decide+kernel⟩
noncomputable abbrev Cg:nl:=top 73
noncomputable abbrev XI:List Str:=["points","arguments"]
noncomputable abbrev Cd:List Str:=["points","arguments"]
theorem JX:ut XI Cd (sn Cg):=⟨rfl,rfl,rfl,by decide+kernel,rfl,by decide+kernel,by decide+kernel⟩
noncomputable abbrev Bx:nl:=top 74
noncomputable abbrev Wa:List Str:=["points","arguments","box"]
noncomputable abbrev Bp:List Str:=["points","arguments"]
theorem IY:ut Wa Bp (sn Bx):=⟨rfl,rfl,rfl,by decide+kernel,rfl,by decide+kernel,by decide+kernel⟩
noncomputable abbrev Bw:nl:=top 75
noncomputable abbrev V':List Str:=["points","arguments","i","j"]
noncomputable abbrev Bo:List Str:=["points","arguments"]
theorem IX:ut V' Bo (sn Bw):=⟨rfl,rfl,rfl,by decide+kernel,rfl,by decide+kernel,by decide+kernel⟩
noncomputable abbrev Bz:nl:=top 76
noncomputable abbrev Wc:List Str:=["points","arguments","taken","length","i","j"]
noncomputable abbrev Br:List Str:=["points","arguments"]
theorem I0:ut Wc Br (sn Bz):=⟨rfl,rfl,rfl,by decide+kernel,rfl,by decide+kernel,by decide+kernel⟩
noncomputable abbrev zf:nl:=top 77
noncomputable abbrev Sf:List Str:=["points","arguments"]
noncomputable abbrev zc:List Str:=["points","arguments"]
theorem G4:ut Sf zc (sn zf):=⟨rfl,rfl,rfl,by decide+kernel,rfl,by decide+kernel,by decide+kernel⟩
noncomputable abbrev BB:nl:=top 78
noncomputable abbrev We:List Str:=["points","arguments","lines","answer","first","other"]
noncomputable abbrev Bt:List Str:=["points","arguments"]
theorem Ja:ut We Bt (sn BB):=⟨rfl,rfl,rfl,by decide+kernel,rfl,by decide+kernel,by decide+kernel⟩
noncomputable abbrev zV:nl:=top 79
noncomputable abbrev Tp:List Str:=["points","arguments"]
noncomputable abbrev zP:List Str:=["points","arguments"]
theorem Ht:ut Tp zP (sn zV):=⟨rfl,rfl,rfl,by decide+kernel,rfl,by decide+kernel,by decide+kernel⟩
noncomputable abbrev AX:nl:=top 80
noncomputable abbrev UI:List Str:=["points","arguments"]
noncomputable abbrev AQ:List Str:=["points","arguments"]
theorem Ik:ut UI AQ (sn AX):=⟨rfl,rfl,rfl,by decide+kernel,rfl,by decide+kernel,by decide+kernel⟩
noncomputable abbrev BC:nl:=top 81
noncomputable abbrev Wf:List Str:=["points","arguments","x","y"]
noncomputable abbrev Bu:List Str:=["points","arguments"]
theorem Jb:ut Wf Bu (sn BC):=⟨rfl,rfl,rfl,by decide+kernel,rfl,by decide+kernel,by decide+kernel⟩
noncomputable abbrev zg:nl:=top 82
noncomputable abbrev Sg:List Str:=["points","arguments","i"]
noncomputable abbrev zd:List Str:=["points","arguments"]
theorem G5:ut Sg zd (sn zg):=⟨rfl,rfl,rfl,by decide+kernel,rfl,by decide+kernel,by decide+kernel⟩
noncomputable abbrev yg:nl:=top 83
noncomputable abbrev QJ:List Str:=["a","b","rest"]
noncomputable abbrev tw:List Str:=["a","b"]
theorem Ga:ut QJ tw (sn yg):=⟨rfl,rfl,rfl,by decide+kernel,rfl,by decide+kernel,by decide+kernel⟩
noncomputable abbrev AZ:nl:=top 84
noncomputable abbrev UK:List Str:=["points","arguments","shortest","pairs","divisor"]
noncomputable abbrev AS:List Str:=["points","arguments"]
theorem Im:ut UK AS (sn AZ):=⟨rfl,rfl,rfl,by decide+kernel,rfl,by decide+kernel,by decide+kernel⟩
noncomputable abbrev zW:nl:=top 85
noncomputable abbrev Tq:List Str:=["points","arguments","middle"]
noncomputable abbrev zQ:List Str:=["points","arguments"]
theorem Hu:ut Tq zQ (sn zW):=⟨rfl,rfl,rfl,by decide+kernel,rfl,by decide+kernel,by decide+kernel⟩
noncomputable abbrev BA:nl:=top 86
noncomputable abbrev Wd:List Str:=["points","arguments","x","y"]
noncomputable abbrev Bs:List Str:=["points","arguments"]
theorem I_:ut Wd Bs (sn BA):=⟨rfl,rfl,rfl,by decide+kernel,rfl,by decide+kernel,by decide+kernel⟩
noncomputable abbrev A0:nl:=top 87
noncomputable abbrev UL:List Str:=["points","arguments","d","x","y"]
noncomputable abbrev AU:List Str:=["points","arguments"]
theorem Io:ut UL AU (sn A0):=⟨rfl,rfl,rfl,by decide+kernel,rfl,by decide+kernel,by decide+kernel⟩
noncomputable abbrev AY:nl:=top 88
noncomputable abbrev UJ:List Str:=["points","arguments"]
noncomputable abbrev AR:List Str:=["points","arguments"]
theorem Il:ut UJ AR (sn AY):=⟨rfl,rfl,rfl,by decide+kernel,rfl,by decide+kernel,by decide+kernel⟩
noncomputable abbrev By:nl:=top 89
noncomputable abbrev Wb:List Str:=["points","arguments"]
noncomputable abbrev Bq:List Str:=["points","arguments"]
theorem IZ:ut Wb Bq (sn By):=⟨rfl,rfl,rfl,by decide+kernel,rfl,by decide+kernel,by decide+kernel⟩
noncomputable abbrev EE:nl:=top 91
noncomputable abbrev acK:List Str:=["points","number","arguments"]
noncomputable abbrev w9:List Str:=["points","number","arguments"]
theorem NF:ut acK w9 (sn EE):=⟨rfl,rfl,rfl,by decide+kernel,rfl,by decide+kernel,by decide+kernel⟩
noncomputable abbrev ze:nl:=top 95
noncomputable abbrev Se:List Str:=["net","number","arguments"]
noncomputable abbrev ud:List Str:=["net","number","arguments"]
theorem G3:ut Se ud (sn ze):=⟨rfl,rfl,rfl,by decide+kernel,rfl,by decide+kernel,by decide+kernel⟩
noncomputable abbrev Cf:nl:=top 96
noncomputable abbrev XH:List Str:=["calls","net","given","start","number","stop","answer"]
noncomputable abbrev nO:List Str:=["calls"]
theorem JW:ut XH nO (sn Cf):=⟨rfl,rfl,rfl,by decide+kernel,rfl,by decide+kernel,by decide+kernel⟩
structure aV where
 CHANGES:ac
 QUESTIONS:ac
 ARGUMENTS:ac
 Net:ac
 Grid:ac
 Table:ac
 fns:List ac
structure Txt (mg:Str->Option al) (Ad:aV):Prop where
 LIMIT:∃t,mg "LIMIT"=some (.int (1000000000) t)
 MOST_POINTS:∃t,mg "MOST_POINTS"=some (.int (7) t)
 OUT_OF_RANGE:∃t,mg "OUT_OF_RANGE"=some (.int (-1) t)
 Mg:∃t,mg "NO_ROOM"=some (.int (-2) t)
 tY:∃t,mg "NO_SUCH_POINT"=some (.int (-3) t)
 BAD_NUMBER:∃t,mg "BAD_NUMBER"=some (.int (-4) t)
 NOTHING_THERE:∃t,mg "NOTHING_THERE"=some (.int (-5) t)
 MOST_TIMES:∃t,mg "MOST_TIMES"=some (.int (1000) t)
 LAST_CHANGE:∃t,mg "LAST_CHANGE"=some (.int (7) t)
 CHANGES:mg "CHANGES"=some (.ref Ad.CHANGES)
 QUESTIONS:mg "QUESTIONS"=some (.ref Ad.QUESTIONS)
 ARGUMENTS:mg "ARGUMENTS"=some (.ref Ad.ARGUMENTS)
 Net:mg "Net"=some (.ref Ad.Net)
 Grid:mg "Grid"=some (.ref Ad.Grid)
 Table:mg "Table"=some (.ref Ad.Table)
 EC:mg "all"=none
 aJ:mg "len"=none
 w6:mg "abs"=none
 dY:mg "min"=none
 lD:mg "max"=none
 cH:mg "range"=none
 gX:mg "sorted"=none
 lF:mg "set"=none
 Bn:mg "reversed"=none
 AN:mg "enumerate"=none
 rD:mg "sum"=none
 fE:mg "list"=none
end Sq
end
local macro_rules | `(tactic| walk_at "rd") => `(tactic| try simp only [L2.Fm, L2.Oe, L2.O1, L2.acS, L2.Od, L2.rX, L2.eV, L2.Fn, L2.tC, L2.OY, L2.EH, L2.tB, L2.O0, L2.OT, L2.Qc, L2.Oa, L2.adw, L2.acR, L2.Qb, L2.Ei, L2.sP, L2.Qg, L2.jr, L2.rU, L2.Ob, L2.Fl, L2.F0, L2.OZ, L2.O3, L2.EF, L2.Fj, L2.Fi, L2.Qa, L2.j0, L2.Og, L2.acT, Sq.aaN, Sq.ab5, L2.EA, L2.E9, L2.NY, L2.NZ, L2.N0, L2.E8, L2.Ez, L2.OU, L2.PX, L2.OV, L2.Oc, L2.OW, L2.N_, L2.NJ, L2.NK, L2.NL, L2.EG, L2.Ou, L2.Qe, L2.M3, L2.Of, L2.rI, L2.start, List.map_cons, List.map_nil, List.length_cons, List.length_nil, List.replicate, List.append_nil, List.nil_append, List.cons_append, List.getElem?_cons_zero, List.getElem?_cons_succ, List.set_cons_zero, List.set_cons_succ, L2.wipe, Option.some.injEq, L2.V.int.injEq, L2.V.bl.injEq, L2.V.ref.injEq, List.cons.injEq, exists_eq_left', exists_eq_left, exists_eq_right, exists_and_left, true_and, and_true, Nat.reduceAdd, Nat.reduceSub, if_true, if_false, Bool.not_eq_true'])
section
namespace Sq
open PySem PySem.Spec PyProof.Rows L2
open Vbpcar (Pt)
noncomputable def KB(ps:List Pt):List (List Int):=ps.map λp=>[p.x,p.y]
theorem vh(ps:List Pt):(KB ps).length=ps.length:=dL ..
abbrev PL(H:Hp)(l:ac)(ps:List Pt):Prop:=TL H l (KB ps)
theorem PL.get{H:Hp}{l:ac}{ps:List Pt}{xs:List V}{i:Nat}{p:Pt}(h:PL H l ps)(hl:H l=some (.lst xs))(hi:ps[i]? =some p):
 ∃a,xs[i]? =some (V.ref a)/\H a=some (.tup [.int p.x,.int p.y]):=
 TL.get h hl (by unfold KB;rw[wP,hi];rfl)
theorem PL.lst{H:Hp}{l:ac}{ps:List Pt}(h:PL H l ps):∃xs,H l=some (.lst xs)/\xs.length=ps.length:=by
 obtain⟨xs,h1,h2⟩:=TL.lst h
 exact⟨xs,h1,by rw[h2,vh]⟩
theorem PL.at{H:Hp}{l:ac}{ps:List Pt}{xs:List V}{i:Nat}{x:V}{p:Pt}(h:PL H l ps)(hl:H l=some (.lst xs))(hx:xs[i]? =some x)(hp:ps[i]? =some p):
 ∃a,x=V.ref a/\H a=some (.tup [.int p.x,.int p.y]):=by
 obtain⟨a,h1,h2⟩:=PL.get h hl hp
 rw[hx]at h1
 exact⟨a,TD h1,h2⟩
theorem bh{n:Nat}(h:n<=7):n<sizeLine:=gH h (by decide)
theorem foldl_min:∀(l:List Int)(a:Int),(l.foldl min a=a\/l.foldl min a∈l)/\l.foldl min a<=a/\∀y∈l,l.foldl min a<=y
 |[],a=>⟨.inl rfl,Cu _,λ_ h=>nomatch h⟩
 |x::l,a=>by
  obtain⟨h1,h2,h3⟩:=foldl_min l (min a x)
  rw[kH]
  refine⟨?_,by lia,λy hy=> ?_⟩
  .rcases h1 with h1|h1
   .by_cases h:a<=x
    .exact .inl (by rw[h1];lia)
    .exact .inr (by rw[h1];have:min a x=x:=by lia
                    rw[this];exact Go ..)
   .exact .inr (AT _ h1)
  .rcases wl.mp hy with rfl|hy
   .lia
   .exact h3 y hy
theorem foldl_max:∀(l:List Int)(a:Int),(l.foldl max a=a\/l.foldl max a∈l)/\a<=l.foldl max a/\∀y∈l,y<=l.foldl max a
 |[],a=>⟨.inl rfl,Cu _,λ_ h=>nomatch h⟩
 |x::l,a=>by
  obtain⟨h1,h2,h3⟩:=foldl_max l (max a x)
  rw[kH]
  refine⟨?_,by lia,λy hy=> ?_⟩
  .rcases h1 with h1|h1
   .by_cases h:x<=a
    .exact .inl (by rw[h1];lia)
    .exact .inr (by rw[h1];have:max a x=x:=by lia
                    rw[this];exact Go ..)
   .exact .inr (AT _ h1)
  .rcases wl.mp hy with rfl|hy
   .lia
   .exact h3 y hy
theorem aak{l:List Int}{m:Int}(hm:m∈l)(h:∀y∈l,m<=y):m=cf l:=by
 cases l with
 |nil=>cases hm
 |cons a l=>
  show m=l.foldl min a
  obtain⟨h1,h2,h3⟩:=foldl_min l a
  have a1:m<=l.foldl min a:=by
   rcases h1 with h1|h1
   .rw[h1];exact h a (Go ..)
   .exact h _ (AT _ h1)
  have a2:l.foldl min a<=m:=by
   rcases wl.mp hm with rfl|hm
   .exact h2
   .exact h3 m hm
  lia
theorem aai{l:List Int}{m:Int}(hm:m∈l)(h:∀y∈l,y<=m):m=cD l:=by
 cases l with
 |nil=>cases hm
 |cons a l=>
  show m=l.foldl max a
  obtain⟨h1,h2,h3⟩:=foldl_max l a
  have a1:l.foldl max a<=m:=by
   rcases h1 with h1|h1
   .rw[h1];exact h a (Go ..)
   .exact h _ (AT _ h1)
  have a2:m<=l.foldl max a:=by
   rcases wl.mp hm with rfl|hm
   .exact h2
   .exact h3 m hm
  lia
theorem wB{K:ge}{H:Hp}{a:ac}{ns:List Int}{Q:VK}(h:IL H a ns)(bn:0<ns.length)(q:Q (.int (cf ns)) H):Ff K [.ref a] H Q:=
 ⟨a,ns,rfl,aa.of h,bn,λm hm hy=>by rw[aak hm hy];exact q⟩
theorem DL{K:ge}{H:Hp}{a:ac}{ns:List Int}{Q:VK}(h:IL H a ns)(bn:0<ns.length)(q:Q (.int (cD ns)) H):Fe K [.ref a] H Q:=
 ⟨a,ns,rfl,aa.of h,bn,λm hm hy=>by rw[aai hm hy];exact q⟩
theorem IL.of{α:Type}{H:Hp}{l:ac}{ds:List α}{f:α->Int}(h:H l=some (.lst (ds.map λd=>V.int (f d)))):IL H l (ds.map f):=by
 unfold IL
 rw[h,P6]
 rfl
section
variable{P:lw}{w:li}{K:ge}{mg:Str->Option al}{base:io}{Ad:aV}
theorem V1(x y:Int):aq ⟨x,y⟩=(decide (-1000000000<=x)&&(decide (x<=1000000000)&&(decide (-1000000000<=y)&&decide (y<=1000000000)))):=by
 unfold aq vz
 simp only[Jv]
def nt:Sp:=λvs H Q _=>∃x y,vs=[.int x,.int y]/\Q (.bl (aq ⟨x,y⟩)) H
theorem U2{f:ac}{fd:on}(F:re K "in_range" "in_range" BG f fd)(T:Txt mg Ad):o0 P w K mg base ae 1 f fd jG nt:=by
 have nd:=Je.nd
 refine F.ok Je (λvs H Q E h=> ?_) (λlm A outer s H vs Q E hr h=> ?_)
 .obtain⟨x,y,rfl,_⟩:=h
  rfl
 .obtain⟨x,y,rfl,k⟩:=h
  refine⟨_,(jp (pi (abC (CP jS jS (oP oy (aY T.LIMIT)) (pv 0) (aY T.LIMIT)) (abF (CP jS jS (oP oy (aY T.LIMIT)) (pv 1) (aY T.LIMIT)))))),?_⟩
  walk_at "rd"
  rw[V1]at k
  revert k
  generalize decide (-1000000000<=x)=b1
  generalize decide (x<=1000000000)=b2
  generalize decide (-1000000000<=y)=b3
  generalize decide (y<=1000000000)=b4
  cases b1<;>cases b2<;>cases b3<;>exact id
def yt:Sp:=λvs H Q _=>∃l ps,vs=[.ref l]/\PL H l ps/\ps.length<=7/\∀H',db H H'->Q (.bl (ps.all aq)) H'
theorem Q5{f:ac}{fd:on}(F:re K "all_in_range" "all_in_range" yM f fd)(T:Txt mg Ad)(dH:Def P w K mg base "in_range" 1 jG nt):
 o0 P w K mg base ae 2 f fd pU yt:=by
 have nd:=GD.nd
 refine F.ok GD (λvs H Q E h=> ?_) (λlm A outer s H vs Q E hr h=> ?_)
 .obtain⟨l,ps,rfl,_⟩:=h
  rfl
 .obtain⟨l,ps,rfl,hP,h7,k⟩:=h
  obtain⟨xs,hl,hn⟩:=hP.lst
  refine⟨_,(jp (pi (FM (ZY K rfl rfl) (by rfl) T.EC aaW (am (ao rfl nd (P7 K rfl (pv 0)) (own:=[("x",1),("y",2)]) (Re rfl) (λ_ _ _ _ _=>(aF K rfl (n:=2) rfl (Da (xz 1 nd) (Da (xz 2 nd) aG)) rfl rfl)) (λ_ _ _ _ _=>T0) (λ_ _ _ _ _=>(sK dH (hr.mono (by decide)) (am (pv 1) (am (pv 2) bi))))) bi)))),?_⟩
  walk_at "rd"
  refine⟨⟨_,aa.of hl⟩,eQ ps (λp=>.bl (aq p)) hn.symm (by rw[hn];exact bh h7) (aa.of hl) (λi x p H' C hx hp s hC=> ?_) λD H' hD s hD'=> ?_⟩
  .obtain⟨a,rfl,ha⟩:=hP.at hl hx hp
   refine bB (s _ _ ha) ⟨rfl,?_⟩
   walk_at "rd"
   exact⟨_,_,rfl,hC _ (db.refl _)⟩
  .refine⟨D,ps.map aq,rfl,aa.of (by rw[hD',P6];rfl),?_⟩
   have e:(ps.map aq).all id=ps.all aq:=by rw[BW];rfl
   rw[e]
   exact k H' s
noncomputable def eX(n:Nat)(i:Int):Bool:=decide (0<=i/\i<(n:Int))
def qg:Sp:=λvs H Q _=>∃l xs i,vs=[.ref l,.int i]/\H l=some (.lst xs)/\Q (.bl (eX xs.length i)) H
theorem TX{f:ac}{fd:on}(F:re K "has_point" "has_point" A2 f fd)(T:Txt mg Ad):o0 P w K mg base ae 1 f fd kN qg:=by
 have nd:=Iq.nd
 refine F.ok Iq (λvs H Q E h=> ?_) (λlm A outer s H vs Q E hr h=> ?_)
 .obtain⟨l,xs,i,rfl,_⟩:=h
  rfl
 .obtain⟨l,xs,i,rfl,hl,k⟩:=h
  refine⟨_,(jp (pi (CP jS rE nb (pv 1) (FM (aW K rfl) (by rfl) T.aJ aZ (am (pv 0) bi))))),?_⟩
  walk_at "rd"
  have e:eX xs.length i=(decide (0<=i)&&decide (i<(xs.length:Int))):=Jv ..
  rw[e]at k
  refine cW (λh=> ?_) (λh=> ?_)
  .refine⟨xs,.inl (aa.of hl),?_⟩
   rw[h]at k
   exact k
  .rw[Yc.mpr h]at k
   exact k
theorem JH(i:Int):(if i<0 then-i else i)=(i.natAbs:Int):=by split<;>lia
def iO:Sp:=λvs H Q _=>∃a b p q,vs=[.ref a,.ref b]/\H a=some (.tup [.int p.x,.int p.y])/\H b=some (.tup [.int q.x,.int q.y])/\Q (.int (aj p q:Nat)) H
theorem U0{f:ac}{fd:on}(F:re K "distance" "distance" BD f fd)(T:Txt mg Ad):o0 P w K mg base ae 1 f fd gh iO:=by
 have nd:=Jc.nd
 refine F.ok Jc (λvs H Q E h=> ?_) (λlm A outer s H vs Q E hr h=> ?_)
 .obtain⟨a,b,p,q,rfl,_⟩:=h
  rfl
 .obtain⟨a,b,p,q,rfl,ha,hb,k⟩:=h
  refine⟨_,(jp (pi (wp bz (FM Lh (by rfl) T.w6 Nd (am (wp cj (ul (bf K rfl) (pv 0) nb (λ_ _=>rfl)) (ul (bf K rfl) (pv 1) nb (λ_ _=>rfl))) bi)) (FM Lh (by rfl) T.w6 Nd (am (wp cj (ul (bf K rfl) (pv 0) nb (λ_ _=>rfl)) (ul (bf K rfl) (pv 1) nb (λ_ _=>rfl))) bi))))),?_⟩
  walk_at "rd"
  refine aO ha rfl (aO hb rfl ?_)
  walk_at "rd"
  refine aO ha rfl (aO hb rfl ?_)
  walk_at "rd"
  rw[JH,JH]
  exact k
def vJ:Sp:=λvs H Q _=>∃l ps,vs=[.ref l]/\PL H l ps/\ps.length<=7/\ps≠[]/\
 ∀H' p,db H H'->IL H' p [cf (ps.map λp=>p.x),cf (ps.map λp=>p.y),cD (ps.map λp=>p.x),cD (ps.map λp=>p.y)]->Q (.ref p) H'
theorem XN{f:ac}{fd:on}(F:re K "bounds" "bounds" CW f fd)(T:Txt mg Ad):o0 P w K mg base ae 1 f fd nY vJ:=by
 have nd:=KI.nd
 refine F.ok KI (λvs H Q E h=> ?_) (λlm A outer s H vs Q E hr h=> ?_)
 .obtain⟨l,ps,rfl,_⟩:=h
  rfl
 .obtain⟨l,ps,rfl,hP,h7,bn,k⟩:=h
  obtain⟨xs,hl,hn⟩:=hP.lst
  have cO:0<ps.length:=pP.mpr bn
  refine⟨_,(ga (jK (i:=1) rfl nd rfl rfl (jN rfl rfl rfl rfl) (P7 K rfl (pv 0)) (own:=[("x",3),("y",4)]) (Re rfl) (λ_ _ _ _ _=>(aF K rfl (n:=2) rfl (Da (xz 3 nd) (Da (xz 4 nd) aG)) rfl rfl)) (λ_ _ _ _ _=>T0) (λ_ _ _ _ _=>(pv 3)))
   (ga (jK (i:=2) rfl nd rfl rfl (jN rfl rfl rfl rfl) (P7 K rfl (pv 0)) (own:=[("x",3),("y",4)]) (Re rfl) (λ_ _ _ _ _=>(aF K rfl (n:=2) rfl (Da (xz 3 nd) (Da (xz 4 nd) aG)) rfl rfl)) (λ_ _ _ _ _=>T0) (λ_ _ _ _ _=>(pv 4)))
   (jp (pi (xL (am (FM (wj K rfl rfl) (by rfl) T.dY eR (am (pv 1) bi)) (am (FM (wj K rfl rfl) (by rfl) T.dY eR (am (pv 2) bi)) (am (FM (Di K rfl rfl) (by rfl) T.lD qZ (am (pv 1) bi)) (am (FM (Di K rfl rfl) (by rfl) T.lD qZ (am (pv 2) bi)) bi))))))))),?_⟩
  walk_at "rd"
  refine⟨⟨_,aa.of hl⟩,eQ ps (λp=>.int p.x) hn.symm (by rw[hn];exact bh h7) (aa.of hl) (λi x p H' C hx hp s hC=> ?_) λD1 H1 hD1 s1 h1=> ?_⟩
  .obtain⟨a,rfl,ha⟩:=hP.at hl hx hp
   refine bB (s _ _ ha) ⟨rfl,?_⟩
   walk_at "rd"
   exact hC _ (db.refl _)
  walk_at "rd"
  refine⟨⟨_,aa.of (s1 _ _ hl)⟩,eQ ps (λp=>.int p.y) hn.symm (by rw[hn];exact bh h7) (aa.of (s1 _ _ hl)) (λi x p H' C hx hp s hC=> ?_) λD2 H2 hD2 s2 h2=> ?_⟩
  .obtain⟨a,rfl,ha⟩:=hP.at hl hx hp
   refine bB (s _ _ (s1 _ _ ha)) ⟨rfl,?_⟩
   walk_at "rd"
   exact hC _ (db.refl _)
  walk_at "rd"
  have x1:IL H2 D1 (ps.map λp=>p.x):=IL.same s2 (IL.of h1)
  have y1:IL H2 D2 (ps.map λp=>p.y):=IL.of h2
  refine wB x1 (by rw[dL];exact cO) (wB y1 (by rw[dL];exact cO) (DL x1 (by rw[dL];exact cO) (DL y1 (by rw[dL];exact cO) ⟨by decide,λp hp=> ?_⟩)))
  exact k _ p ((s1.trans s2).trans (cr hp)) bv
def A4:Sp:=λvs H Q _=>∃l xs,vs=[.ref l]/\H l=some (.lst xs)/\Q (.bl (decide (xs.length<7))) H
theorem U1{f:ac}{fd:on}(F:re K "has_room" "has_room" BF f fd)(T:Txt mg Ad):o0 P w K mg base ae 1 f fd qy A4:=by
 have nd:=Jd.nd
 refine F.ok Jd (λvs H Q E h=> ?_) (λlm A outer s H vs Q E hr h=> ?_)
 .obtain⟨l,xs,rfl,_⟩:=h
  rfl
 .obtain⟨l,xs,rfl,hl,k⟩:=h
  refine⟨_,(jp (pi (aaA rE (FM (aW K rfl) (by rfl) T.aJ aZ (am (pv 0) bi)) (aY T.MOST_POINTS) (bx _)))),?_⟩
  walk_at "rd"
  refine⟨xs,.inl (aa.of hl),?_⟩
  have e:decide ((xs.length:Int)<7)=decide (xs.length<7):=by
   by_cases h:xs.length<7
   .rw[decide_eq_true h,decide_eq_true (by lia)]
   .rw[decide_eq_false h,decide_eq_false (by lia)]
  rw[e]
  exact k
end
end Sq
end
section
namespace Sq
open PySem PySem.Spec PyProof.Rows L2
open Vbpcar (Pt)
open VbpcarNeutral (callOf)
noncomputable def ie(l:ac):List (Str×V):=[("points",.ref l)]
theorem CK(l m:ac):Gc "points" (.ref m) (ie l)=ie m:=by
 show(if("points":Str)="points" then[(("points":Str),V.ref m)]else _)=([("points",V.ref m)]:List (Str×V))
 rw[if_pos rfl]
theorem eB(l:ac):(ie l).lookup ("points":Str)=some (.ref l):=by
 unfold ie
 rw[kD,beq_self_eq_true]
def acg(C:ac)(H:Hp)(n:ac)(ps:List Pt):Prop:=∃dx l,H n=some (.ins C dx (ie l))/\PL H l ps
def bK(C g:ac)(H:Hp)(n:ac)(ps:List Pt):Prop:=∃dx l,H n=some (.ins C dx (ie l))/\PL H l ps/\l≠g
structure Good (ps:List Pt):Prop where
 len:ps.length<=7
 dc:∀p∈ps,aq p=true
def Is(n:ac)(H H':Hp):Prop:=∀b o,H b=some o->b≠n->H' b=some o
theorem Is.of_same{n:ac}{H H':Hp}(s:db H H'):Is n H H':=λb o h _=>s b o h
theorem bK.same{C g n:ac}{H H':Hp}{ps:List Pt}(s:db H H')(h:bK C g H n ps):bK C g H' n ps:=by
 obtain⟨dx,l,h1,h2,h3⟩:=h
 exact⟨dx,l,s _ _ h1,TL.same s h2,h3⟩
theorem bK.free{C g n t:ac}{H H':Hp}{ps:List Pt}(h:bK C g H' n ps)(o:Is n H H')(ht:H' t=none):H t=none:=by
 obtain⟨dx,l,h1,_⟩:=h
 cases e:H t with
 |none=>rfl
 |some u=>
  by_cases hn:t=n
  .subst hn;rw[h1]at ht;cases ht
  .rw[o t u e hn]at ht;cases ht
structure Cl (K:ge) (C:ac):Prop where
 cl:il K C
 nP:dW K C "points"
theorem TL.other{H:Hp}{n l C dx:ac}{fs:List (Str×V)}{o:HO}{Ix:List (List Int)}(hn:H n=some (.ins C dx fs))(h:TL H l Ix):TL (upd H n o) l Ix:=by
 obtain⟨zs,h1,h2,h3⟩:=h
 refine⟨zs,by rw[gl (P8 h1 hn (by intro q;cases q))];exact h1,h2,λz hz=> ?_⟩
 show upd H n o z.1=_
 rw[gl (P8 (h3 z hz) hn (by intro q;cases q))];exact h3 z hz
theorem jM{C g n dx l m:ac}{H H1:Hp}{ps:List Pt}(s:db H H1)(hn:H1 n=some (.ins C dx (ie l)))(hm:PL H1 m ps)(hg:m≠g):
 bK C g (upd H1 n (.ins C dx (Gc "points" (.ref m) (ie l)))) n ps/\Is n H (upd H1 n (.ins C dx (Gc "points" (.ref m) (ie l)))):=by
 refine⟨⟨dx,m,?_,TL.other hn hm,hg⟩,λb o hb bn=> ?_⟩
 .rw[bv,CK]
 .rw[gl bn];exact s _ _ hb
theorem wW{H:Hp}{l p:ac}{ns:List Int}(hp:H p=some (.tup (ns.map V.int)))(hl:H l=some (.lst [.ref p])):TL H l [ns]:=
 ⟨[(p,ns)],hl,rfl,λz hz=>by cases zn.mp hz;exact hp⟩
theorem CU(ps:List Pt)(p:Pt):KB (ps++[p])=KB ps++[[p.x,p.y]]:=by unfold KB;rw[GM];rfl
theorem a8{n:Nat}(h:n<=100):n<sizeLine:=gH h (by decide)
theorem Zg(ps:List Pt)(k:Nat):KB (ps.take k)=(KB ps).take k:=by unfold KB;rw[uZ]
theorem Zf(ps:List Pt)(k:Nat):KB (ps.drop k)=(KB ps).drop k:=by unfold KB;rw[uY]
theorem JT(ps qs:List Pt):KB (ps++qs)=KB ps++KB qs:=by unfold KB;rw[GM]
theorem PL.Oh{H:Hp}{l p:ac}{ps:List Pt}{us:List V}{k:Nat}(h:PL H l ps)(hu:H l=some (.lst us))(hp:H p=none)(hk:k<=ps.length):
 PL (upd H p (.lst (aU us none (some (k:Int))))) p (ps.take k):=by
 have e:=TL.cut h hu hp none (some (k:Int))
 rw[VW _ (by rw[vh];exact hk),<-Zg]at e
 exact e
theorem PL.Eo{H:Hp}{l p:ac}{ps:List Pt}{us:List V}{k:Nat}(h:PL H l ps)(hu:H l=some (.lst us))(hp:H p=none)(hk:k<=ps.length):
 PL (upd H p (.lst (aU us (some (k:Int)) none))) p (ps.drop k):=by
 have e:=TL.cut h hu hp (some (k:Int)) none
 rw[Xf _ (by rw[vh];exact hk),<-Zf]at e
 exact e
theorem PL.EU{H:Hp}{l m p:ac}{ps qs:List Pt}{us vs:List V}(h:PL H l ps)(k:PL H m qs)(hu:H l=some (.lst us))(hv:H m=some (.lst vs))(hp:H p=none):
 PL (upd H p (.lst (us++vs))) p (ps++qs):=by
 have e:=TL.cat h k hu hv hp
 rw[<-JT]at e
 exact e
theorem sN{K:ge}{H:Hp}{a:ac}{xs:List V}{lo hi:Option Int}{Q:VK}(h:H a=some (.lst xs))(q:∀p,H p=none->Q (.ref p) (upd H p (.lst (aU xs lo hi)))):Fg K (.ref a) lo hi H Q:=
 ⟨a,xs,rfl,aa.of h,q⟩
theorem qQ{n:Nat}{i:Int}(h:eX n i=true):∃k:Nat,i=(k:Int)/\k<n:=by
 have h':=of_decide_eq_true h
 exact⟨i.toNat,by lia,by lia⟩
theorem PL.len{H:Hp}{l:ac}{ps:List Pt}{xs:List V}(h:PL H l ps)(hl:H l=some (.lst xs)):xs.length=ps.length:=by
 obtain⟨ys,h1,h2⟩:=PL.lst h
 rw[hl]at h1;cases h1;exact h2
def gC(C:ac)(j:Int):Sp:=λvs H Q _=>∃n a g ps ns c,vs=[.ref n,.ref a]/\(∃o,H g=some o)/\bK C g H n ps/\Good ps/\IL H a ns/\(∀x∈ns,-1000000000000000000<=x/\x<=1000000000000000000)/\callOf [j::ns]=some c/\
 ∀H' p,bK C g H' n (au ps c).1->Is n H H'->H p=none->IL H' p (au ps c).2->Q (.ref p) H'
def dF(j:Int):Sp:=λvs H Q _=>∃l a ps ns c,vs=[.ref l,.ref a]/\PL H l ps/\Good ps/\IL H a ns/\(∀x∈ns,-1000000000000000000<=x/\x<=1000000000000000000)/\callOf [j::ns]=some c/\
 ∀H' p,db H H'->H p=none->IL H' p (au ps c).2->Q (.ref p) H'
section
variable{ns:List Int}{c:gc}
theorem acj(h:callOf [0::ns]=some c):ns=[]/\c=.begin_:=by
 rcases ns with _|⟨x,_|⟨y,_|⟨z,_|⟨u,r⟩⟩⟩⟩<;>first|(cases h;exact⟨rfl,rfl⟩)|cases h
theorem ack(h:callOf [1::ns]=some c):∃x y,ns=[x,y]/\c=.add x y:=by
 rcases ns with _|⟨x,_|⟨y,_|⟨z,_|⟨u,r⟩⟩⟩⟩<;>first|(cases h;exact⟨_,_,rfl,rfl⟩)|cases h
theorem acm(h:callOf [2::ns]=some c):∃i,ns=[i]/\c=.remove i:=by
 rcases ns with _|⟨x,_|⟨y,_|⟨z,_|⟨u,r⟩⟩⟩⟩<;>first|(cases h;exact⟨_,rfl,rfl⟩)|cases h
theorem acn(h:callOf [3::ns]=some c):∃i x y,ns=[i,x,y]/\c=.move i x y:=by
 rcases ns with _|⟨x,_|⟨y,_|⟨z,_|⟨u,r⟩⟩⟩⟩<;>first|(cases h;exact⟨_,_,_,rfl,rfl⟩)|cases h
theorem aco(h:callOf [4::ns]=some c):∃x y,ns=[x,y]/\c=.shift x y:=by
 rcases ns with _|⟨x,_|⟨y,_|⟨z,_|⟨u,r⟩⟩⟩⟩<;>first|(cases h;exact⟨_,_,rfl,rfl⟩)|cases h
theorem acp(h:callOf [5::ns]=some c):∃k,ns=[k]/\c=.turn k:=by
 rcases ns with _|⟨x,_|⟨y,_|⟨z,_|⟨u,r⟩⟩⟩⟩<;>first|(cases h;exact⟨_,rfl,rfl⟩)|cases h
theorem acq(h:callOf [6::ns]=some c):ns=[]/\c=.flip:=by
 rcases ns with _|⟨x,_|⟨y,_|⟨z,_|⟨u,r⟩⟩⟩⟩<;>first|(cases h;exact⟨rfl,rfl⟩)|cases h
theorem acr(h:callOf [7::ns]=some c):∃k,ns=[k]/\c=.scale k:=by
 rcases ns with _|⟨x,_|⟨y,_|⟨z,_|⟨u,r⟩⟩⟩⟩<;>first|(cases h;exact⟨_,rfl,rfl⟩)|cases h
theorem acs(h:callOf [8::ns]=some c):ns=[]/\c=.points:=by
 rcases ns with _|⟨x,_|⟨y,_|⟨z,_|⟨u,r⟩⟩⟩⟩<;>first|(cases h;exact⟨rfl,rfl⟩)|cases h
theorem acu(h:callOf [9::ns]=some c):ns=[]/\c=.box:=by
 rcases ns with _|⟨x,_|⟨y,_|⟨z,_|⟨u,r⟩⟩⟩⟩<;>first|(cases h;exact⟨rfl,rfl⟩)|cases h
theorem aaZ(h:callOf [10::ns]=some c):ns=[]/\c=.half:=by
 rcases ns with _|⟨x,_|⟨y,_|⟨z,_|⟨u,r⟩⟩⟩⟩<;>first|(cases h;exact⟨rfl,rfl⟩)|cases h
theorem aa0(h:callOf [11::ns]=some c):∃i j,ns=[i,j]/\c=.dist i j:=by
 rcases ns with _|⟨x,_|⟨y,_|⟨z,_|⟨u,r⟩⟩⟩⟩<;>first|(cases h;exact⟨_,_,rfl,rfl⟩)|cases h
theorem aa1(h:callOf [12::ns]=some c):ns=[]/\c=.span:=by
 rcases ns with _|⟨x,_|⟨y,_|⟨z,_|⟨u,r⟩⟩⟩⟩<;>first|(cases h;exact⟨rfl,rfl⟩)|cases h
end
section
variable(ps:List Pt)
noncomputable def bC(r:DT (qp×List Int)):qp×List Int:=match r with
 |.ok x=>x
 |.error n=>(ps,[n])
theorem bQ(b:Bool)(n:Int)(k:DT (qp×List Int)):bC ps (bO b n >>= λ_=>k)=if b=true then bC ps k else(ps,[n]):=by
 cases b<;>rfl
theorem fA(x:qp×List Int):bC ps (pure x)=x:=rfl
theorem LY(x y:Int):au ps (.add x y)=if aq ⟨x,y⟩=true then(if decide (ps.length<7)=true then(ps++[⟨x,y⟩],[(ps.length:Int)])else(ps,[-2]))else(ps,[-1]):=by
 show bC ps (bO _ _ >>= λ_=>bO _ _ >>= λ_=>pure _)=_
 rw[bQ,bQ,fA];rfl
theorem Jj(i:Int):au ps (.remove i)=if eX ps.length i=true then(ps.eraseIdx i.toNat,[(ps.length:Int)-1])else(ps,[-3]):=by
 show bC ps (bO _ _ >>= λ_=>pure _)=_
 rw[bQ,fA];rfl
theorem KW(i x y:Int):au ps (.move i x y)=if aq ⟨x,y⟩=true then(if eX ps.length i=true then(ps.set i.toNat ⟨x,y⟩,[0])else(ps,[-3]))else(ps,[-1]):=by
 show bC ps (bO _ _ >>= λ_=>bO _ _ >>= λ_=>pure _)=_
 rw[bQ,bQ,fA];rfl
theorem vn(f:Pt->Pt):bC ps (Vbpcar.moved ps f)=if(ps.map f).all aq=true then(ps.map f,[0])else(ps,[-1]):=by
 show bC ps (bO _ _ >>= λ_=>pure _)=_
 rw[bQ,fA]
theorem J2(n:Int):au ps (.scale n)=if(ps.map λp=>(⟨n*p.x,n*p.y⟩:Pt)).all aq=true then(if decide (1<=n/\n<=1000)=true then(ps.map λp=>(⟨n*p.x,n*p.y⟩:Pt),[0])else(ps,[-4]))else(ps,[-1]):=by
 show bC ps (bO _ _ >>= λ_=>bO _ _ >>= λ_=>pure _)=_
 rw[bQ,bQ,fA]
theorem Zw:au ps .box=if(!ps.isEmpty)=true then(ps,[0,cf (ps.map λp=>p.x),cf (ps.map λp=>p.y),cD (ps.map λp=>p.x),cD (ps.map λp=>p.y)])else(ps,[-5]):=by
 show bC ps (bO _ _ >>= λ_=>pure _)=_
 rw[bQ,fA]
theorem X1(i j:Int):au ps (.dist i j)=if eX ps.length i=true then(if eX ps.length j=true then(ps,[(aj (ps.getD i.toNat ⟨0,0⟩) (ps.getD j.toNat ⟨0,0⟩):Int)])else(ps,[-3]))else(ps,[-3]):=by
 show bC ps (bO _ _ >>= λ_=>bO _ _ >>= λ_=>pure _)=_
 rw[bQ,bQ,fA];rfl
end
end Sq
end
section
namespace Sq
open Vbpcar (Pt Table)
section
variable(ns others:Array Pt)
noncomputable def bb(k:Nat):Table:=(sw k).foldl (λt s=>t.push (iN ns others t s)) #[]
theorem L3(k:Nat):bb ns others (k+1)=(bb ns others k).push (iN ns others (bb ns others k) k):=by
 unfold bb
 rw[kI,IA]
 rfl
theorem L1:∀k,(bb ns others k).size=k
 |0=>rfl
 |k+1=>by rw[L3,Array.size_push,L1 k]
theorem wF{s:Nat}:∀{k:Nat},s<k->(bb ns others k).getD s #[]=iN ns others (bb ns others s) s
 |0,h=>nomatch h
 |k+1,h=>by
  rw[L3,fT,Array.getElem?_push,L1]
  by_cases e:s=k
  .rw[if_pos e,e];rfl
  .rw[if_neg e,<-fT]
   exact wF (by lia)
theorem iR{s a:Nat}(h:a∈P9 s):0<a/\a<s:=by
 unfold P9 at h
 rw[dh,Pi]at h
 obtain⟨h1,h2⟩:=h
 refine⟨?_,h1⟩
 rw[cQ,bne_iff_ne]at h2
 lia
theorem Sd{t t':Table}{n s:Nat}(h:∀a,a<s->t.getD a #[]=t'.getD a #[]):kL t n s=kL t' n s:=by
 unfold kL
 congr 1
 funext u
 congr 1
 refine fY λa ha=> ?_
 obtain⟨h0,h1⟩:=iR ha
 unfold S0
 rw[h a h1,h (s-a) (by lia)]
theorem U_{t t':Table}{s:Nat}(h:∀a,a<s->t.getD a #[]=t'.getD a #[]):iN ns others t s=iN ns others t' s:=by
 unfold iN
 rw[Sd h]
theorem Zy{s k:Nat}(h:s<k):(bb ns others k).getD s #[]=iN ns others (bb ns others k) s:=by
 rw[wF ns others h]
 refine U_ ns others λa ha=> ?_
 rw[wF ns others ha,wF ns others (by lia)]
theorem Ve:Vbpcar.tableOf ns others=bb ns others (2 ^ others.size):=rfl
end
theorem DA{l:List Nat}{n:Nat}(h:n∈l):fw l<=n:=by
 have key:∀(l:List Nat)(a:Nat),l.foldl min a<=a/\∀y∈l,l.foldl min a<=y:=by
  intro l
  induction l with
  |nil=>intro a;exact⟨nn _,λ_ h=>nomatch h⟩
  |cons x l ih=>
   intro a
   obtain⟨h1,h2⟩:=ih (min a x)
   rw[kH]
   refine⟨by lia,λy hy=> ?_⟩
   rcases wl.mp hy with rfl|hy
   .lia
   .exact h2 y hy
 cases l with
 |nil=>cases h
 |cons a l=>
  show l.foldl min a<=n
  rcases wl.mp h with rfl|h
  .exact(key l n).1
  .exact(key l a).2 n h
theorem YZ{l:List Nat}(h:l≠[]):fw l∈l:=by
 have key:∀(l:List Nat)(a:Nat),l.foldl min a=a\/l.foldl min a∈l:=by
  intro l
  induction l with
  |nil=>intro a;exact .inl rfl
  |cons x l ih=>
   intro a
   rw[kH]
   rcases ih (min a x)with h|h
   .rw[h]
    rcases qE a x with h'|h'
    .exact .inl (kJ h')
    .exact .inr (by rw[Js h'];exact Go ..)
   .exact .inr (AT _ h)
 cases l with
 |nil=>exact absurd rfl h
 |cons a l=>
  show l.foldl min a∈a::l
  rcases key l a with h|h
  .rw[h];exact Go ..
  .exact AT _ h
theorem MC{l:List Nat}{m:Nat}(h:m∈l)(h':∀y∈l,m<=y):fw l=m:=
 Nat.le_antisymm (DA h) (h' _ (YZ (W0 h)))
theorem Ce{z y:Int}:∀{l:List Int},y∈gM z l↔y=z\/y∈l
 |[]=>by simp[gM]
 |x::l=>by
  unfold gM
  split
  .simp
  .split
   .rename_i h;subst h;simp
   .rw[wl,Ce (l:=l),wl]
    constructor
    .rintro(h|h|h)
     .exact .inr (.inl h)
     .exact .inl h
     .exact .inr (.inr h)
    .rintro(h|h|h)
     .exact .inr (.inl h)
     .exact .inl h
     .exact .inr (.inr h)
theorem LM{z:Int}:∀{l:List Int},l.Pairwise (·<·)->(gM z l).Pairwise (·<·)
 |[],_=>by simp[gM]
 |x::l,h=>by
  unfold gM
  obtain⟨h1,h2⟩:=be.mp h
  split
  .rename_i hz
   refine be.mpr ⟨λy hy=> ?_,h⟩
   rcases wl.mp hy with rfl|hy
   .exact hz
   .have:=h1 y hy;lia
  .split
   .exact h
   .refine be.mpr ⟨λy hy=> ?_,LM h2⟩
    rcases Ce.mp hy with rfl|hy
    .lia
    .exact h1 y hy
theorem dI{y:Int}:∀{l:List Int},y∈ni l↔y∈l
 |[]=>Iff.rfl
 |x::l=>by
  show y∈gM x (ni l)↔_
  rw[Ce,dI,wl]
theorem dM:∀(l:List Int),(ni l).Pairwise (·<·)
 |[]=>.nil
 |x::l=>LM (dM l)
theorem wN:∀{l m:List Int},l.Pairwise (·<·)->m.Pairwise (·<·)->(∀y,y∈l↔y∈m)->l=m
 |[],[],_,_,_=>rfl
 |[],b::m,_,_,h=>nomatch (h b).mpr (Go ..)
 |a::l,[],_,_,h=>nomatch (h a).mp (Go ..)
 |a::l,b::m,hl,hm,h=>by
  obtain⟨l1,l2⟩:=be.mp hl
  obtain⟨m1,m2⟩:=be.mp hm
  have e:a=b:=by
   rcases wl.mp ((h a).mp (Go ..))with e|e
   .exact e
   .rcases wl.mp ((h b).mpr (Go ..))with e'|e'
    .exact e'.symm
    .have:=m1 a e;have:=l1 b e';lia
  subst e
  refine congrArg _ (wN l2 m2 λy=>⟨λhy=> ?_,λhy=> ?_⟩)
  .rcases wl.mp ((h y).mp (AT _ hy))with e|e
   .have:=l1 y hy;lia
   .exact e
  .rcases wl.mp ((h y).mpr (AT _ hy))with e|e
   .have:=m1 y hy;lia
   .exact e
theorem Ck{l m:List Int}(hm:m.Pairwise (·<·))(h:∀y,y∈m↔y∈l):ni l=m:=
 wN (dM l) hm λy=>by rw[dI,h y]
theorem vk(l:List Int):(ni l).length<=l.length:=by
 have key:∀(z:Int)(m:List Int),(gM z m).length<=m.length+1:=by
  intro z m
  induction m with
  |nil=>simp[gM]
  |cons x m ih=>
   unfold gM
   split
   .simp
   .split
    .simp
    .simp only[Os];lia
 induction l with
 |nil=>exact nn _
 |cons x l ih=>
  show(gM x (ni l)).length<=_
  have:=key x (ni l)
  rw[Os];lia
noncomputable def insI(z:Int)(r:List Int):List Int:=(r.takeWhile λy=>decide (y<z))++z::r.dropWhile λy=>decide (y<z)
theorem insI_perm(z:Int)(r:List Int):(insI z r).Perm (z::r):=by
 unfold insI
 refine zE.trans ?_
 rw[List.takeWhile_append_dropWhile]
theorem IP{z:Int}:∀{r:List Int},r.Pairwise (·<=·)->(insI z r).Pairwise (·<=·)
 |[],_=>by simp[insI]
 |x::r,h=>by
  obtain⟨h1,h2⟩:=be.mp h
  have ih:=IP (z:=z) h2
  by_cases hx:x<z
  .have e:insI z (x::r)=x::insI z r:=by
    unfold insI
    rw[List.takeWhile_cons_of_pos (by simpa using hx),List.dropWhile_cons_of_pos (by simpa using hx),ui]
   rw[e]
   refine be.mpr ⟨λy hy=> ?_,ih⟩
   rcases wl.mp ((insI_perm z r).mem_iff.mp hy)with rfl|hy
   .lia
   .exact h1 y hy
  .have e:insI z (x::r)=z::x::r:=by
    unfold insI
    rw[List.takeWhile_cons_of_neg (by simpa using hx),List.dropWhile_cons_of_neg (by simpa using hx),List.nil_append]
   rw[e]
   refine be.mpr ⟨λy hy=> ?_,h⟩
   rcases wl.mp hy with rfl|hy
   .lia
   .have:=h1 y hy;lia
theorem Nt:∀{l m:List Int},l.Pairwise (·<=·)->m.Pairwise (·<=·)->l.Perm m->l=m
 |[],m,_,_,h=>(List.nil_perm.mp h).symm
 |a::l,[],_,_,h=>nomatch List.perm_nil.mp h
 |a::l,b::m,hl,hm,h=>by
  obtain⟨l1,l2⟩:=be.mp hl
  obtain⟨m1,m2⟩:=be.mp hm
  have e:a=b:=by
   rcases wl.mp (h.mem_iff.mp (Go ..))with e|e
   .exact e
   .rcases wl.mp (h.symm.mem_iff.mp (Go ..))with e'|e'
    .exact e'.symm
    .have:=m1 a e;have:=l1 b e';lia
  subst e
  exact congrArg _ (Nt l2 m2 (T_ h))
theorem AL:∀(l:List Int),(l.foldr insI []).Perm l/\(l.foldr insI []).Pairwise (·<=·)
 |[]=>⟨.nil,.nil⟩
 |x::l=>by
  obtain⟨h1,h2⟩:=AL l
  exact⟨(insI_perm x _).trans (h1.cons x),IP h2⟩
theorem XD{l m:List Int}(hp:m.Perm l)(hs:m.Pairwise (·<=·)):Vbpcar.middle l=m.getD ((m.length-1) / 2) 0:=by
 have e:l.foldr insI []=m:=Nt (AL l).2 hs ((AL l).1.trans hp.symm)
 show(l.foldr insI []).getD (((l.foldr insI []).length-1) / 2) 0=_
 rw[e]
theorem gR{p:Pt}:∀{l:List Pt},p∈b9 l↔p∈l
 |[]=>Iff.rfl
 |q::l=>by
  unfold b9
  rw[wl,dh,gR,wl]
  constructor
  .rintro(h|h)
   .exact .inl h
   .exact .inr h.1
  .rintro(h|h)
   .exact .inl h
   .by_cases e:p=q
    .exact .inl e
    .exact .inr ⟨h,by simpa using e⟩
theorem AK(p:Pt):∀(l:List Pt),b9 (l++[p])=if p∈l then b9 l else b9 l++[p]
 |[]=>rfl
 |q::l=>by
  rw[ui]
  unfold b9
  rw[AK p l]
  by_cases h:p∈l
  .rw[if_pos h,if_pos (AT _ h)]
  .rw[if_neg h,mG]
   by_cases e:p=q
   .subst e
    rw[if_pos (Go ..)]
    simp
   .rw[if_neg (λhm=>(wl.mp hm).elim e h)]
    simp[e]
theorem nF:∀(l:List Pt),(b9 l).length<=l.length
 |[]=>nn _
 |p::l=>by
  unfold b9
  rw[Os,Os]
  exact Ah (Ch (iC ..) (nF l))
end Sq
end
section
namespace Sq
open Vbpcar (Pt)
open VbpcarNeutral (callOf)
theorem Wx{p:Int}{n k:Nat}(h:ef p=some (n,k)):k=0:=by
 have key:∀{c:Prop}[Decidable c]{a:Nat}{o:Option (Nat×Nat)},(o=some (n,k)->k=0)->(if c then some (a,0)else o)=some (n,k)->k=0:=by
  intro c _ a o ho h
  split at h
  .cases h;rfl
  .exact ho h
 unfold ef at h
 revert h
 iterate 25 refine key ?_
 intro h
 cases h
theorem JJ{f:Nat}{p:Int}{r:List Int}{cs:List (List (List Int))}(h:jD ef f (p::r)=some cs):
 ∃n f' cs',cs=[p::r.take n]::cs'/\ef p=some (n,0)/\n<=r.length/\jD ef f' (r.drop n)=some cs':=by
 cases f with
 |zero=>cases h
 |succ f=>
  unfold jD at h
  cases hc:PyFlat.call ef (p::r)with
  |none=>rw[hc]at h;cases h
  |some ct=>
   obtain⟨c,t⟩:=ct
   rw[hc]at h
   dsimp only at h
   unfold PyFlat.call at hc
   dsimp only at hc
   cases hs:ef p with
   |none=>rw[hs]at hc;cases hc
   |some nk=>
    obtain⟨n,k⟩:=nk
    obtain rfl:=Wx hs
    rw[hs]at hc
    dsimp only[PyFlat.rows]at hc
    split at hc
    .cases hc
    .rename_i hn
     cases hc
     cases hq:jD ef f (r.drop n)with
     |none=>rw[hq]at h;cases h
     |some cs'=>
      rw[hq]at h
      cases h
      exact⟨n,f,cs',rfl,rfl,by lia,hq⟩
theorem Kl{f:Nat}{cs:List (List (List Int))}(h:jD ef f []=some cs):cs=[]:=by
 cases f<;>(cases h;rfl)
noncomputable def ph(ps:List Pt)(cs:List (List (List Int))):List Int:=PyFlat.told (PyFlat.played pO ps cs)
theorem Z0(ps:List Pt):ph ps []=[]:=rfl
theorem YE(ps:List Pt){l:List (List Int)}{c:gc}(cs:List (List (List Int)))(h:callOf l=some c):
 ph ps (l::cs)=(((au ps c).2.length:Int)::(au ps c).2)++ph (au ps c).1 cs:=by
 have e:pO ps l=au ps c:=by
  unfold pO
  rw[h]
 unfold ph PyFlat.told
 show((pO ps l).2::PyFlat.played pO (pO ps l).1 cs).flatMap _=_
 rw[e,iH]
theorem ZG(l:List Pt):(wn l).length<=l.length:=Ch (vk _) (nz (dL ..))
theorem ZH(l:List Pt):(Db l).length<=l.length:=Ch (vk _) (nz (dL ..))
theorem nq{α β:Type}{f:α->List β}{k:Nat}:∀{l:List α},(∀a∈l,(f a).length<=k)->(l.flatMap f).length<=l.length*k
 |[],_=>by simp
 |a::l,h=>by
  rw[iH,Rs,Os,jF]
  have h1:=h a (Go ..)
  have h2:=nq (l:=l) λb hb=>h b (AT _ hb)
  lia
theorem gW{l:List Pt}(h:l.length<=7):(f_ l).length<=49:=by
 refine Ch (nq (k:=7) λy _=> ?_) ?_
 .rw[dL];exact Ch (ZG l) h
 .exact gF 7 (Ch (ZH l) h)
theorem XB{l:List Pt}(h:l.length<=7):(qt l).length<=98:=by
 refine Ch (nq (k:=2) λp _=> ?_) (gF 2 (gW h))
 rw[Rs]
 have h1:(match(wn l).find? λx=>decide (p.x<x)with|some x=>[(p,(⟨x,p.y⟩:Pt))]|none=>[]).length<=1:=by split<;>simp
 have h2:(match(Db l).find? λy=>decide (p.y<y)with|some y=>[(p,(⟨p.x,y⟩:Pt))]|none=>[]).length<=1:=by split<;>simp
 exact Kc h1 h2
theorem vf:∀(k:Nat)(l:List Nat),∀o∈dk k l,o.length<=k
 |0,[],o,h=>by
  unfold dk at h
  cases zn.mp h;exact nn _
 |k+1,[],o,h=>by
  unfold dk at h
  cases zn.mp h;exact SC _
 |0,a::l,o,h=>by
  unfold dk at h
  cases h
 |k+1,a::l,o,h=>by
  unfold dk at h
  obtain⟨i,_,hi⟩:=mT.mp h
  obtain⟨r,hr,rfl⟩:=nw.mp hi
  exact Ah (vf k _ r hr)
theorem G1(f:List Nat->Nat):∀(l:List (List Nat)),l≠[]->(b8 f l).2∈l
 |[],h=>absurd rfl h
 |[a],_=>Go ..
 |a::b::r,_=>by
  show(if f a<=(b8 f (b::r)).1 then(f a,a)else b8 f (b::r)).2∈_
  split
  .exact Go ..
  .exact AT _ (G1 f (b::r) (by simp))
theorem yK{f:List Nat->Nat}{l:List (List Nat)}{k:Nat}(h:∀o∈l,o.length<=k):(b8 f l).2.length<=k:=by
 cases l with
 |nil=>exact SC _
 |cons a l=>exact h _ (G1 f _ (by simp))
theorem Xc(l:List Pt):(qr l).2.length<=l.length:=yK (vf _ _)
theorem Zo(l:List Pt):(qF l).2.length<=l.length:=by
 cases l with
 |nil=>exact nn _
 |cons p t=>exact Ah (yK (vf _ _))
theorem C7{l:List Pt}(h:l.length<=7):(SB l).length<=98:=Ch (iC ..) (XB h)
theorem B4(l:List Pt){k:Nat}(h:l.length<=k):(pQ l).length<=2*k+1:=by
 unfold pQ
 rw[Os]
 have:=nq (l:=l) (f:=λp=>[p.x,p.y]) (k:=2) λ_ _=>nn _
 lia
end Sq
end
section
namespace Sq
open Vbpcar (Pt)
noncomputable def dA{α:Type}(a b:Nat×α):Nat×α:=if a.1<=b.1 then a else b
theorem Xd{α:Type}(a b c:Nat×α):dA a (dA b c)=dA (dA a b) c:=by
 unfold dA
 by_cases h1:b.1<=c.1<;>by_cases h2:a.1<=b.1
 .have h3:a.1<=c.1:=by lia
  simp[h1,h2,h3]
 .simp[h1,h2]
 .by_cases h3:a.1<=c.1<;>simp[h1,h2,h3]
 .have h3:¬a.1<=c.1:=by lia
  simp[h1,h2,h3]
theorem qP(f:List Nat->Nat)(a:List Nat){r:List (List Nat)}(h:r≠[]):b8 f (a::r)=dA (f a,a) (b8 f r):=by
 cases r with
 |nil=>exact absurd rfl h
 |cons b r=>rfl
theorem Kn(f:List Nat->Nat):∀{A B:List (List Nat)},A≠[]->B≠[]->b8 f (A++B)=dA (b8 f A) (b8 f B)
 |[],_,h,_=>absurd rfl h
 |[a],B,_,h=>qP f a h
 |a::b::A,B,_,h=>by
  rw[ui,qP f a (by simp),Kn f (A:=b::A) (by simp) h,qP f a (r:=b::A) (by simp),Xd]
noncomputable def fQ(g:Nat->Nat×List Nat):List Nat->Nat×List Nat
 |[]=>(0,[])
 |[a]=>g a
 |a::b::r=>dA (g a) (fQ g (b::r))
theorem Ms(f:List Nat->Nat)(g:Nat->List (List Nat)):∀(l:List Nat),(∀i∈l,g i≠[])->b8 f (l.flatMap g)=fQ (λi=>b8 f (g i)) l
 |[],_=>rfl
 |[a],_=>by simp[fQ]
 |a::b::r,h=>by
  have hb:(b::r).flatMap g≠[]:=by
   rw[iH]
   intro e
   exact h b (by simp) (Ue.mp e).1
  rw[iH,Kn f (h a (by simp)) hb,Ms f g (b::r) λi hi=>h i (AT _ hi)]
  rfl
theorem Lo(g:Nat->Nat×List Nat):∀{l:List Nat},l≠[]->∃i∈l,fQ g l=g i
 |[],h=>absurd rfl h
 |[a],_=>⟨a,by simp,rfl⟩
 |a::b::r,_=>by
  obtain⟨i,hi,e⟩:=Lo g (l:=b::r) (by simp)
  show ∃i∈_,dA (g a) (fQ g (b::r))=g i
  unfold dA
  split
  .exact⟨a,by simp,rfl⟩
  .exact⟨i,AT _ hi,e⟩
theorem Ni(g:Nat->Nat×List Nat){j:Nat}:∀{l:List Nat},l.Pairwise (·<·)->j∈l->(∀i∈l,(g j).1<(g i).1\/((g j).1=(g i).1/\j<=i))->fQ g l=g j
 |[],_,h,_=>nomatch h
 |[a],_,h,_=>by rw[zn.mp h];rfl
 |a::b::r,hl,h,hm=>by
  obtain⟨l1,l2⟩:=be.mp hl
  show dA (g a) (fQ g (b::r))=g j
  unfold dA
  by_cases e:j=a
  .subst e
   obtain⟨i,hi,ei⟩:=Lo g (l:=b::r) (by simp)
   rw[if_pos]
   rw[ei]
   rcases hm i (AT _ hi)with h'|h'<;>lia
  .have hj:j∈b::r:=(wl.mp h).resolve_left e
   rw[Ni g l2 hj λi hi=>hm i (AT _ hi),if_neg]
   have:=l1 j hj
   rcases hm a (by simp)with h'|h'<;>lia
theorem Nh(f f':List Nat->Nat)(c i:Nat)(hf:∀r,f (i::r)=c+f' r):∀{L:List (List Nat)},L≠[]->b8 f (L.map λr=>i::r)=(c+(b8 f' L).1,i::(b8 f' L).2)
 |[],h=>absurd rfl h
 |[a],_=>by
  show(f (i::a),i::a)=(c+f' a,i::a)
  rw[hf]
 |a::b::L,_=>by
  rw[FS,qP f _ (by simp),Nh f f' c i hf (L:=b::L) (by simp),qP f' a (by simp),hf]
  unfold dA
  by_cases h:f' a<=(b8 f' (b::L)).1
  .rw[if_pos h,if_pos (show c+f' a<=c+_ by lia)]
  .rw[if_neg h,if_neg (show ¬c+f' a<=c+_ by lia)]
theorem Ho{l:List Nat}(hn:l.Nodup){i:Nat}(h:i∈l):(l.filter λj=>j != i).length+1=l.length:=by
 induction l with
 |nil=>cases h
 |cons a l ih=>
  obtain⟨h1,h2⟩:=gJ.mp hn
  by_cases e:a=i
  .subst e
   have:l.filter (λj=>j != a)=l:=yC.mpr λj hj=>by
    simp only[bne_iff_ne]
    intro e;subst e;exact h1 hj
   rw[Gx (by simp),this,Os]
  .rw[T' (by simpa using e),Os,Os,ih h2 ((wl.mp h).resolve_left (λq=>e q.symm))]
theorem KC:∀(k:Nat){l:List Nat},l.Nodup->l.length<=k->dk k l≠[]
 |0,l,_,h=>by
  have:l=[]:=cC.mp (by lia)
  subst this
  simp[dk]
 |k+1,[],_,_=>by simp[dk]
 |k+1,a::l,hn,h=>by
  unfold dk
  rw[iH]
  intro e
  have e1:=(Ue.mp e).1
  have hlen:=Ho hn (i:=a) (by simp)
  refine KC k (l:=(a::l).filter λj=>j != a) (hn.filter _) (by lia) (iF.mp e1)
noncomputable def wk(d:Nat->Nat->Nat)(wf:Nat->Nat):Nat->List Nat->Nat
 |here,[]=>wf here
 |here,i::r=>d here i+wk d wf i r
noncomputable def Op(d:Nat->Nat->Nat)(wf:Nat->Nat)(l:List Nat)(here:Nat):Nat×List Nat:=b8 (wk d wf here) (dk l.length l)
theorem Mi(d:Nat->Nat->Nat)(wf:Nat->Nat)(here:Nat):Op d wf [] here=(wf here,[]):=rfl
theorem U5{k:Nat}{l:List Nat}(h:l.length=k+1):dk l.length l=l.flatMap λi=>(dk k (l.filter λj=>j != i)).map λr=>i::r:=by
 rw[h]
 cases l with
 |nil=>cases h
 |cons a l=>rfl
theorem ZV(d:Nat->Nat->Nat)(wf:Nat->Nat){l:List Nat}(hn:l.Nodup)(h:l≠[])(f:List Nat->Nat)(c:Nat->Nat)(hf:∀i∈l,∀r,f (i::r)=c i+wk d wf i r):
 b8 f (dk l.length l)=fQ (λi=>(c i+(Op d wf (l.filter λj=>j != i) i).1,i::(Op d wf (l.filter λj=>j != i) i).2)) l:=by
 obtain⟨k,hk⟩:∃k,l.length=k+1:=⟨l.length-1,by have:=pP.mpr h;lia⟩
 have hi:∀i∈l,(l.filter λj=>j != i).length=k:=λi hi=>by have:=Ho hn hi;lia
 have bn:∀i∈l,dk k (l.filter λj=>j != i)≠[]:=λi h'=>KC k (hn.filter _) (by rw[hi i h'];exact nn _)
 rw[U5 hk,Ms f _ l λi h' e=>bn i h' (iF.mp e)]
 have key:∀(m:List Nat),(∀i∈m,i∈l)->fQ (λi=>b8 f ((dk k (l.filter λj=>j != i)).map λr=>i::r)) m=fQ (λi=>(c i+(Op d wf (l.filter λj=>j != i) i).1,i::(Op d wf (l.filter λj=>j != i) i).2)) m:=by
  intro m
  induction m with
  |nil=>intro _;rfl
  |cons a m ih=>
   intro hm
   have ha:b8 f ((dk k (l.filter λj=>j != a)).map λr=>a::r)=(c a+(Op d wf (l.filter λj=>j != a) a).1,a::(Op d wf (l.filter λj=>j != a) a).2):=by
    rw[Nh f (wk d wf a) (c a) a (hf a (hm a (by simp))) (bn a (hm a (by simp)))]
    unfold Op
    rw[hi a (hm a (by simp))]
   cases m with
   |nil=>exact ha
   |cons b m=>
    show dA _ (fQ _ (b::m))=dA _ (fQ _ (b::m))
    rw[ih λi hi=>hm i (AT _ hi)]
    exact congrArg (λz=>dA z _) ha
 exact key l λi hi=>hi
theorem Le(d:Nat->Nat->Nat)(wf:Nat->Nat){l:List Nat}(hl:l.Pairwise (·<·))(f:List Nat->Nat)(c:Nat->Nat)(hf:∀i∈l,∀r,f (i::r)=c i+wk d wf i r){j:Nat}(hj:j∈l)
 (hm:∀i∈l,c j+(Op d wf (l.filter λk=>k != j) j).1<c i+(Op d wf (l.filter λk=>k != i) i).1\/(c j+(Op d wf (l.filter λk=>k != j) j).1=c i+(Op d wf (l.filter λk=>k != i) i).1/\j<=i)):
 b8 f (dk l.length l)=(c j+(Op d wf (l.filter λk=>k != j) j).1,j::(Op d wf (l.filter λk=>k != j) j).2):=by
 have hn:l.Nodup:=hl.imp λh=>Ps h
 rw[ZV d wf hn (W0 hj) f c hf]
 exact Ni _ hl hj hm
theorem Yx(d:Nat->Nat->Nat)(wf:Nat->Nat){l:List Nat}(hl:l.Pairwise (·<·))(here:Nat){j:Nat}(hj:j∈l)
 (hm:∀i∈l,d here j+(Op d wf (l.filter λk=>k != j) j).1<d here i+(Op d wf (l.filter λk=>k != i) i).1\/(d here j+(Op d wf (l.filter λk=>k != j) j).1=d here i+(Op d wf (l.filter λk=>k != i) i).1/\j<=i)):
 Op d wf l here=(d here j+(Op d wf (l.filter λk=>k != j) j).1,j::(Op d wf (l.filter λk=>k != j) j).2):=
 Le d wf hl (wk d wf here) (d here) (λ_ _ _=>rfl) hj hm
noncomputable def KM(n rest:Nat):List Nat:=(sw n).filter λi=>rest.testBit i
theorem aaY(n rest:Nat):(KM n rest).Pairwise (·<·):=Gh _ iB
theorem Dz{n rest i:Nat}:i∈KM n rest↔i<n/\rest.testBit i=true:=by
 unfold KM
 rw[dh,Pi]
theorem CB:∀rest<128,∀i<7,rest.testBit i=true->2 ^ i<=rest/\∀j<7,(rest-2 ^ i).testBit j=(rest.testBit j&&(j != i)):=by decide+kernel
theorem qJ{n rest i:Nat}(hn:n<=7)(hr:rest<128)(hi:i∈KM n rest):KM n (rest-2 ^ i)=(KM n rest).filter λj=>j != i:=by
 obtain⟨h1,h2⟩:=Dz.mp hi
 have:=(CB rest hr i (by lia) h2).2
 unfold KM
 rw[List.filter_filter]
 refine Yh λj hj=> ?_
 rw[this j (by have:=Pi.mp hj;lia),Bool.and_comm]
theorem Lg(n:Nat):KM n 0=[]:=by
 unfold KM
 refine GR.mpr λi _=> ?_
 simp
theorem Ml:∀n≤7,∀rest<2 ^ n,rest≠0->KM n rest≠[]:=by decide+kernel
theorem wg:∀n≤7,KM n (2 ^ n-1)=sw n:=by decide+kernel
theorem ZT:∀rest<128,∀i<7,(decide (rest &&& 2 ^ i=2 ^ i))=rest.testBit i:=by decide+kernel
noncomputable def dP(ps:List Pt)(i j:Nat):Nat:=aj (ps.getD i ⟨0,0⟩) (ps.getD j ⟨0,0⟩)
theorem M6(ps:List Pt):∀(r:List Nat)(i:Nat),uW ps (i::r)=wk (dP ps) (λ_=>0) i r
 |[],_=>rfl
 |j::r,i=>by
  show dP ps i j+uW ps (j::r)=dP ps i j+wk (dP ps) (λ_=>0) j r
  rw[M6 ps r j]
theorem MS(ps:List Pt):∀(r:List Nat)(i:Nat),uW ps (i::(r++[0]))=wk (dP ps) (λk=>dP ps k 0) i r
 |[],_=>rfl
 |j::r,i=>by
  show dP ps i j+uW ps (j::(r++[0]))=dP ps i j+wk (dP ps) (λk=>dP ps k 0) j r
  rw[MS ps r j]
theorem VQ{ps:List Pt}(UV:ps.length<=7){j:Nat}(hj:j<ps.length)
 (hm:∀i<ps.length,(Op (dP ps) (λ_=>0) (KM ps.length (2 ^ ps.length-1-2 ^ j)) j).1<(Op (dP ps) (λ_=>0) (KM ps.length (2 ^ ps.length-1-2 ^ i)) i).1\/((Op (dP ps) (λ_=>0) (KM ps.length (2 ^ ps.length-1-2 ^ j)) j).1=(Op (dP ps) (λ_=>0) (KM ps.length (2 ^ ps.length-1-2 ^ i)) i).1/\j<=i)):
 qr ps=((Op (dP ps) (λ_=>0) (KM ps.length (2 ^ ps.length-1-2 ^ j)) j).1,j::(Op (dP ps) (λ_=>0) (KM ps.length (2 ^ ps.length-1-2 ^ j)) j).2):=by
 have h2:2 ^ ps.length-1<128:=by
  have:2 ^ ps.length<=2 ^ 7:=bM (by decide) UV
  lia
 have e:∀i<ps.length,KM ps.length (2 ^ ps.length-1-2 ^ i)=(sw ps.length).filter λk=>k != i:=λi hi=>by
  rw[qJ UV h2 (by rw[wg _ UV];exact Pi.mpr hi),wg _ UV]
 have key:=Le (dP ps) (λ_=>0) (l:=sw ps.length) iB (uW ps) (λ_=>0) (λi _ r=>by rw[M6,gQ]) (Pi.mpr hj) (λi hi=>by
  have:=hm i (Pi.mp hi)
  rw[e i (Pi.mp hi),e j hj]at this
  simpa using this)
 rw[aI]at key
 unfold qr
 rw[key,e j hj]
 simp
theorem aaF{ps:List Pt}(UV:ps.length<=7)(h0:ps≠[]):qF ps=((Op (dP ps) (λk=>dP ps k 0) (KM ps.length (2 ^ ps.length-1-2 ^ 0)) 0).1,0::(Op (dP ps) (λk=>dP ps k 0) (KM ps.length (2 ^ ps.length-1-2 ^ 0)) 0).2):=by
 cases ps with
 |nil=>exact absurd rfl h0
 |cons p t=>
  have h2:2 ^ (p::t).length-1<128:=by
   have:2 ^ (p::t).length<=2 ^ 7:=bM (by decide) UV
   lia
  have e:KM (p::t).length (2 ^ (p::t).length-1-2 ^ 0)=(sw t.length).map λi=>i+1:=by
   rw[qJ UV h2 (by rw[wg _ UV];exact Pi.mpr (by simp)),wg _ UV,Os,x9,Gx (by simp)]
   exact yC.mpr λx hx=>by
    obtain⟨y,_,rfl⟩:=nw.mp hx
    simp
  have e2:Vbpcar.ringOf (p::t)=wk (dP (p::t)) (λk=>dP (p::t) k 0) 0:=by
   funext r
   exact MS (p::t) r 0
  rw[e]
  unfold qF Op
  rw[e2]
  simp
end Sq
end
section
namespace Sq
open Vbpcar (Pt)
noncomputable def gt(xs ys:List Int):List Pt:=ys.flatMap λy=>xs.map λx=>⟨x,y⟩
theorem Kr(xs:List Int)(y:Int)(ys:List Int):gt xs (y::ys)=(xs.map λx=>(⟨x,y⟩:Pt))++gt xs ys:=by unfold gt;rw[iH]
theorem cF(xs:List Int):∀ys:List Int,(gt xs ys).length=ys.length*xs.length
 |[]=>by simp[gt]
 |y::ys=>by rw[Kr,Rs,cF xs ys,dL,Os,jF,L8]
theorem eA(xs:List Int):∀(ys:List Int){i:Nat},i<ys.length*xs.length->(gt xs ys)[i]? =some ⟨xs.getD (i % xs.length) 0,ys.getD (i / xs.length) 0⟩
 |[],i,h=>by simp at h
 |y::ys,i,h=>by
  rw[Kr]
  by_cases hi:i<xs.length
  .rw[mz (by rw[dL];exact hi),wP,wS hi,p9 hi,p8 hi]
   simp[Sc,hi]
  .have h0:0<xs.length:=by
    rcases jw xs.length with e|e
    .rw[e]at h;simp at h
    .exact e
   rw[pJ (by rw[dL];lia),dL,eA xs ys (by rw[Os,jF]at h;lia)]
   have e1:i % xs.length=(i-xs.length) % xs.length:=by
    conv=>lhs;rw[show i=(i-xs.length)+xs.length by lia]
    exact Nat.add_mod_right ..
   have e2:i / xs.length=(i-xs.length) / xs.length+1:=by
    conv=>lhs;rw[show i=(i-xs.length)+xs.length by lia]
    exact Nat.add_div_right _ h0
   rw[e1,e2]
   rfl
theorem Dx{l:List Int}(h:l.Pairwise (·<·)){i j:Nat}(d8:i<j)(hj:j<l.length):l.getD i 0<l.getD j 0:=by
 rw[Sc,Sc,wS hj,wS (by lia)]
 exact sW.mp h i j (by lia) hj d8
theorem iX{l:List Int}(h:l.Pairwise (·<·)){i j:Nat}(d8:i<=j)(hj:j<l.length):l.getD i 0<=l.getD j 0:=by
 rcases mH d8 with e|e
 .have:=Dx h e hj;lia
 .rw[e];exact Cu _
noncomputable def dZ(r:List Nat)(s:Nat×Nat×Nat):List Nat:=r.set s.2.1 (min (r.getD s.2.1 0) (r.getD s.1 0+s.2.2))
noncomputable def dR(r:List Nat)(steps:List (Nat×Nat×Nat)):List Nat:=steps.foldl dZ r
theorem vH(r:List Nat)(s:Nat×Nat×Nat):(dZ r s).length=r.length:=uq ..
theorem vm:∀(steps:List (Nat×Nat×Nat))(r:List Nat),(dR r steps).length=r.length
 |[],_=>rfl
 |s::steps,r=>by
  show(dR (dZ r s) steps).length=_
  rw[vm steps,vH]
theorem CI(r:List Nat)(i v x:Nat):(r.set i x).getD v 0=if i=v/\v<r.length then x else r.getD v 0:=by
 rw[Sc,Yi,Sc]
 by_cases h:i=v
 .subst h
  by_cases h2:i<r.length
  .simp[h2]
  .simp[h2]
 .simp[h]
theorem Zn(r:List Nat)(s:Nat×Nat×Nat)(v:Nat):(dZ r s).getD v 0<=r.getD v 0:=by
 unfold dZ
 rw[CI]
 split
 .rename_i h
  rw[<-h.1];lia
 .exact nn _
def cX(n:Nat):Nat->List (Nat×Nat×Nat)->Nat->Nat->Prop
 |u,[],v,c=>u=v/\c=0
 |u,s::r,v,c=>s.1=u/\s.2.1<n/\∃c',c=s.2.2+c'/\cX n s.2.1 r v c'
theorem cX.cat{n:Nat}:∀{A B:List (Nat×Nat×Nat)}{u m v c d:Nat},cX n u A m c->cX n m B v d->cX n u (A++B) v (c+d)
 |[],_,_,_,_,_,_,h,k=>by
  obtain⟨rfl,rfl⟩:=h
  rw[gQ];exact k
 |s::A,_,_,_,_,_,_,h,k=>by
  obtain⟨h1,h2,c',rfl,h3⟩:=h
  exact⟨h1,h2,_,by lia,cX.cat h3 k⟩
theorem Va{steps path:List (Nat×Nat×Nat)}(hs:path.Sublist steps):∀{r:List Nat}{u v c:Nat},cX r.length u path v c->(dR r steps).getD v 0<=r.getD u 0+c:=by
 induction hs with
 |slnil=>
  intro r u v c h
  obtain⟨rfl,rfl⟩:=h
  exact nn _
 |cons s _ ih=>
  intro r u v c h
  have h1:=ih (r:=dZ r s) (by rw[vH];exact h)
  have h2:=Zn r s u
  show(dR (dZ r s) _).getD v 0<=_
  lia
 |cons_cons s _ ih=>
  intro r u v c h
  obtain⟨rfl,h2,c',rfl,h3⟩:=h
  have h1:=ih (r:=dZ r s) (by rw[vH];exact h3)
  have h4:(dZ r s).getD s.2.1 0<=r.getD s.1 0+s.2.2:=by
   unfold dZ
   rw[CI,if_pos ⟨rfl,h2⟩]
   lia
  show(dR (dZ r s) _).getD v 0<=_
  lia
theorem Iy(D:Nat->Nat->Nat)(len:List Nat)(OF:∀a b c,D a c<=D a b+D b c):∀(steps:List (Nat×Nat×Nat))(r:List Nat),r.length=len.length->(∀s∈steps,s.1<len.length/\D s.2.1 s.1<=s.2.2)->
 (∀v<len.length,∃u<len.length,D v u+len.getD u 0<=r.getD v 0)->∀v<len.length,∃u<len.length,D v u+len.getD u 0<=(dR r steps).getD v 0
 |[],_,_,_,h=>h
 |s::steps,r,hl,hs,h=>by
  refine Iy D len OF steps (dZ r s) (by rw[vH,hl]) (λt ht=>hs t (AT _ ht)) λv hv=> ?_
  unfold dZ
  rw[CI]
  split
  .rename_i hq
   obtain⟨h1,h2⟩:=hs s (by simp)
   by_cases hm:r.getD s.2.1 0<=r.getD s.1 0+s.2.2
   .obtain⟨u,hu,q⟩:=h v hv
    refine⟨u,hu,?_⟩
    rw[kJ hm,hq.1];exact q
   .obtain⟨u,hu,q⟩:=h s.1 h1
    refine⟨u,hu,?_⟩
    have:=OF s.2.1 s.1 u
    rw[Js (by lia),<-hq.1]
    lia
  .exact h v hv
theorem vo:∀(m a:Nat){l:List Nat},l.Pairwise (·<·)->(∀x∈l,a<=x/\x<a+m)->l.Sublist (bP a m)
 |0,a,[],_,_=>List.Sublist.refl _
 |0,a,x::l,_,h=>by have:=h x (by simp);lia
 |m+1,a,[],_,_=>List.nil_sublist _
 |m+1,a,x::l,hl,h=>by
  obtain⟨h1,h2⟩:=be.mp hl
  rw[List.range'_succ]
  by_cases e:x=a
  .subst e
   refine List.Sublist.cons_cons x (vo m (x+1) h2 λy hy=> ?_)
   have:=h1 y hy
   have:=h y (by simp[hy])
   lia
  .refine List.Sublist.cons a (vo m (a+1) hl λy hy=> ?_)
   have hx:=h x (by simp)
   have:=h y hy
   rcases wl.mp hy with rfl|hy'
   .lia
   .have:=h1 y hy';lia
section
variable(xs ys:List Int)
noncomputable def dN(i j:Nat):Nat:=aj ((gt xs ys).getD i ⟨0,0⟩) ((gt xs ys).getD j ⟨0,0⟩)
noncomputable def gB:List Nat:=(bP 1 (ys.length*xs.length-1)).filter λi=>decide (i % xs.length≠0)
noncomputable def gE:List Nat:=bP xs.length (ys.length*xs.length-xs.length)
noncomputable def fR(i:Nat):Nat×Nat×Nat:=(i-1,i,dN xs ys (i-1) i)
noncomputable def fL(i:Nat):Nat×Nat×Nat:=(i,i-1,dN xs ys i (i-1))
noncomputable def fU(i:Nat):Nat×Nat×Nat:=(i-xs.length,i,dN xs ys (i-xs.length) i)
noncomputable def fD(i:Nat):Nat×Nat×Nat:=(i,i-xs.length,dN xs ys i (i-xs.length))
noncomputable def cI:List (Nat×Nat×Nat):=(gB xs ys).map (fR xs ys)++(gB xs ys).reverse.map (fL xs ys)++((gE xs ys).map (fU xs ys)++(gE xs ys).reverse.map (fD xs ys))
end
section
variable{xs ys:List Int}
theorem eu{i:Nat}(h:i<ys.length*xs.length):(gt xs ys).getD i ⟨0,0⟩=⟨xs.getD (i % xs.length) 0,ys.getD (i / xs.length) 0⟩:=by
 rw[Sc,eA xs ys h];rfl
theorem Qh(a b c:Int):(a-c).natAbs<=(a-b).natAbs+(b-c).natAbs:=by lia
theorem ke(a b:Int):(a-b).natAbs=(b-a).natAbs:=by rw[<-Int.natAbs_neg,Int.neg_sub]
theorem xQ{a b c:Int}(h:a<=b)(h':b<=c):(a-c).natAbs=(a-b).natAbs+(b-c).natAbs:=by lia
theorem YB(p q r:Pt):aj p r<=aj p q+aj q r:=Ch (Kc (Qh ..) (Qh ..)) (nz (Nat.add_add_add_comm ..))
theorem Xi(p q:Pt):aj p q=aj q p:=by unfold aj;rw[ke p.x,ke p.y]
theorem abg(a b c:Nat):dN xs ys a c<=dN xs ys a b+dN xs ys b c:=YB ..
theorem wm(a b:Nat):dN xs ys a b=dN xs ys b a:=Xi ..
theorem qO(a:Nat):dN xs ys a a=0:=by unfold dN aj;lia
theorem cell{c r w h:Nat}(hc:c<w)(hr:r<h):r*w+c<h*w/\(r*w+c) % w=c/\(r*w+c) / w=r:=by
 refine⟨?_,?_,?_⟩
 .have:(r+1)*w<=h*w:=gF w (by lia)
  rw[jF]at this;lia
 .rw[gP,uL];exact p9 hc
 .rw[gP,As (by lia),p8 hc,ft]
theorem dQ{c r c' r':Nat}(hc:c<xs.length)(hr:r<ys.length)(hc':c'<xs.length)(hr':r'<ys.length):
 dN xs ys (r*xs.length+c) (r'*xs.length+c')=(xs.getD c 0-xs.getD c' 0).natAbs+(ys.getD r 0-ys.getD r' 0).natAbs:=by
 obtain⟨h1,h2,h3⟩:=cell hc hr
 obtain⟨k1,k2,k3⟩:=cell hc' hr'
 unfold dN
 rw[eu h1,eu k1,h2,h3,k2,k3]
 rfl
theorem Km(hx:xs.Pairwise (·<·)){c r:Nat}(hr:r<ys.length):∀{k:Nat},c+k<xs.length->
 cX (ys.length*xs.length) (r*xs.length+c) ((bP (r*xs.length+c+1) k).map (fR xs ys)) (r*xs.length+(c+k)) (dN xs ys (r*xs.length+c) (r*xs.length+(c+k)))
 |0,h=>⟨rfl,qO _⟩
 |k+1,h=>by
  have ih:=Km hx hr (c:=c) (k:=k) (by lia)
  have e:bP (r*xs.length+c+1) (k+1)=bP (r*xs.length+c+1) k++[r*xs.length+(c+k)+1]:=by
   rw[WV];congr 2;lia
  rw[e,GM]
  have e2:dN xs ys (r*xs.length+c) (r*xs.length+(c+(k+1)))=dN xs ys (r*xs.length+c) (r*xs.length+(c+k))+dN xs ys (r*xs.length+(c+k)) (r*xs.length+(c+(k+1))):=by
   rw[dQ (by lia) hr (by lia) hr,dQ (by lia) hr (by lia) hr,dQ (by lia) hr (by lia) hr]
   have a:=iX hx (show c<=c+k by lia) (by lia)
   have b:=iX hx (show c+k<=c+(k+1) by lia) (by lia)
   rw[xQ a b,qD];simp only[uK,gQ,ft]
  rw[e2]
  exact cX.cat ih ⟨rfl,(cell (show c+(k+1)<xs.length from h) hr).1,0,rfl,rfl,rfl⟩
theorem Ll(hx:xs.Pairwise (·<·)){c r:Nat}(hr:r<ys.length):∀{k:Nat},c+k<xs.length->
 cX (ys.length*xs.length) (r*xs.length+(c+k)) ((bP (r*xs.length+c+1) k).reverse.map (fL xs ys)) (r*xs.length+c) (dN xs ys (r*xs.length+(c+k)) (r*xs.length+c))
 |0,h=>⟨rfl,qO _⟩
 |k+1,h=>by
  have ih:=Ll hx hr (c:=c) (k:=k) (by lia)
  have e:bP (r*xs.length+c+1) (k+1)=bP (r*xs.length+c+1) k++[r*xs.length+(c+k)+1]:=by
   rw[WV];congr 2;lia
  rw[e,WN,GM]
  have e2:dN xs ys (r*xs.length+(c+(k+1))) (r*xs.length+c)=dN xs ys (r*xs.length+(c+(k+1))) (r*xs.length+(c+k))+dN xs ys (r*xs.length+(c+k)) (r*xs.length+c):=by
   rw[dQ (by lia) hr (by lia) hr,dQ (by lia) hr (by lia) hr,dQ (by lia) hr (by lia) hr]
   have a:=iX hx (show c<=c+k by lia) (by lia)
   have b:=iX hx (show c+k<=c+(k+1) by lia) (by lia)
   have e:=xQ a b
   rw[qD];simp only[uK,gQ,ft]
   rw[ke,e,L8];congr 1<;>exact ke ..
  rw[e2]
  exact⟨rfl,(cell (show c+k<xs.length by lia) hr).1,_,rfl,ih⟩
theorem Nf(hy:ys.Pairwise (·<·)){c r:Nat}(hc:c<xs.length):∀{k:Nat},r+k<ys.length->
 cX (ys.length*xs.length) (r*xs.length+c) (((sw k).map λj=>(r+(j+1))*xs.length+c).map (fU xs ys)) ((r+k)*xs.length+c) (dN xs ys (r*xs.length+c) ((r+k)*xs.length+c))
 |0,h=>⟨rfl,qO _⟩
 |k+1,h=>by
  have ih:=Nf hy hc (r:=r) (k:=k) (by lia)
  rw[kI,GM,GM]
  have e2:dN xs ys (r*xs.length+c) ((r+(k+1))*xs.length+c)=dN xs ys (r*xs.length+c) ((r+k)*xs.length+c)+dN xs ys ((r+k)*xs.length+c) ((r+(k+1))*xs.length+c):=by
   rw[dQ hc (by lia) hc (by lia),dQ hc (by lia) hc (by lia),dQ hc (by lia) hc (by lia)]
   have a:=iX hy (show r<=r+k by lia) (by lia)
   have b:=iX hy (show r+k<=r+(k+1) by lia) (by lia)
   rw[xQ a b,qD];simp only[uK,gQ,ft]
  have e3:(r+(k+1))*xs.length+c-xs.length=(r+k)*xs.length+c:=by
   rw[show r+(k+1)=(r+k)+1 by lia,jF];lia
  rw[e2]
  exact cX.cat ih ⟨e3,(cell hc h).1,0,by show _=dN xs ys ((r+(k+1))*xs.length+c-xs.length) _+0;rw[e3];rfl,rfl,rfl⟩
theorem Lk(hy:ys.Pairwise (·<·)){c r:Nat}(hc:c<xs.length):∀{k:Nat},r+k<ys.length->
 cX (ys.length*xs.length) ((r+k)*xs.length+c) (((sw k).map λj=>(r+(j+1))*xs.length+c).reverse.map (fD xs ys)) (r*xs.length+c) (dN xs ys ((r+k)*xs.length+c) (r*xs.length+c))
 |0,h=>⟨rfl,qO _⟩
 |k+1,h=>by
  have ih:=Lk hy hc (r:=r) (k:=k) (by lia)
  rw[kI,GM,WN,GM]
  have e2:dN xs ys ((r+(k+1))*xs.length+c) (r*xs.length+c)=dN xs ys ((r+(k+1))*xs.length+c) ((r+k)*xs.length+c)+dN xs ys ((r+k)*xs.length+c) (r*xs.length+c):=by
   rw[dQ hc (by lia) hc (by lia),dQ hc (by lia) hc (by lia),dQ hc (by lia) hc (by lia)]
   have a:=iX hy (show r<=r+k by lia) (by lia)
   have b:=iX hy (show r+k<=r+(k+1) by lia) (by lia)
   have e:=xQ a b
   rw[qD];simp only[uK,gQ,ft]
   rw[ke,e,L8];congr 1<;>exact ke ..
  have e3:(r+(k+1))*xs.length+c-xs.length=(r+k)*xs.length+c:=by
   rw[show r+(k+1)=(r+k)+1 by lia,jF];lia
  rw[e2]
  refine⟨rfl,?_,dN xs ys ((r+k)*xs.length+c) (r*xs.length+c),?_,?_⟩
  .show(r+(k+1))*xs.length+c-xs.length<_
   rw[e3];exact(cell hc (by lia)).1
  .show _=dN xs ys _ ((r+(k+1))*xs.length+c-xs.length)+_
   rw[e3]
  .show cX _ ((r+(k+1))*xs.length+c-xs.length) _ _ _
   rw[e3];exact ih
theorem MZ{c r k:Nat}(hr:r<ys.length)(h:c+k<xs.length):(bP (r*xs.length+c+1) k).Sublist (gB xs ys):=by
 unfold gB
 have h1:(bP (r*xs.length+c+1) k).Sublist (bP 1 (ys.length*xs.length-1)):=by
  refine vo _ _ List.pairwise_lt_range' λx hx=> ?_
  rw[kx]at hx
  have:=(cell h hr).1
  lia
 have h2:=h1.filter λi=>decide (i % xs.length≠0)
 rwa [yC.mpr]at h2
 intro x hx
 rw[kx]at hx
 have e:x=r*xs.length+(c+(x-(r*xs.length+c))):=by lia
 have:=(cell (show c+(x-(r*xs.length+c))<xs.length by lia) hr).2.1
 rw[<-e]at this
 simp only[decide_eq_true_eq]
 lia
theorem M0{c r k:Nat}(hc:c<xs.length)(h:r+k<ys.length):((sw k).map λj=>(r+(j+1))*xs.length+c).Sublist (gE xs ys):=by
 unfold gE
 refine vo _ _ ?_ λx hx=> ?_
 .rw[ee]
  refine iB.imp λ{a b}cx=> ?_
  have:(r+(a+1))*xs.length+xs.length<=(r+(b+1))*xs.length:=by
   rw[<-jF];exact gF _ (by lia)
  lia
 .obtain⟨j,hj,rfl⟩:=nw.mp hx
  have hj:=Pi.mp hj
  have h1:=(cell hc (show r+(j+1)<ys.length by lia)).1
  have h2:xs.length<=(r+(j+1))*xs.length:=GV _ (by lia)
  lia
theorem Vd(hx:xs.Pairwise (·<·))(hy:ys.Pairwise (·<·)){u v:Nat}(hu:u<ys.length*xs.length)(hv:v<ys.length*xs.length):
 ∃path,path.Sublist (cI xs ys)/\cX (ys.length*xs.length) u path v (dN xs ys v u):=by
 have h0:0<xs.length:=by
  rcases jw xs.length with e|e
  .rw[e]at hu;simp at hu
  .exact e
 have pos:∀{a:Nat},a<ys.length*xs.length->∃r c,r<ys.length/\c<xs.length/\a=r*xs.length+c:=λ{a}ha=>
  ⟨a / xs.length,a % xs.length,WO (by rw[gP];exact ha),jI _ h0,(Af a xs.length).symm⟩
 obtain⟨r,c,hr,hc,rfl⟩:=pos hu
 obtain⟨r',c',hr',hc',rfl⟩:=pos hv
 have e:dN xs ys (r'*xs.length+c') (r*xs.length+c)=dN xs ys (r*xs.length+c) (r*xs.length+c')+dN xs ys (r*xs.length+c') (r'*xs.length+c'):=by
  rw[dQ hc' hr' hc hr,dQ hc hr hc' hr,dQ hc' hr hc' hr',qD,qD,ke (xs.getD c' 0),ke (ys.getD r' 0)]
  simp only[uK,gQ,ft]
 rw[e]
 have row:∃A,A.Sublist ((gB xs ys).map (fR xs ys)++(gB xs ys).reverse.map (fL xs ys))/\cX (ys.length*xs.length) (r*xs.length+c) A (r*xs.length+c') (dN xs ys (r*xs.length+c) (r*xs.length+c')):=by
  rcases qE c c' with h|h
  .refine⟨_,((MZ hr (show c+(c'-c)<xs.length by lia)).map _).trans (SV _ _),?_⟩
   have:=Km (xs:=xs) (ys:=ys) hx hr (c:=c) (k:=c'-c) (by lia)
   rwa [show c+(c'-c)=c' by lia]at this
  .refine⟨_,(((MZ hr (show c'+(c-c')<xs.length by lia)).reverse).map _).trans (SQ _ _),?_⟩
   have:=Ll (xs:=xs) (ys:=ys) hx hr (c:=c') (k:=c-c') (by lia)
   rwa [show c'+(c-c')=c by lia]at this
 have col:∃B,B.Sublist ((gE xs ys).map (fU xs ys)++(gE xs ys).reverse.map (fD xs ys))/\cX (ys.length*xs.length) (r*xs.length+c') B (r'*xs.length+c') (dN xs ys (r*xs.length+c') (r'*xs.length+c')):=by
  rcases qE r r' with h|h
  .refine⟨_,((M0 hc' (show r+(r'-r)<ys.length by lia)).map _).trans (SV _ _),?_⟩
   have:=Nf (xs:=xs) (ys:=ys) hy hc' (r:=r) (k:=r'-r) (by lia)
   rwa [show r+(r'-r)=r' by lia]at this
  .refine⟨_,(((M0 hc' (show r'+(r-r')<ys.length by lia)).reverse).map _).trans (SQ _ _),?_⟩
   have:=Lk (xs:=xs) (ys:=ys) hy hc' (r:=r') (k:=r-r') (by lia)
   rwa [show r'+(r-r')=r by lia]at this
 obtain⟨A,a1,a2⟩:=row
 obtain⟨B,b1,b2⟩:=col
 exact⟨A++B,a1.append b1,a2.cat b2⟩
theorem T7(hx:xs.Pairwise (·<·))(hy:ys.Pairwise (·<·)){len:List Nat}(hl:len.length=ys.length*xs.length){v:Nat}(hv:v<ys.length*xs.length):
 (dR len (cI xs ys)).getD v 0=fw ((sw (ys.length*xs.length)).map λu=>dN xs ys v u+len.getD u 0):=by
 have h1:∀u<ys.length*xs.length,(dR len (cI xs ys)).getD v 0<=dN xs ys v u+len.getD u 0:=λu hu=>by
  obtain⟨path,hs,hc⟩:=Vd hx hy hu hv
  have:=Va hs (r:=len) (by rw[hl];exact hc)
  lia
 have ay:∀s∈cI xs ys,s.1<len.length/\dN xs ys s.2.1 s.1<=s.2.2:=by
  intro s hs
  have mj:∀i∈gB xs ys,i<ys.length*xs.length:=λi hi=>by
   have:=(dh.mp hi).1
   rw[kx]at this
   lia
  have so:∀i∈gE xs ys,i<ys.length*xs.length:=λi hi=>by
   have:=kx.mp hi
   lia
  unfold cI at hs
  rw[NE,NE,NE]at hs
  rcases hs with(hs|hs)|(hs|hs)
  .obtain⟨i,hi,rfl⟩:=nw.mp hs
   have:=mj i hi
   exact⟨by show i-1<_;lia,by show dN xs ys i (i-1)<=dN xs ys (i-1) i;rw[wm];exact nn _⟩
  .obtain⟨i,hi,rfl⟩:=nw.mp hs
   have:=mj i (zD.mp hi)
   exact⟨by show i<_;lia,by show dN xs ys (i-1) i<=dN xs ys i (i-1);rw[wm];exact nn _⟩
  .obtain⟨i,hi,rfl⟩:=nw.mp hs
   have:=so i hi
   exact⟨by show i-xs.length<_;lia,by show dN xs ys i (i-xs.length)<=dN xs ys (i-xs.length) i;rw[wm];exact nn _⟩
  .obtain⟨i,hi,rfl⟩:=nw.mp hs
   have:=so i (zD.mp hi)
   exact⟨by show i<_;lia,by show dN xs ys (i-xs.length) i<=dN xs ys i (i-xs.length);rw[wm];exact nn _⟩
 obtain⟨u,hu,q⟩:=Iy (dN xs ys) len abg (cI xs ys) len rfl ay (λv hv=>⟨v,hv,by rw[qO];lia⟩) v (by lia)
 refine(MC (nw.mpr ⟨u,Pi.mpr (by lia),?_⟩) ?_).symm
 .have:=h1 u (by lia)
  lia
 .intro y hy'
  obtain⟨u',hu',rfl⟩:=nw.mp hy'
  exact h1 u' (Pi.mp hu')
end
end Sq
end
section
namespace Sq
open PySem PySem.Spec PyProof.Rows L2
open Vbpcar (Pt)
theorem TL.add{H:Hp}{q a:ac}{Ix:List (List Int)}{us:List V}{ns:List Int}(h:TL H q Ix)(hu:H q=some (.lst us))(ha:H a=some (.tup (ns.map V.int))):TL (upd H q (.lst (us++[.ref a]))) q (Ix++[ns]):=by
 obtain⟨zs,h1,h2,h3⟩:=h
 rw[hu]at h1;cases h1
 have kt:Kt H (upd H q (.lst (zs.map (λz=>V.ref z.1)++[.ref a]))):=Kt.upd hu
 refine⟨zs++[(a,ns)],by rw[bv,GM];rfl,by rw[GM,h2];rfl,λz hz=> ?_⟩
 rcases NE.mp hz with hz|hz
 .exact kt _ _ (h3 z hz)
 .cases zn.mp hz
  exact kt _ _ ha
theorem TL.at{H:Hp}{l:ac}{Ix:List (List Int)}{xs:List V}{i:Nat}{x:V}{ns:List Int}(h:TL H l Ix)(hl:H l=some (.lst xs))(hx:xs[i]? =some x)(hp:Ix[i]? =some ns):∃a,x=V.ref a/\H a=some (.tup (ns.map V.int)):=by
 obtain⟨a,h1,h2⟩:=TL.get h hl hp
 rw[hx]at h1
 exact⟨a,TD h1,h2⟩
theorem TL.len{H:Hp}{l:ac}{Ix:List (List Int)}{xs:List V}(h:TL H l Ix)(hl:H l=some (.lst xs)):xs.length=Ix.length:=by
 obtain⟨ys,h1,h2⟩:=TL.lst h
 rw[hl]at h1;cases h1;exact h2
theorem qT{p:Pt}{ps:List Pt}:[p.x,p.y]∈KB ps↔p∈ps:=by
 unfold KB
 rw[nw]
 constructor
 .rintro⟨q,hq,e⟩
  simp only[jy,and_true]at e
  have:q=p:=by cases p;cases q;simp_all
  exact this▸hq
 .exact λh=>⟨p,h,rfl⟩
section
variable{P:lw}{w:li}{K:ge}{mg:Str->Option al}{base:io}{Ad:aV}
def yj:Sp:=λvs H Q _=>∃l ps j,vs=[.ref l,.int (j:Nat)]/\PL H l ps/\ps.length<=7/\j<ps.length/\∀H' p,db H H'->H p=none->PL H' p (ps.eraseIdx j)->Q (.ref p) H'
theorem QO{f:ac}{fd:on}(F:re K "without_point" "without_point" yq f fd)(T:Txt mg Ad):o0 P w K mg base ae 1 f fd pR yj:=by
 have nd:=Gq.nd
 refine F.ok Gq (λvs H Q E h=> ?_) (λlm A outer s H vs Q E hr h=> ?_)
 .obtain⟨l,ps,j,rfl,_⟩:=h
  rfl
 .obtain⟨l,ps,j,rfl,hl,h7,hj,k⟩:=h
  obtain⟨xs,lf,hlen⟩:=hl.lst
  refine⟨_,(jp (pi (wp gj (nZ (n_ K rfl) (pv 0) qU (lj (pv 1))) (nZ (n_ K rfl) (pv 0) (lj (wp bz (pv 1) nb)) qU)))),?_⟩
  walk_at "rd"
  refine sN lf λp hp=> ?_
  have s1:=cr (o:=.lst (aU xs none (some (j:Int)))) hp
  have t1:PL _ p (ps.take j):=PL.Oh hl lf hp (TW hj)
  have l1:=PL.len t1 bv
  rw[show(j:Int)+1=((j+1:Nat):Int) by lia]
  refine sN (s1 _ _ lf) λq hq=> ?_
  have s2:=cr (o:=.lst (aU xs (some ((j+1:Nat):Int)) none)) hq
  have t2:PL _ q (ps.drop (j+1)):=PL.Eo (TL.same s1 hl) (s1 _ _ lf) hq hj
  have l2:=PL.len t2 bv
  refine⟨p,q,_,_,rfl,rfl,s2 _ _ bv,bv,TW (a8 (by rw[l1,l2,dG,pZ];lia)),λr hr=> ?_⟩
  have t3:=PL.EU (TL.same s2 t1) t2 (s2 _ _ bv) bv hr
  refine k _ r ((s1.trans s2).trans (cr hr)) ((s1.trans s2).free hr) ?_
  rw[QQ]
  exact t3
def Cm:Sp:=λvs H Q _=>∃l ps,vs=[.ref l]/\PL H l ps/\ps.length<=7/\∀H' p,db H H'->H p=none->PL H' p (b9 ps)->Q (.ref p) H'
theorem XS{f:ac}{fd:on}(F:re K "unlike" "unlike" C1 f fd)(T:Txt mg Ad):o0 P w K mg base ae 1 f fd qK Cm:=by
 have nd:=KO.nd
 refine F.ok KO (λvs H Q E h=> ?_) (λlm A outer s H vs Q E hr h=> ?_)
 .obtain⟨l,ps,rfl,_⟩:=h
  rfl
 .obtain⟨l,ps,rfl,hl,h7,k⟩:=h
  obtain⟨xs,lf,hlen⟩:=hl.lst
  refine⟨_,(ga (pS 1 nd (xL bi))
   (ga (ck br rfl (P7 K rfl (pv 0)) (aP 2 nd) (jp (aw (bw (Wq K rfl (g_ hr)) (pv 2) (pv 1) rfl) (jp (du (cJ cB js jt iQ (pv 1) (am (pv 2) bi)))) aD)))
   (jp (pi (pv 1))))),?_⟩
  walk_at "rd"
  refine⟨by decide,λt ht=>⟨⟨_,aa.of (cr ht _ _ lf)⟩,?_⟩⟩
  refine gU (xs:=xs) (λi σ H'=>∃v2,σ=[some (.ref l),some (.ref t),v2]/\db H H'/\PL H' t (b9 (ps.take i)))
   ⟨_,rfl,cr ht,TL.nil bv⟩ (λi σ H' _⟨_,_,s',_⟩=>aa.of (s' _ _ lf)) ?_ ?_
  .rintro i x σ H' hi ⟨v2,rfl,s',hP⟩
   have a_:i<xs.length:=(P4.mp hi).1
   obtain⟨p,hp⟩:∃p,ps[i]? =some p:=⟨_,wS (by lia)⟩
   obtain⟨b,rfl,hb⟩:=hl.at lf hi hp
   walk_at "rd"
   obtain⟨zs,z1,z2,z3⟩:=id hP
   refine⟨b,t,[p.x,p.y],zs,rfl,rfl,s' _ _ hb,aa.of z1,z3,_,rfl,?_⟩
   have ez:([p.x,p.y]∈zs.map (·.2))↔p∈ps.take i:=by rw[z2,qT,gR]
   refine cW (λh=> ?_) (λh=> ?_)
   .have h:¬p∈ps.take i:=λq=>by rw[if_pos rfl,decide_eq_true (ez.mpr q)]at h;cases h
    refine⟨.inl ⟨rfl,_,aa.of z1⟩,t,_,_,rfl,rfl,z1,?_,?_⟩
    .have:=TL.len hP z1
     rw[vh]at this
     rw[this]
     exact a8 (Ch (nF _) (by rw[dG];lia))
    .refine⟨iW s' ht,?_⟩
     rw[take_snoc hp,AK,if_neg h]
     unfold PL
     rw[CU]
     exact TL.add hP z1 (s' _ _ hb)
   .have h:p∈ps.take i:=by
     rw[if_pos rfl]at h
     by_cases q:[p.x,p.y]∈zs.map (·.2)
     .exact ez.mp q
     .rw[decide_eq_false q]at h;exact absurd rfl h
    refine⟨s',?_⟩
    rw[take_snoc hp,AK,if_pos h]
    exact hP
  .rintro σ H' ⟨v2,rfl,s',hP⟩
   walk_at "rd"
   rw[hlen,iK]at hP
   exact k H' t s' ht hP
end
end Sq
end
section
namespace Sq
open PySem PySem.Spec PyProof.Rows L2
open Vbpcar (Pt)
open VbpcarNeutral (callOf)
section
variable{P:lw}{w:li}{K:ge}{mg:Str->Option al}{base:io}{Ad:aV}{C:ac}
def Jh(C:ac):Sp:=λvs H Q _=>∃n dx,vs=[.ref n]/\H n=some (.ins C dx [])/\∀H',acg C H' n []->Is n H H'->Q .ag H'
theorem UR{f:ac}{fd:on}(F:re K "__init__" "Net.__init__" Bv f fd)(T:Txt mg Ad)(c:Cl K C):o0 P w K mg base ae 1 f fd qx (Jh C):=by
 have nd:=IW.nd
 refine F.ok IW (λvs H Q E h=> ?_) (λlm A outer s H vs Q E hr h=> ?_)
 .obtain⟨n,dx,rfl,_⟩:=h
  rfl
 .obtain⟨n,dx,rfl,hn,k⟩:=h
  refine⟨_,(jp (cS K rfl (pv 0) (xL bi) rfl)),?_⟩
  walk_at "rd"
  refine⟨by decide,λp hp=> ?_⟩
  have hn1:upd H p (.lst []) n=some (.ins C dx []):=cr hp _ _ hn
  refine⟨C,dx,[],hn1,c.cl,c.nP,by decide,?_⟩
  refine k _ ⟨dx,p,bv,TL.other hn1 (TL.nil bv)⟩ λb o hb bn=> ?_
  rw[gl bn]
  exact cr hp _ _ hb
theorem Y8{f:ac}{fd:on}(F:re K "begin" "begin" DM f fd)(T:Txt mg Ad)(c:Cl K C):o0 P w K mg base ae 1 f fd DD (gC C 0):=by
 have nd:=LU.nd
 refine F.ok LU (λvs H Q E h=> ?_) (λlm A outer s H vs Q E hr h=> ?_)
 .obtain⟨n,a,g,ps,ns,ca,rfl,_⟩:=h
  rfl
 .obtain⟨n,a,g,ps,ns,ca,rfl,⟨og,c5⟩,⟨dx,l,hn,hl,d9⟩,hg,ha,hb,hc,k⟩:=h
  obtain⟨rfl,rfl⟩:=acj hc
  refine⟨_,(ga (cS K rfl (pv 0) (xL bi) rfl)
   (jp (pi (xL (am nb bi))))),?_⟩
  walk_at "rd"
  refine⟨by decide,λp hp=> ?_⟩
  have hn1:upd H p (.lst []) n=some (.ins C dx (ie l)):=cr hp _ _ hn
  refine⟨C,dx,_,hn1,c.cl,c.nP,(by show 1<1000;decide),by decide,λq hq=> ?_⟩
  obtain⟨h1,h2⟩:=jM (g:=g) (ps:=[]) (cr hp) hn1 (TL.nil bv) (wT c5 hp).symm
  exact k _ q (h1.same (cr hq)) (λb o hb bn=>cr hq _ _ (h2 b o hb bn)) (h1.free h2 hq) bv
theorem TM{f:ac}{fd:on}(F:re K "add_point" "add_point" AW f fd)(T:Txt mg Ad)(c:Cl K C)(dH:Def P w K mg base "in_range" 1 jG nt)
 (nB:Def P w K mg base "has_room" 1 qy A4):
 o0 P w K mg base ae 2 f fd AO (gC C 1):=by
 have nd:=Ij.nd
 refine F.ok Ij (λvs H Q E h=> ?_) (λlm A outer s H vs Q E hr h=> ?_)
 .obtain⟨n,a,g,ps,ns,ca,rfl,_⟩:=h
  rfl
 .obtain⟨n,a,g,ps,ns,ca,rfl,⟨og,c5⟩,⟨dx,l,hn,hl,d9⟩,hg,ha,hb,hc,k⟩:=h
  obtain⟨x,y,rfl,rfl⟩:=ack hc
  rw[LY]at k
  refine⟨_,(ga (pS 2 nd (ul (Ev K rfl) (pv 1) nb (λ_ _=>rfl)))
   (ga (pS 3 nd (ul (Ev K rfl) (pv 1) nb (λ_ _=>rfl)))
   (ga (aw (bT (eS (sK dH (hr.mono (by decide)) (am (pv 2) (am (pv 3) bi))) (λ_=>rfl))) (jp (pi (xL (am (aY T.OUT_OF_RANGE) bi)))) aD)
   (ga (aw (bT (eS (sK nB (hr.mono (by decide)) (am (Do K rfl (pv 0) rfl) bi)) (λ_=>rfl))) (jp (pi (xL (am (aY T.Mg) bi)))) aD)
   (ga (cS K rfl (pv 0) (wp gj (Do K rfl (pv 0) rfl) (xL (am (WP (am (pv 2) (am (pv 3) bi))) bi))) rfl)
   (jp (pi (xL (am (wp cj (FM (aW K rfl) (by rfl) T.aJ aZ (am (Do K rfl (pv 0) rfl) bi)) nb) bi))))))))),?_⟩
  walk_at "rd"
  have hN:bK C g H n ps:=⟨dx,l,hn,hl,d9⟩
  obtain⟨xs,lf,hlen⟩:=hl.lst
  refine Fa ha rfl (Fa ha rfl ⟨x,y,rfl,_,rfl,?_⟩)
  cases hi:aq ⟨x,y⟩with
  |false=>
   rw[if_pos rfl]
   rw[hi]at k
   exact⟨by decide,λp hp=>k _ p (hN.same (cr hp)) (Is.of_same (cr hp)) hp bv⟩
  |true=>
   rw[if_neg (by decide)]
   rw[hi]at k
   refine⟨C,dx,_,hn,c.cl,c.nP,_,eB l,l,xs,rfl,lf,_,rfl,?_⟩
   rw[<-hlen]at k
   cases h7:decide (xs.length<7)with
   |false=>
    rw[if_pos rfl]
    rw[h7]at k
    exact⟨by decide,λp hp=>k _ p (hN.same (cr hp)) (Is.of_same (cr hp)) hp bv⟩
   |true=>
    rw[if_neg (by decide)]
    rw[h7,hlen]at k
    refine⟨C,dx,_,hn,c.cl,c.nP,_,eB l,by decide,λp hp=>⟨by decide,λq hq=> ?_⟩⟩
    have s2:db H (upd (upd H p (.tup [.int x,.int y])) q (.lst [.ref p])):=(cr hp).trans (cr hq)
    have hq2:TL (upd (upd H p (.tup [.int x,.int y])) q (.lst [.ref p])) q [[x,y]]:=wW (cr hq _ _ bv) bv
    refine⟨l,q,xs,[.ref p],rfl,rfl,s2 _ _ lf,bv,TW (a8 (by have:=hg.len;rw[hlen];simp;lia)),λr hr=> ?_⟩
    have s3:=s2.trans (cr (o:=.lst (xs++[.ref p])) hr)
    have hT:=TL.cat (TL.same s2 hl) hq2 (s2 _ _ lf) bv hr
    obtain⟨h1,h2⟩:=jM (ps:=ps++[⟨x,y⟩]) s3 (s3 _ _ hn) (by unfold PL;rw[CU];exact hT) (wT (s2 _ _ c5) hr).symm
    refine⟨C,dx,_,s3 _ _ hn,c.cl,c.nP,(by show 1<1000;decide),C,dx,_,bv,c.cl,c.nP,_,(by rw[CK];exact eB r),r,rfl,xs++[.ref p],.inl (aa.of ?_),by decide,λt ht=> ?_⟩
    .rw[gl (P8 bv (s3 _ _ hn) (by intro z;cases z))]
     exact bv
    .refine k _ t (h1.same (cr ht)) (λb o hb bn=>cr ht _ _ (h2 b o hb bn)) (h1.free h2 ht) ?_
     show upd _ t _ t=_
     rw[bv,Rs,fW,hlen]
     show some (HO.lst [V.int (((ps.length+1:Nat):Int)-1)])=some (HO.lst [V.int (ps.length:Int)])
     rw[show((ps.length+1:Nat):Int)-1=(ps.length:Int) by lia]
theorem Rb{f:ac}{fd:on}(F:re K "remove_point" "remove_point" yT f fd)(T:Txt mg Ad)(c:Cl K C)(eM:Def P w K mg base "has_point" 1 kN qg)
 (mJ:Def P w K mg base "without_point" 1 pR yj):
 o0 P w K mg base ae 2 f fd yL (gC C 2):=by
 have nd:=GL.nd
 refine F.ok GL (λvs H Q E h=> ?_) (λlm A outer s H vs Q E hr h=> ?_)
 .obtain⟨n,a,g,ps,ns,ca,rfl,_⟩:=h
  rfl
 .obtain⟨n,a,g,ps,ns,ca,rfl,⟨og,c5⟩,⟨dx,l,hn,hl,d9⟩,hg,ha,hb,hc,k⟩:=h
  obtain⟨i,rfl,rfl⟩:=acm hc
  rw[Jj]at k
  refine⟨_,(ga (pS 2 nd (ul (Ev K rfl) (pv 1) nb (λ_ _=>rfl)))
   (ga (aw (bT (eS (sK eM (hr.mono (by decide)) (am (Do K rfl (pv 0) rfl) (am (pv 2) bi))) (λ_=>rfl))) (jp (pi (xL (am (aY T.tY) bi)))) aD)
   (ga (cS K rfl (pv 0) (sK mJ (hr.mono (by decide)) (am (Do K rfl (pv 0) rfl) (am (pv 2) bi))) rfl)
   (jp (pi (xL (am (FM (aW K rfl) (by rfl) T.aJ aZ (am (Do K rfl (pv 0) rfl) bi)) bi))))))),?_⟩
  walk_at "rd"
  have hN:bK C g H n ps:=⟨dx,l,hn,hl,d9⟩
  obtain⟨xs,lf,hlen⟩:=hl.lst
  refine Fa ha rfl ⟨C,dx,_,hn,c.cl,c.nP,_,eB l,l,xs,i,rfl,lf,_,rfl,?_⟩
  rw[<-hlen]at k
  cases hi:eX xs.length i with
  |false=>
   rw[if_pos rfl]
   rw[hi]at k
   exact⟨by decide,λp hp=>k _ p (hN.same (cr hp)) (Is.of_same (cr hp)) hp bv⟩
  |true=>
   rw[if_neg (by decide)]
   rw[hi]at k
   obtain⟨j,rfl,hj⟩:=qQ hi
   rw[hlen]at hj
   refine⟨C,dx,_,hn,c.cl,c.nP,_,eB l,l,ps,j,rfl,hl,hg.len,hj,λH1 r s3 hr t3=> ?_⟩
   obtain⟨h1,h2⟩:=jM (ps:=ps.eraseIdx j) s3 (s3 _ _ hn) t3 (wT c5 hr).symm
   obtain⟨ys,dE,iy⟩:=PL.lst t3
   refine⟨C,dx,_,s3 _ _ hn,c.cl,c.nP,(by show 1<1000;decide),C,dx,_,bv,c.cl,c.nP,_,(by rw[CK];exact eB r),r,rfl,ys,.inl (aa.of (by rw[gl (P8 dE (s3 _ _ hn) (by intro z;cases z))];exact dE)),by decide,λt ht=> ?_⟩
   rw[fk]at k
   refine k _ t (h1.same (cr ht)) (λb o hb bn=>cr ht _ _ (h2 b o hb bn)) (h1.free h2 ht) ?_
   show upd _ t _ t=_
   rw[bv,iy,List.length_eraseIdx_of_lt hj]
   show some (HO.lst [V.int ((ps.length-1:Nat):Int)])=some (HO.lst [V.int ((xs.length:Int)-1)])
   rw[show((ps.length-1:Nat):Int)=(xs.length:Int)-1 by lia]
theorem SD{f:ac}{fd:on}(F:re K "move_point" "move_point" z9 f fd)(T:Txt mg Ad)(c:Cl K C)(dH:Def P w K mg base "in_range" 1 jG nt)
 (eM:Def P w K mg base "has_point" 1 kN qg):o0 P w K mg base ae 2 f fd zS (gC C 3):=by
 have nd:=HC.nd
 refine F.ok HC (λvs H Q E h=> ?_) (λlm A outer s H vs Q E hr h=> ?_)
 .obtain⟨n,a,g,ps,ns,ca,rfl,_⟩:=h
  rfl
 .obtain⟨n,a,g,ps,ns,ca,rfl,⟨og,c5⟩,⟨dx,l,hn,hl,d9⟩,hg,ha,hb,hc,k⟩:=h
  obtain⟨i,x,y,rfl,rfl⟩:=acn hc
  rw[KW]at k
  refine⟨_,(ga (pS 2 nd (ul (Ev K rfl) (pv 1) nb (λ_ _=>rfl)))
   (ga (pS 3 nd (ul (Ev K rfl) (pv 1) nb (λ_ _=>rfl)))
   (ga (pS 4 nd (ul (Ev K rfl) (pv 1) nb (λ_ _=>rfl)))
   (ga (aw (bT (eS (sK dH (hr.mono (by decide)) (am (pv 3) (am (pv 4) bi))) (λ_=>rfl))) (jp (pi (xL (am (aY T.OUT_OF_RANGE) bi)))) aD)
   (ga (aw (bT (eS (sK eM (hr.mono (by decide)) (am (Do K rfl (pv 0) rfl) (am (pv 2) bi))) (λ_=>rfl))) (jp (pi (xL (am (aY T.tY) bi)))) aD)
   (ga (cS K rfl (pv 0) (wp gj (wp gj (nZ (n_ K rfl) (Do K rfl (pv 0) rfl) qU (lj (pv 2))) (xL (am (WP (am (pv 3) (am (pv 4) bi))) bi))) (nZ (n_ K rfl) (Do K rfl (pv 0) rfl) (lj (wp bz (pv 2) nb)) qU)) rfl)
   (jp (pi (xL (am nb bi)))))))))),?_⟩
  have hN:bK C g H n ps:=⟨dx,l,hn,hl,d9⟩
  obtain⟨xs,lf,hlen⟩:=hl.lst
  rw[<-hlen]at k
  refine aQ λR hR=> ?_
  walk_at "rd"
  refine Fa ha rfl (hR _ _ ?_)
  clear hR
  refine aQ λR hR=> ?_
  walk_at "rd"
  refine Fa ha rfl (hR _ _ ?_)
  clear hR
  refine aQ λR hR=> ?_
  walk_at "rd"
  refine Fa ha rfl (hR _ _ ?_)
  clear hR
  refine aQ λR hR=> ?_
  walk_at "rd"
  refine⟨x,y,rfl,_,rfl,?_⟩
  cases hr:aq ⟨x,y⟩with
  |false=>
   rw[if_pos rfl]
   rw[hr]at k
   exact⟨by decide,λp hp=>k _ p (hN.same (cr hp)) (Is.of_same (cr hp)) hp bv⟩
  |true=>
  rw[if_neg (by decide)]
  rw[hr]at k
  refine hR _ _ ?_
  clear hR
  refine aQ λR hR=> ?_
  walk_at "rd"
  refine⟨C,dx,_,hn,c.cl,c.nP,_,eB l,l,xs,i,rfl,lf,_,rfl,?_⟩
  cases hi:eX xs.length i with
  |false=>
   rw[if_pos rfl]
   rw[hi]at k
   exact⟨by decide,λp hp=>k _ p (hN.same (cr hp)) (Is.of_same (cr hp)) hp bv⟩
  |true=>
   rw[if_neg (by decide)]
   rw[hi]at k
   refine hR _ _ ?_
   clear hR
   walk_at "rd"
   obtain⟨j,rfl,hj⟩:=qQ hi
   rw[hlen]at hj
   refine⟨C,dx,_,hn,c.cl,c.nP,_,eB l,sN lf λp hp=> ?_⟩
   have s1:=cr (o:=.lst (aU xs none (some (j:Int)))) hp
   have t1:PL _ p (ps.take j):=PL.Oh hl lf hp (TW hj)
   have l1:=PL.len t1 bv
   refine⟨by decide,λu hu=>⟨by decide,λv hv=> ?_⟩⟩
   have s2:=cr (o:=.tup [.int x,.int y]) hu
   have s3:=cr (o:=.lst [.ref u]) hv
   have t2:TL _ v [[x,y]]:=wW (s3 _ _ bv) bv
   have t2':PL _ v [⟨x,y⟩]:=t2
   refine⟨p,v,_,_,rfl,rfl,s3 _ _ (s2 _ _ bv),bv,TW (a8 (by rw[l1,dG];have:=hg.len;simp;lia)),λq hq=> ?_⟩
   have t3:=PL.EU (TL.same s3 (TL.same s2 t1)) t2' (s3 _ _ (s2 _ _ bv)) bv hq
   have l3:=PL.len t3 bv
   have s4:=(((s1.trans s2).trans s3).trans (cr (o:=.lst (aU xs none (some (j:Int))++[.ref u])) hq))
   refine⟨C,dx,_,s4 _ _ hn,c.cl,c.nP,_,eB l,?_⟩
   rw[show(j:Int)+1=((j+1:Nat):Int) by lia]
   refine sN (s4 _ _ lf) λm hm=> ?_
   have s5:=cr (o:=.lst (aU xs (some ((j+1:Nat):Int)) none)) hm
   have t4:PL _ m (ps.drop (j+1)):=PL.Eo (TL.same s4 hl) (s4 _ _ lf) hm hj
   have l4:=PL.len t4 bv
   refine⟨q,m,_,_,rfl,rfl,s5 _ _ bv,bv,TW (a8 (by rw[l3,l4,Rs,dG,pZ];have:=hg.len;simp;lia)),λr hr=> ?_⟩
   have s6:=(s4.trans s5).trans (cr (o:=.lst ((aU xs none (some (j:Int))++[.ref u])++aU xs (some ((j+1:Nat):Int)) none)) hr)
   have t5:=PL.EU (TL.same s5 t3) t4 (s5 _ _ bv) bv hr
   obtain⟨h1,h2⟩:=jM (ps:=(ps.take j++[⟨x,y⟩])++ps.drop (j+1)) s6 (s6 _ _ hn) t5 (wT ((s4.trans s5) _ _ c5) hr).symm
   refine⟨C,dx,_,s6 _ _ hn,c.cl,c.nP,(by show 1<1000;decide),by decide,λt ht=> ?_⟩
   have e1:ps.set (Int.toNat (j:Int)) ⟨x,y⟩=(ps.take j++[⟨x,y⟩])++ps.drop (j+1):=by
    rw[fk,List.set_eq_take_append_cons_drop,if_pos hj,mM]
    rfl
   rw[e1]at k
   exact k _ t (h1.same (cr ht)) (λb o hb bn=>cr ht _ _ (h2 b o hb bn)) (h1.free h2 ht) bv
end
end Sq
end
section
namespace Sq
open PySem PySem.Spec PyProof.Rows L2
open Vbpcar (Pt)
open VbpcarNeutral (callOf)
section
variable{P:lw}{w:li}{K:ge}{mg:Str->Option al}{base:io}{Ad:aV}{C:ac}
theorem wA(ps:List Pt)(f:Pt->Pt):KB (ps.map f)=ps.map λp=>[(f p).x,(f p).y]:=by unfold KB;rw[P6];rfl
theorem Y_{f:ac}{fd:on}(F:re K "shift" "shift" DO f fd)(T:Txt mg Ad)(c:Cl K C)(mN:Def P w K mg base "all_in_range" 2 pU yt):
 o0 P w K mg base ae 3 f fd DF (gC C 4):=by
 have nd:=LW.nd
 refine F.ok LW (λvs H Q E h=> ?_) (λlm A outer s H vs Q E hr h=> ?_)
 .obtain⟨n,a,g,ps,ns,ca,rfl,_⟩:=h
  rfl
 .obtain⟨n,a,g,ps,ns,ca,rfl,⟨og,c5⟩,⟨dx,l,hn,hl,d9⟩,hg,ha,hb,hc,k⟩:=h
  obtain⟨x,y,rfl,rfl⟩:=aco hc
  have e:au ps (.shift x y)=_:=vn ps λp=>⟨p.x+x,p.y+y⟩
  rw[e]at k
  refine⟨_,(ga (pS 2 nd (ul (Ev K rfl) (pv 1) nb (λ_ _=>rfl)))
   (ga (pS 3 nd (ul (Ev K rfl) (pv 1) nb (λ_ _=>rfl)))
   (ga (jK (i:=4) rfl nd rfl rfl (jN rfl rfl rfl rfl) (P7 K rfl (Do K rfl (pv 0) rfl)) (own:=[("x",5),("y",6)]) (Re rfl) (λ_ _ _ _ _=>(aF K rfl (n:=2) rfl (Da (xz 5 nd) (Da (xz 6 nd) aG)) rfl rfl)) (λ_ _ _ _ _=>T0) (λ_ _ _ _ _=>(WP (am (wp bz (pv 5) (pv 2)) (am (wp bz (pv 6) (pv 3)) bi)))))
   (ga (aw (bT (eS (sK mN (hr.mono (by decide)) (am (pv 4) bi)) (λ_=>rfl))) (jp (pi (xL (am (aY T.OUT_OF_RANGE) bi)))) aD)
   (ga (cS K rfl (pv 0) (pv 4) rfl)
   (jp (pi (xL (am nb bi))))))))),?_⟩
  walk_at "rd"
  have hN:bK C g H n ps:=⟨dx,l,hn,hl,d9⟩
  obtain⟨xs,lf,hlen⟩:=hl.lst
  refine Fa ha rfl (Fa ha rfl ?_)
  refine⟨C,dx,_,hn,c.cl,c.nP,_,eB l,l,rfl,⟨_,aa.of lf⟩,iV ps (λp=>[p.x+x,p.y+y]) hlen.symm (by rw[hlen];exact bh hg.len) (aa.of lf) (λi z p H' C' hx hp s hC=> ?_) λD H1 hD s1 h1=> ?_⟩
  .obtain⟨b,rfl,hb⟩:=hl.at lf hx hp
   refine bB (s _ _ hb) ⟨rfl,?_⟩
   walk_at "rd"
   exact⟨by decide,λt ht=>hC t _ (cr ht) bv⟩
  walk_at "rd"
  have h2:PL H1 D (ps.map λp=>⟨p.x+x,p.y+y⟩):=by unfold PL;rw[wA];exact h1
  refine⟨D,_,rfl,h2,(by rw[dL];exact hg.len),λH2 s2=>⟨_,rfl,?_⟩⟩
  have s12:=s1.trans s2
  cases hi:(ps.map λp=>(⟨p.x+x,p.y+y⟩:Pt)).all aq with
  |false=>
   rw[if_pos rfl]
   rw[hi]at k
   exact⟨by decide,λp hp=>k _ p (hN.same (s12.trans (cr hp))) (Is.of_same (s12.trans (cr hp))) (s12.free hp) bv⟩
  |true=>
   rw[if_neg (by decide)]
   rw[hi]at k
   obtain⟨h3,h4⟩:=jM s12 (s12 _ _ hn) (TL.same s2 h2) (wT c5 hD).symm
   exact⟨C,dx,_,s12 _ _ hn,c.cl,c.nP,(by show 1<1000;decide),by decide,λt ht=>k _ t (h3.same (cr ht)) (λb o hb bn=>cr ht _ _ (h4 b o hb bn)) (h3.free h4 ht) bv⟩
theorem Y9{f:ac}{fd:on}(F:re K "scale" "scale" DN f fd)(T:Txt mg Ad)(c:Cl K C)(mN:Def P w K mg base "all_in_range" 2 pU yt):
 o0 P w K mg base ae 3 f fd DE (gC C 7):=by
 have nd:=LV.nd
 refine F.ok LV (λvs H Q E h=> ?_) (λlm A outer s H vs Q E hr h=> ?_)
 .obtain⟨n,a,g,ps,ns,ca,rfl,_⟩:=h
  rfl
 .obtain⟨n,a,g,ps,ns,ca,rfl,⟨og,c5⟩,⟨dx,l,hn,hl,d9⟩,hg,ha,hb,hc,k⟩:=h
  obtain⟨m,rfl,rfl⟩:=acr hc
  rw[J2]at k
  have hm:=hb m (zn.mpr rfl)
  refine⟨_,(ga (pS 2 nd (ul (Ev K rfl) (pv 1) nb (λ_ _=>rfl)))
   (ga (jK (i:=3) rfl nd rfl rfl (jN rfl rfl rfl rfl) (P7 K rfl (Do K rfl (pv 0) rfl)) (own:=[("x",4),("y",5)]) (Re rfl) (λ_ _ _ _ _=>(aF K rfl (n:=2) rfl (Da (xz 4 nd) (Da (xz 5 nd) aG)) rfl rfl)) (λ_ _ _ _ _=>T0) (λ_ _ _ _ _=>(WP (am (wp Ny (pv 4) (pv 2)) (am (wp Ny (pv 5) (pv 2)) bi)))))
   (ga (aw (bT (eS (sK mN (hr.mono (by decide)) (am (pv 3) bi)) (λ_=>rfl))) (jp (pi (xL (am (aY T.OUT_OF_RANGE) bi)))) aD)
   (ga (aw (bT (Zh jS jS nb (pv 2) (aY T.MOST_TIMES))) (jp (pi (xL (am (aY T.BAD_NUMBER) bi)))) aD)
   (ga (cS K rfl (pv 0) (pv 3) rfl)
   (jp (pi (xL (am nb bi))))))))),?_⟩
  walk_at "rd"
  have hN:bK C g H n ps:=⟨dx,l,hn,hl,d9⟩
  obtain⟨xs,lf,hlen⟩:=hl.lst
  refine Fa ha rfl ?_
  refine⟨C,dx,_,hn,c.cl,c.nP,_,eB l,l,rfl,⟨_,aa.of lf⟩,iV ps (λp=>[m*p.x,m*p.y]) hlen.symm (by rw[hlen];exact bh hg.len) (aa.of lf) (λi z p H' C' hx hp s hC=> ?_) λD H1 hD s1 h1=> ?_⟩
  .obtain⟨b,rfl,hb⟩:=hl.at lf hx hp
   refine bB (s _ _ hb) ⟨rfl,?_⟩
   walk_at "rd"
   refine⟨.inr (by lia),.inr (by lia),by decide,λt ht=>hC t _ (cr ht) ?_⟩
   rw[bv,Int.mul_comm p.x,Int.mul_comm p.y]
   rfl
  walk_at "rd"
  have h2:PL H1 D (ps.map λp=>⟨m*p.x,m*p.y⟩):=by unfold PL;rw[wA];exact h1
  refine⟨D,_,rfl,h2,(by rw[dL];exact hg.len),λH2 s2=>⟨_,rfl,?_⟩⟩
  have s12:=s1.trans s2
  cases hi:(ps.map λp=>(⟨m*p.x,m*p.y⟩:Pt)).all aq with
  |false=>
   rw[if_pos rfl]
   rw[hi]at k
   exact⟨by decide,λp hp=>k _ p (hN.same (s12.trans (cr hp))) (Is.of_same (s12.trans (cr hp))) (s12.free hp) bv⟩
  |true=>
   rw[if_neg (by decide)]
   rw[hi,Jv]at k
   cases h3:decide (1<=m)with
   |false=>
    rw[if_neg (by decide)]
    rw[h3]at k
    exact⟨by decide,λp hp=>k _ p (hN.same (s12.trans (cr hp))) (Is.of_same (s12.trans (cr hp))) (s12.free hp) bv⟩
   |true=>
    rw[if_pos rfl]
    rw[h3]at k
    cases h4:decide (m<=1000)with
    |false=>
     rw[if_pos rfl]
     rw[h4]at k
     exact⟨by decide,λp hp=>k _ p (hN.same (s12.trans (cr hp))) (Is.of_same (s12.trans (cr hp))) (s12.free hp) bv⟩
    |true=>
     rw[if_neg (by decide)]
     rw[h4]at k
     obtain⟨h3,h4⟩:=jM s12 (s12 _ _ hn) (TL.same s2 h2) (wT c5 hD).symm
     exact⟨C,dx,_,s12 _ _ hn,c.cl,c.nP,(by show 1<1000;decide),by decide,λt ht=>k _ t (h3.same (cr ht)) (λb o hb bn=>cr ht _ _ (h4 b o hb bn)) (h3.free h4 ht) bv⟩
theorem YM{p:Pt}(h:aq p=true):aq ⟨-p.x,p.y⟩=true:=by
 unfold aq vz at h⊢
 have h:=of_decide_eq_true h
 exact decide_eq_true ⟨by simp only;lia,by simp only;lia,by simp only;lia,by simp only;lia⟩
theorem YN{p:Pt}(h:aq p=true):aq ⟨-p.y,p.x⟩=true:=by
 unfold aq vz at h⊢
 have h:=of_decide_eq_true h
 exact decide_eq_true ⟨by simp only;lia,by simp only;lia,by simp only;lia,by simp only;lia⟩
theorem aat{f:ac}{fd:on}(F:re K "flip" "flip" Ee f fd)(T:Txt mg Ad)(c:Cl K C):o0 P w K mg base ae 1 f fd D9 (gC C 6):=by
 have nd:=MT.nd
 refine F.ok MT (λvs H Q E h=> ?_) (λlm A outer s H vs Q E hr h=> ?_)
 .obtain⟨n,a,g,ps,ns,ca,rfl,_⟩:=h
  rfl
 .obtain⟨n,a,g,ps,ns,ca,rfl,⟨og,c5⟩,⟨dx,l,hn,hl,d9⟩,hg,ha,hb,hc,k⟩:=h
  obtain⟨rfl,rfl⟩:=acq hc
  have e:au ps .flip=(ps.map λp=>⟨-p.x,p.y⟩,[0]):=by
   refine(vn ps λp=>⟨-p.x,p.y⟩).trans (if_pos ?_)
   rw[BW,kC]
   exact λp hp=>YM (hg.dc p hp)
  rw[e]at k
  refine⟨_,(ga (cS K rfl (pv 0) (ao rfl nd (P7 K rfl (Do K rfl (pv 0) rfl)) (own:=[("x",2),("y",3)]) (Re rfl) (λ_ _ _ _ _=>(aF K rfl (n:=2) rfl (Da (xz 2 nd) (Da (xz 3 nd) aG)) rfl rfl)) (λ_ _ _ _ _=>T0) (λ_ _ _ _ _=>(WP (am (oP oy (pv 2)) (am (pv 3) bi))))) rfl)
   (jp (pi (xL (am nb bi))))),?_⟩
  walk_at "rd"
  obtain⟨xs,lf,hlen⟩:=hl.lst
  refine⟨C,dx,_,hn,c.cl,c.nP,_,eB l,l,rfl,⟨_,aa.of lf⟩,iV ps (λp=>[-p.x,p.y]) hlen.symm (by rw[hlen];exact bh hg.len) (aa.of lf) (λi z p H' C' hx hp s hC=> ?_) λD H1 hD s1 h1=> ?_⟩
  .obtain⟨b,rfl,hb⟩:=hl.at lf hx hp
   refine bB (s _ _ hb) ⟨rfl,?_⟩
   walk_at "rd"
   exact⟨by decide,λt ht=>hC t _ (cr ht) bv⟩
  walk_at "rd"
  have h2:PL H1 D (ps.map λp=>⟨-p.x,p.y⟩):=by unfold PL;rw[wA];exact h1
  obtain⟨h3,h4⟩:=jM s1 (s1 _ _ hn) h2 (wT c5 hD).symm
  exact⟨C,dx,_,s1 _ _ hn,c.cl,c.nP,(by show 1<1000;decide),by decide,λt ht=>k _ t (h3.same (cr ht)) (λb o hb bn=>cr ht _ _ (h4 b o hb bn)) (h3.free h4 ht) bv⟩
theorem J3{p:Pt}(h:aq p=true):∀i:Nat,aq (qk i p)=true
 |0=>h
 |i+1=>YN (J3 h i)
theorem aau{f:ac}{fd:on}(F:re K "turn" "turn" Ef f fd)(T:Txt mg Ad)(c:Cl K C):o0 P w K mg base ae 1 f fd D_ (gC C 5):=by
 have nd:=MU.nd
 refine F.ok MU (λvs H Q E h=> ?_) (λlm A outer s H vs Q E hr h=> ?_)
 .obtain⟨n,a,g,ps,ns,ca,rfl,_⟩:=h
  rfl
 .obtain⟨n,a,g,ps,ns,ca,rfl,⟨og,c5⟩,⟨dx,l,hn,hl,d9⟩,hg,ha,hb,hc,k⟩:=h
  obtain⟨m,rfl,rfl⟩:=acp hc
  have e:au ps (.turn m)=(ps.map (qk (m % 4).toNat),[0]):=by
   refine(vn ps (qk (m % 4).toNat)).trans (if_pos ?_)
   rw[BW,kC]
   exact λp hp=>J3 (hg.dc p hp) _
  rw[e]at k
  refine⟨_,(ga (pS 2 nd (Do K rfl (pv 0) rfl))
   (ga (ck br rfl (nQ rfl T.cH (am (wp rl (ul (Ev K rfl) (pv 1) nb (λ_ _=>rfl)) nb) bi)) (aP 3 nd) (jp (jK (i:=2) rfl nd rfl rfl (jN rfl rfl rfl rfl) (P7 K rfl (pv 2)) (own:=[("x",4),("y",5)]) (Re rfl) (λ_ _ _ _ _=>(aF K rfl (n:=2) rfl (Da (xz 4 nd) (Da (xz 5 nd) aG)) rfl rfl)) (λ_ _ _ _ _=>T0) (λ_ _ _ _ _=>(WP (am (oP oy (pv 5)) (am (pv 4) bi)))))))
   (ga (cS K rfl (pv 0) (pv 2) rfl)
   (jp (pi (xL (am nb bi))))))),?_⟩
  walk_at "rd"
  refine⟨C,dx,_,hn,c.cl,c.nP,_,eB l,?_⟩
  refine Fa ha rfl ?_
  walk_at "rd"
  obtain⟨xs,lf,hlen⟩:=hl.lst
  refine⟨by decide,by lia,by lia,nH (λi σ H'=>∃q v,σ=[some (.ref n),some (.ref a),some (.ref q),v,none,none]/\db H H'/\q≠g/\PL H' q (ps.map (qk i))) ⟨l,none,rfl,db.refl _,d9,?_⟩ ?_ ?_⟩
  .rw[show ps.map (qk 0)=ps from List.map_id ps]
   exact hl
  .rintro i σ H' hi ⟨q,v,rfl,s',PB,hq⟩
   obtain⟨ys,dE,iy⟩:=hq.lst
   rw[dL]at iy
   walk_at "rd"
   refine⟨⟨_,aa.of dE⟩,iV (ps.map (qk i)) (λp=>[-p.y,p.x]) (by rw[dL,iy]) (by rw[iy];exact bh hg.len) (aa.of dE) (λi z p H2 C' hx hp s hC=> ?_) λD H1 hD s1 h1=> ?_⟩
   .obtain⟨b,rfl,hb⟩:=hq.at dE hx hp
    refine bB (s _ _ hb) ⟨rfl,?_⟩
    walk_at "rd"
    exact⟨by decide,λt ht=>hC t _ (cr ht) bv⟩
   refine⟨D,_,⟨rfl,rfl⟩,s'.trans s1,(wT (s' _ _ c5) hD).symm,?_⟩
   unfold PL
   rw[wA,P6]at*
   exact h1
  .rintro σ H' ⟨q,v,rfl,s',PB,hq⟩
   walk_at "rd"
   obtain⟨h3,h4⟩:=jM s' (s' _ _ hn) hq PB
   exact⟨C,dx,_,s' _ _ hn,c.cl,c.nP,(by show 1<1000;decide),by decide,λt ht=>k _ t (h3.same (cr ht)) (λb o hb bn=>cr ht _ _ (h4 b o hb bn)) (h3.free h4 ht) bv⟩
end
end Sq
end
section
namespace Sq
open PySem PySem.Spec PyProof.Rows L2
section
variable{α:Type}
theorem HG{R:α->α->Prop}(Oq:∀x y,R x y->R y x->x=y):∀{l m:List α},l.Perm m->l.Pairwise R->m.Pairwise R->l=m
 |[],m,h,_,_=>(List.Perm.nil_eq h)
 |a::l,m,h,hl,hm=>by
  cases m with
  |nil=>exact absurd h.symm (by intro z;exact absurd z.length_eq (by simp))
  |cons b m=>
   have cx:a=b:=by
    have h1:a∈b::m:=h.mem_iff.mp (Go ..)
    have h2:b∈a::l:=h.mem_iff.mpr (Go ..)
    rcases wl.mp h1 with e|h1
    .exact e
    rcases wl.mp h2 with e|h2
    .exact e.symm
    exact Oq a b (xZ hl h2) (xZ hm h1)
   subst cx
   rw[HG Oq (T_ h) hl.of_cons hm.of_cons]
noncomputable def ic(lt:α->α->Bool)(a:α):List α->List α
 |[]=>[a]
 |b::r=>if lt a b=true then a::b::r else b::ic lt a r
theorem B'(lt:α->α->Bool)(a:α):∀l:List α,(ic lt a l).Perm (a::l)
 |[]=>.refl _
 |b::r=>by
  unfold ic
  split
  .exact .refl _
  .exact((B' lt a r).cons b).trans (.swap a b r)
theorem IQ{lt:α->α->Bool}(rL:∀x y,lt x y=true->lt y x=false)(tr:∀x y z,lt x y=true->lt y z=true->lt x z=true)(a:α):
 ∀{l:List α},l.Pairwise (λx y=>lt y x=false)->(ic lt a l).Pairwise (λx y=>lt y x=false)
 |[],_=>List.pairwise_singleton ..
 |b::r,h=>by
  unfold ic
  split
  .rename_i cx
   refine be.mpr ⟨λc hc=> ?_,h⟩
   rcases wl.mp hc with rfl|hc
   .exact rL _ _ cx
   .cases e:lt c a with
    |false=>rfl
    |true=>
     have h1:lt c b=false:=xZ h hc
     rw[tr c a b e cx]at h1
     cases h1
  .rename_i cx
   refine be.mpr ⟨λc hc=> ?_,IQ rL tr a h.of_cons⟩
   rcases wl.mp ((B' lt a r).mem_iff.mp hc)with rfl|hc
   .cases e:lt c b with
    |false=>rfl
    |true=>exact absurd e cx
   .exact xZ h hc
theorem GC(lt:α->α->Bool):∀l:List α,(l.foldr (ic lt) []).Perm l
 |[]=>.refl _
 |a::l=>by
  rw[List.foldr_cons]
  exact(B' lt a _).trans ((GC lt l).cons a)
theorem F_{lt:α->α->Bool}(rL:∀x y,lt x y=true->lt y x=false)(tr:∀x y z,lt x y=true->lt y z=true->lt x z=true):
 ∀l:List α,(l.foldr (ic lt) []).Pairwise (λx y=>lt y x=false)
 |[]=>.nil
 |a::l=>by
  rw[List.foldr_cons]
  exact IQ rL tr a (F_ rL tr l)
end
theorem Lz:∀{a b:List Int},HT.lexLt a b=false->HT.lexLt b a=false->a=b
 |[],[],_,_=>rfl
 |[],_::_,h,_=>nomatch h
 |_::_,[],_,h=>nomatch h
 |x::a,y::b,h1,h2=>by
  rw[HT.dq]at h1 h2
  by_cases e:x=y
  .subst e
   rw[if_pos rfl]at h1 h2
   rw[Lz h1 h2]
  .rw[if_neg e]at h1
   rw[if_neg λz=>e z.symm]at h2
   have h1:=of_decide_eq_false h1
   have h2:=of_decide_eq_false h2
   lia
noncomputable def cu(z:Nat×Nat×Nat):List Int:=[(z.1:Int),(z.2.1:Int),(z.2.2:Int)]
theorem ZA(a b:Nat×Nat×Nat):HT.lexLt (cu a) (cu b)=gK a b:=by
 obtain⟨x,i,j⟩:=a
 obtain⟨y,k,l⟩:=b
 unfold cu gK
 simp only[HT.dq,HT.Hq]
 by_cases h1:x<y
 .have:¬(x:Int)=y:=by lia
  simp[this,h1]
 .by_cases h2:x=y
  .subst h2
   by_cases h3:i<k
   .have:¬(i:Int)=k:=by lia
    simp[this,h3]
   .by_cases h4:i=k
    .subst h4
     by_cases h5:j<l
     .have:¬(j:Int)=l:=by lia
      simp[this,h5]
     .by_cases h6:j=l
      .subst h6;simp
      .have:¬(j:Int)=l:=by lia
       simp[this,h5]
    .have:¬(i:Int)=k:=by lia
     simp[this,h3,h4]
  .have:¬(x:Int)=y:=by lia
   simp[this,h1,h2]
theorem JU(a:Nat×Nat×Nat):∀l,Jx a l=ic gK a l
 |[]=>rfl
 |b::r=>by unfold Jx ic;rw[JU a r]
theorem Uw(a b:Nat×Nat×Nat)(h:gK a b=true):gK b a=false:=by
 obtain⟨x,i,j⟩:=a
 obtain⟨y,k,l⟩:=b
 unfold gK at h⊢
 simp only[uo,cQ,decide_eq_true_eq,beq_iff_eq,Bool.or_eq_false_iff,Bool.and_eq_false_iff,decide_eq_false_iff_not,beq_eq_false_iff_ne]at h⊢
 lia
theorem Te(a b c:Nat×Nat×Nat)(h:gK a b=true)(h':gK b c=true):gK a c=true:=by
 obtain⟨x,i,j⟩:=a
 obtain⟨y,k,l⟩:=b
 obtain⟨z,m,n⟩:=c
 unfold gK at h h'⊢
 simp only[uo,cQ,decide_eq_true_eq,beq_iff_eq]at h h'⊢
 lia
noncomputable def inOrder(ps:List fz):List (Nat×Nat×Nat):=(jB ps).foldr Jx []
theorem JN(ps:List fz):inOrder ps=(jB ps).foldr (ic gK) []:=by
 unfold inOrder
 congr 1
 funext a l
 exact JU a l
theorem uD(ps:List fz):(inOrder ps).Perm (jB ps):=by rw[JN];exact GC _ _
theorem V0{ps:List fz}{Ix:List (List Int)}(hp:Ix.Perm ((jB ps).map cu))(hs:Ix.Pairwise λx y=>HT.lexLt y x=false):Ix=(inOrder ps).map cu:=by
 refine HG (R:=λx y=>HT.lexLt y x=false) (λx y a b=>Lz b a) (hp.trans ((uD ps).symm.map cu)) hs ?_
 rw[ee]
 have h:=F_ Uw Te (jB ps)
 rw[<-JN]at h
 exact h.imp λ{a b}e=>by rw[ZA];exact e
theorem Zb{ps:List fz}{z:Nat×Nat×Nat}(h:z∈jB ps):z.2.1<ps.length/\z.2.2<ps.length:=by
 unfold jB at h
 obtain⟨i,hi,h⟩:=mT.mp h
 obtain⟨j,hj,rfl⟩:=nw.mp h
 exact⟨Pi.mp hi,Pi.mp (dh.mp hj).1⟩
noncomputable def ig(ps:List fz)(i m:Nat):List (Nat×Nat×Nat):=((sw m).filter λj=>decide (i<j)).map λj=>(aj (ps.getD i ⟨0,0⟩) (ps.getD j ⟨0,0⟩),i,j)
noncomputable def lH(ps:List fz)(i:Nat):List (Nat×Nat×Nat):=(sw i).flatMap λi=>ig ps i ps.length
theorem zT(ps:List fz):jB ps=lH ps ps.length:=rfl
theorem JV(ps:List fz)(i:Nat):lH ps (i+1)=lH ps i++ig ps i ps.length:=by
 unfold lH
 rw[kI,yD,List.flatMap_singleton]
theorem Wu(ps:List fz)(i:Nat):ig ps i (i+1)=[]:=by
 unfold ig
 rw[GR.mpr λj hj=>by have:=Pi.mp hj;simp;lia]
 rfl
theorem XZ(ps:List fz){i m:Nat}(h:i<m):ig ps i (m+1)=ig ps i m++[(aj (ps.getD i ⟨0,0⟩) (ps.getD m ⟨0,0⟩),i,m)]:=by
 unfold ig
 rw[kI,mG,GM,eK,if_pos (decide_eq_true h)]
 rfl
theorem LQ(ps:List fz)(i m:Nat):(ig ps i m).length<=m:=by
 unfold ig
 rw[dL]
 exact Ch (iC _ _) (by rw[aI];exact nn _)
theorem vI(ps:List fz):∀i:Nat,(lH ps i).length<=i*ps.length
 |0=>SC _
 |i+1=>by
  rw[JV,Rs,jF]
  have:=vI ps i
  have:=LQ ps i ps.length
  lia
end Sq
end
section
namespace Sq
open PySem PySem.Spec PyProof.Rows L2
open Vbpcar (Pt)
open VbpcarNeutral (callOf)
section
variable{P:lw}{w:li}{K:ge}{mg:Str->Option al}{base:io}{Ad:aV}{C:ac}
def KR(C:ac):Sp:=λvs H Q E=>∃n j a,vs=[.ref n,.int j,.ref a]/\0<=j/\j<=7/\gC C j [.ref n,.ref a] H Q E
theorem XO{f:ac}{fd:on}(F:re K "change" "change" CY f fd)(T:Txt mg Ad)
 (tb:∃kvs,i9 K Ad.CHANGES kvs/\∀j:Int,0<=j->j<=7->∃f,On kvs j=some (.ref f)/\rY P w K mg base 3 f (gC C j)):o0 P w K mg base ae 4 f fd vT (KR C):=by
 have nd:=KJ.nd
 refine F.ok KJ (λvs H Q E h=> ?_) (λlm A outer s H vs Q E hr h=> ?_)
 .obtain⟨n,j,a,rfl,_⟩:=h
  rfl
 .obtain⟨n,j,a,rfl,h0,h7,k⟩:=h
  obtain⟨kvs,tk,tf⟩:=tb
  obtain⟨g,hg,hf⟩:=tf j h0 h7
  refine⟨_,(jp (pi (LJ (k:=3) (hr.mono (by decide)) (DI K rfl (DH T.CHANGES) (pv 1) (λ_ _=>rfl)) (am (pv 0) (am (pv 2) bi))))),?_⟩
  exact⟨_,rfl,_,_,_,_,rfl,rfl,tk,hg,_,_,rfl,hf,_,rfl,_,rfl,k⟩
def KS:Sp:=λvs H Q _=>∃l gs a b,vs=[.ref l,.int a,.int b]/\IL H l gs/\gs.length<=7/\∀H' p,db H H'->H p=none->IL H' p (gs.map λg=>if g=b then a else g)->Q (.ref p) H'
theorem XQ{f:ac}{fd:on}(F:re K "merged" "merged" CZ f fd)(T:Txt mg Ad):o0 P w K mg base ae 1 f fd vU KS:=by
 have nd:=KL.nd
 refine F.ok KL (λvs H Q E h=> ?_) (λlm A outer s H vs Q E hr h=> ?_)
 .obtain⟨l,gs,a,b,rfl,_⟩:=h
  rfl
 .obtain⟨l,gs,a,b,rfl,hl,h7,k⟩:=h
  refine⟨_,(jp (pi (ao rfl nd (P7 K rfl (pv 0)) (own:=[("group",3)]) (Re rfl) (λ_ _ _ _ _=>(xz 3 nd)) (λ_ _ _ _ _=>T0) (λ_ _ _ _ _=>(Zc (bw h_ (pv 3) (pv 2) (bx _)) (pv 1) (pv 3)))))),?_⟩
  walk_at "rd"
  have hlen:gs.length=(gs.map V.int).length:=(dL ..).symm
  refine⟨⟨_,aa.of hl⟩,eQ gs (λg=>.int (if g=b then a else g)) hlen (by rw[<-hlen];exact bh h7) (aa.of hl) (λi x g H' C hx hg s hC=> ?_) λD H' hD s hD'=>k H' D s hD (IL.of hD')⟩
  rw[wP,hg]at hx
  cases hx
  walk_at "rd"
  refine⟨rfl,_,rfl,?_⟩
  have h:=hC H' (db.refl _)
  refine cW (λh1=> ?_) (λh1=> ?_)
  .have h1:g=b:=V.int.inj (of_decide_eq_true h1)
   rw[if_pos h1]at h
   exact h
  .have h1:¬g=b:=λe=>h1 (decide_eq_true (congrArg V.int e))
   rw[if_neg h1]at h
   exact h
def Gf:Sp:=λvs H Q _=>∃l ps,vs=[.ref l]/\PL H l ps/\ps.length<=7/\∀H' p,db H H'->H p=none->TL H' p ((inOrder ps).map cu)->Q (.ref p) H'
theorem QB{f:ac}{fd:on}(F:re K "pairs_in_order" "pairs_in_order" yh f fd)(T:Txt mg Ad)(bc:Def P w K mg base "distance" 1 gh iO):
 o0 P w K mg base ae 2 f fd tD Gf:=by
 have nd:=Gb.nd
 refine F.ok Gb (λvs H Q E h=> ?_) (λlm A outer s H vs Q E hr h=> ?_)
 .obtain⟨l,ps,rfl,_⟩:=h
  rfl
 .obtain⟨l,ps,rfl,hl,h7,k⟩:=h
  obtain⟨xs,lf,hlen⟩:=hl.lst
  refine⟨_,(ga (pS 1 nd (xL bi))
   (ga (ck br rfl (nQ rfl T.cH (am (FM (aW K rfl) (by rfl) T.aJ aZ (am (pv 0) bi)) bi)) (aP 2 nd) (jp (ck br rfl (kX rfl T.cH (am (wp bz (pv 2) nb) (am (FM (aW K rfl) (by rfl) T.aJ aZ (am (pv 0) bi)) bi))) (aP 3 nd) (jp (du (cJ cB js jt iQ (pv 1) (am (WP (am (sK bc (hr.mono (by decide)) (am (ul (Ev K rfl) (pv 0) (pv 2) (λ_ _=>rfl)) (am (ul (Ev K rfl) (pv 0) (pv 3) (λ_ _=>rfl)) bi))) (am (pv 2) (am (pv 3) bi)))) bi)))))))
   (jp (pi (FM (IK K rfl) (by rfl) T.gX kT (am (pv 1) bi)))))),?_⟩
  walk_at "rd"
  refine⟨by decide,λq hq=> ?_⟩
  refine⟨xs,.inl (aa.of (cr hq _ _ lf)),?_⟩
  walk_at "rd"
  have hn:xs.length<=7:=by rw[hlen];exact h7
  refine⟨by lia,by lia,nH (λi σ H'=>∃v2 v3,σ=[some (.ref l),some (.ref q),v2,v3]/\db H H'/\TL H' q ((lH ps i).map cu)) ⟨_,_,rfl,cr hq,TL.nil bv⟩ ?_ ?_⟩
  .rintro i σ H' hi ⟨v2,v3,rfl,s',ht⟩
   rw[fk]at hi
   walk_at "rd"
   refine⟨xs,.inl (aa.of (s' _ _ lf)),?_⟩
   walk_at "rd"
   refine⟨_,_,⟨rfl,rfl⟩,⟨by lia,by lia,by lia,by lia⟩,nH (λm σ H'=>∃v3,σ=[some (.ref l),some (.ref q),some (.int (0+(i:Int))),v3]/\db H H'/\TL H' q ((lH ps i++ig ps i (i+1+m)).map cu)) ⟨_,rfl,s',?_⟩ ?_ ?_⟩
   .rw[ft,Wu,iL]
    exact ht
   .rintro m σ H2 hm ⟨v3,rfl,s2,ht2⟩
    walk_at "rd"
    have hj:i+1+m<ps.length:=by lia
    obtain⟨p1,hp1⟩:∃p1,ps[i]? =some p1:=⟨_,wS (by lia)⟩
    obtain⟨p2,hp2⟩:∃p2,ps[i+1+m]? =some p2:=⟨_,wS hj⟩
    obtain⟨a1,hx1,ha1⟩:=hl.get lf hp1
    obtain⟨a2,hx2,ha2⟩:=hl.get lf hp2
    obtain⟨us,wE,Wp⟩:=ht2.lst
    refine⟨.inl ⟨rfl,_,aa.of wE⟩,Fa (s2 _ _ lf) (at_of (by lia) hx1) (Fa (s2 _ _ lf) (at_of (by lia) hx2) ⟨a1,a2,p1,p2,rfl,s2 _ _ ha1,s2 _ _ ha2,by decide,λt ht'=> ?_⟩)⟩
    have E6:us.length<sizeLine:=by
     rw[Wp,dL,Rs]
     have h1:=vI ps i
     have h2:=LQ ps i (i+1+m)
     have h3:i*ps.length<=7*7:=eh (by lia) h7
     exact a8 (by lia)
    refine⟨q,us,_,rfl,rfl,cr ht' _ _ wE,E6,iW (s2.trans (cr ht')) hq,?_⟩
    have e:i+1+(m+1)=i+1+m+1:=rfl
    rw[e,XZ ps (show i<i+1+m by lia),<-mM,GM]
    have et:(.tup [.int (aj p1 p2:Nat),.int (0+(i:Int)),.int (0+(i:Int)+1+(m:Int))]:HO)=.tup ((cu (aj (ps.getD i ⟨0,0⟩) (ps.getD (i+1+m) ⟨0,0⟩),i,i+1+m)).map V.int):=by
     rw[Sc,Sc,hp1,hp2]
     show _=HO.tup [V.int (aj p1 p2:Nat),V.int (i:Int),V.int ((i+1+m:Nat):Int)]
     rw[show(0:Int)+(i:Int)=(i:Int) by lia,show(i:Int)+1+(m:Int)=((i+1+m:Nat):Int) by lia]
    rw[et]
    exact TL.push ht2 wE ht'
   .rintro σ H2 ⟨v3,rfl,s2,ht2⟩
    refine⟨_,_,rfl,s2,?_⟩
    rw[JV]
    have e:i+1+((xs.length:Int)-(0+(i:Int)+1)).toNat=ps.length:=by lia
    rw[e]at ht2
    exact ht2
  .rintro σ H' ⟨v2,v3,rfl,s',zs,h1,h2,h3⟩
   walk_at "rd"
   rw[fk,hlen,<-zT]at h2
   refine⟨q,zs,rfl,aa.of h1,λz hz=>⟨h3 z hz,λe=> ?_⟩,λys p hp cy d7=>k _ p (s'.trans (cr d7)) (s'.free d7) ?_⟩
   .have hm:z.2∈zs.map (·.2):=nw.mpr ⟨z,hz,rfl⟩
    rw[h2]at hm
    obtain⟨t,_,ht⟩:=nw.mp hm
    rw[e]at ht
    cases ht
   .refine⟨ys,bv,V0 ?_ ?_,λz hz=>cr d7 _ _ (h3 z (hp.mem_iff.mp hz))⟩
    .rw[<-h2]
     exact hp.map _
    .rw[ee]
     exact cy
noncomputable def eW(n:Nat)(part:Nat->Nat):List Int:=(sw n).map λi=>(part i:Int)
theorem wx{n i:Nat}(part:Nat->Nat)(h:i<n):((eW n part).map V.int)[i]? =some (.int (part i:Nat)):=by
 unfold eW
 rw[P6,wP,ku h]
 rfl
theorem VZ(n:Nat)(part:Nat->Nat)(x y:Nat):(eW n part).map (λg=>if g=(y:Int)then(x:Int)else g)=eW n λi=>if part i=y then x else part i:=by
 unfold eW
 rw[P6]
 refine fY λi _=> ?_
 show(if(part i:Int)=(y:Int)then(x:Int)else(part i:Int))=((if part i=y then x else part i:Nat):Int)
 by_cases h:part i=y
 .rw[if_pos h,if_pos (by lia)]
 .rw[if_neg h,if_neg (by lia)]
theorem YK(n:Nat)(part:Nat->Nat):(eW n part).length=n:=by unfold eW;simp
theorem Sb(n:Nat):L2.intsFrom 0 n=eW n id:=by
 unfold L2.intsFrom eW
 exact fY λi _=>by show(0:Int)+(i:Int)=(i:Int);lia
def yU:Sp:=λvs H Q _=>∃l ps,vs=[.ref l]/\PL H l ps/\ps.length<=7/\∀H' p,db H H'->TL H' p ((fo ps).map cu)->Q (.ref p) H'
theorem RL{f:ac}{fd:on}(F:re K "pairs_taken" "pairs_taken" zj f fd)(T:Txt mg Ad)(yc:Def P w K mg base "pairs_in_order" 2 tD Gf)
 (Cy:Def P w K mg base "merged" 1 vU KS):o0 P w K mg base ae 3 f fd p_ yU:=by
 have nd:=G8.nd
 refine F.ok G8 (λvs H Q E h=> ?_) (λlm A outer s H vs Q E hr h=> ?_)
 .obtain⟨l,ps,rfl,_⟩:=h
  rfl
 .obtain⟨l,ps,rfl,hl,h7,k⟩:=h
  obtain⟨xs,lf,hlen⟩:=hl.lst
  refine⟨_,(ga (pS 1 nd (dJ (Hn rfl) (by rfl) T.fE gZ (am (MK T.cH (am (FM (aW K rfl) (by rfl) T.aJ aZ (am (pv 0) bi)) bi)) bi)))
   (ga (pS 2 nd (xL bi))
   (ga (ck br rfl (P7 K rfl (sK yc (hr.mono (by decide)) (am (pv 0) bi))) (aF K rfl (n:=3) rfl (Da (aP 3 nd) (Da (aP 4 nd) (Da (aP 5 nd) aG))) rfl rfl) (jp (aw (bw oO (ul (Ev K rfl) (pv 1) (pv 4) (λ_ _=>rfl)) (ul (Ev K rfl) (pv 1) (pv 5) (λ_ _=>rfl)) (bx _)) (ga (du (cJ cB js jt iQ (pv 2) (am (WP (am (pv 3) (am (pv 4) (am (pv 5) bi)))) bi)))
   (jp (pS 1 nd (sK Cy (hr.mono (by decide)) (am (pv 1) (am (ul (Ev K rfl) (pv 1) (pv 4) (λ_ _=>rfl)) (am (ul (Ev K rfl) (pv 1) (pv 5) (λ_ _=>rfl)) bi))))))) aD)))
   (jp (pi (pv 2)))))),?_⟩
  walk_at "rd"
  have hn:xs.length<=7:=by rw[hlen];exact h7
  refine⟨xs,.inl (aa.of lf),λr hr'=>⟨r,0,(xs.length:Int),rfl,bv,⟨by lia,by lia,by lia,by lia⟩,TW (bh (by lia)),λg hg=>⟨SC _,λt ht=> ?_⟩⟩⟩
  have e0:L2.intsFrom 0 ((xs.length:Int)-0).toNat=eW ps.length id:=by rw[<-Sb,<-hlen];congr 1
  rw[e0]at ht⊢
  have s0:=(cr (o:=.dc 0 (xs.length:Int)) hr').trans (cr (o:=.lst ((eW ps.length id).map V.int)) hg)
  have s1:=s0.trans (cr (o:=.lst []) ht)
  refine⟨l,ps,rfl,TL.same s1 hl,h7,λHs a s2 ha hT=>⟨a,rfl,?_⟩⟩
  have sS:=s1.trans s2
  have hHt:H t=none:=s0.free ht
  have Fw:a≠t:=λe=>by rw[e,bv]at ha;cases ha
  have c9:Hs t=some (.lst []):=s2 _ _ bv
  obtain⟨zs,hz1,hz2,hz3⟩:=hT
  have FU:zs.length=(inOrder ps).length:=by rw[<-dL (f:=cu),<-hz2,dL]
  have hL:(inOrder ps).length<=49:=by
   rw[(uD ps).length_eq,zT]
   exact Ch (vI ps _) (eh h7 h7)
  refine⟨⟨_,aa.of hz1⟩,gU (xs:=zs.map λz=>V.ref z.1) (λi σ H'=>∃g v3 v4 v5 part tk,σ=[some (.ref l),some (.ref g),some (.ref t),v3,v4,v5]/\Is t Hs H'/\IL H' g (eW ps.length part)/\g≠t/\TL H' t (tk.map cu)/\tk.length<=i/\
   fo ps=tk++BS ((inOrder ps).drop i) part) ⟨g,none,none,none,id,[],rfl,λb o h _=>h,?_,?_,TL.nil c9,nn _,rfl⟩ ?_ ?_ ?_⟩
  .exact s2 _ _ (cr ht _ _ bv)
  .exact λe=>by rw[e,bv]at ht;cases ht
  .rintro i σ H' hi ⟨g,v3,v4,v5,part,tk,rfl,ho,_⟩
   exact aa.of (ho _ _ hz1 Fw)
  .rintro i x σ H' hi ⟨g,v3,v4,v5,part,tk,rfl,ho,sf,FF,pF,gz,heq⟩
   have a_:i<zs.length:=by have:=(P4.mp hi).1;rwa [dL]at this
   obtain⟨z,hz⟩:∃z,(inOrder ps)[i]? =some z:=⟨_,wS (by lia)⟩
   have hzi:(zs[i]'a_).2=cu z:=by
    have e:(zs.map (·.2))[i]? =some (cu z):=by rw[hz2,wP,hz];rfl
    rw[wP,wS a_]at e
    exact TD e
   rw[wP,wS a_]at hi
   cases hi
   have PN:Hs (zs[i]'a_).1=some (.tup [.int z.1,.int z.2.1,.int z.2.2]):=by
    have h:=hz3 (zs[i]'a_) (f6 a_)
    unfold PP at h
    rw[hzi]at h
    exact h
   have iz:=ho _ _ PN (P8 PN c9 (by intro q;cases q))
   refine oh iz ?_
   walk_at "rd"
   have bo:z∈jB ps:=(uD ps).mem_iff.mp (Tk hz)
   obtain⟨b1,b2⟩:=Zb bo
   have NV:(inOrder ps).drop i=z::(inOrder ps).drop (i+1):=by
    rw[SN (by lia:i<(inOrder ps).length)]
    congr 1
    rw[wS (by lia:i<(inOrder ps).length)]at hz
    exact TD hz
   refine Fa sf (la (wx part b1)) (Fa sf (la (wx part b2)) ⟨rfl,_,rfl,?_⟩)
   refine cW (λh=> ?_) (λh=> ?_)
   .have h:¬part z.2.1=part z.2.2:=λe=>by rw[e]at h;simp at h
    obtain⟨us,wE,Wp⟩:=pF.lst
    rw[dL]at Wp
    refine⟨.inl ⟨rfl,_,aa.of wE⟩,by decide,λu hu=>⟨t,us,_,rfl,rfl,cr hu _ _ wE,a8 (by lia),?_⟩⟩
    have o2:Is t H' (upd (upd H' u (.tup [.int z.1,.int z.2.1,.int z.2.2])) t (.lst (us++[.ref u]))):=λb o hb bn=>by rw[gl bn];exact cr hu _ _ hb
    have hg2:IL _ g (eW ps.length part):=o2 _ _ sf FF
    refine Fa hg2 (la (wx part b1)) (Fa hg2 (la (wx part b2)) ⟨g,_,_,_,rfl,hg2,by rw[YK];exact h7,λH3 g' s3 d7 hIL=> ?_⟩)
    rw[VZ]at hIL
    refine⟨g',_,_,_,⟨rfl,rfl,rfl,rfl⟩,λb o hb bn=>s3 _ _ (o2 _ _ (ho b o hb bn) bn),_,hIL,(λe=>by rw[e,bv]at d7;cases d7),tk++[z],?_,by rw[Rs,fW];lia,?_⟩
    .rw[GM]
     exact TL.same s3 (TL.push (ns:=cu z) pF wE hu)
    .rw[heq,NV]
     show tk++(if part z.2.1=part z.2.2 then _ else _)=_
     rw[if_neg h,mM]
     rfl
   .have h:part z.2.1=part z.2.2:=by
     refine Decidable.byContradiction λe=>h ?_
     rw[Bool.not_eq_true',decide_eq_false_iff_not]
     exact λz=>e (by have:=V.int.inj z;lia)
    refine⟨g,_,_,_,⟨rfl,rfl,rfl,rfl⟩,ho,part,sf,FF,tk,pF,by lia,?_⟩
    rw[heq,NV]
    show tk++(if part z.2.1=part z.2.2 then _ else _)=_
    rw[if_pos h]
  .rintro σ H' ⟨g,v3,v4,v5,part,tk,rfl,ho,sf,FF,pF,gz,heq⟩
   walk_at "rd"
   rw[dL,FU,List.drop_length]at heq
   rw[show BS [] part=[]from rfl,iL]at heq
   rw[heq]at k
   exact k H' t (λb o h=>ho b o (sS b o h) (wT h hHt)) pF
end
end Sq
end
section
namespace Sq
open PySem PySem.Spec PyProof.Rows L2
open Vbpcar (Pt)
open VbpcarNeutral (callOf)
theorem ot{H:Hp}{l b:ac}{xs zs:List V}{Q:VK}(h:H l=some (.lst xs))(k:H b=some (.lst zs))(hz:xs.length+zs.length<=sizeLine)(q:Q .ag (upd H l (.lst (xs++zs)))):MP (.ref l) [.ref b] H Q:=
 ⟨l,b,xs,zs,rfl,rfl,h,k,hz,q⟩
theorem cT{n:Nat}(h:n<=10000):n<sizeLine:=gH h (by decide)
theorem B_{α:Type}(f g:α->Int):∀l:List α,(l.flatMap λp=>[f p,g p]).length=2*l.length
 |[]=>rfl
 |a::l=>by rw[iH,Rs,B_ f g l];simp;lia
section
variable{P:lw}{w:li}{K:ge}{mg:Str->Option al}{base:io}{Ad:aV}{C:ac}
def qB:Sp:=λvs H Q _=>∃(l:ac)(zs:List (Int×Int)),vs=[.ref l]/\TL H l (zs.map λz:Int×Int=>[z.1,z.2])/\zs.length<=1000/\∀H' p,db H H'->H p=none->IL H' p ((zs.length:Int)::zs.flatMap λz=>[z.1,z.2])->Q (.ref p) H'
theorem Wo{f:ac}{fd:on}(F:re K "counted" "counted" Ci f fd)(T:Txt mg Ad):o0 P w K mg base ae 1 f fd kW qB:=by
 have nd:=JY.nd
 refine F.ok JY (λvs H Q E h=> ?_) (λlm A outer s H vs Q E hr h=> ?_)
 .obtain⟨l,zs,rfl,_⟩:=h
  rfl
 .obtain⟨l,zs,rfl,hl,hz,k⟩:=h
  obtain⟨xs,lf,hlen⟩:=TL.lst hl
  rw[dL]at hlen
  refine⟨_,(ga (pS 1 nd (xL (am (FM (aW K rfl) (by rfl) T.aJ aZ (am (pv 0) bi)) bi)))
   (ga (ck br rfl (P7 K rfl (pv 0)) (aF K rfl (n:=2) rfl (Da (aP 2 nd) (Da (aP 3 nd) aG)) rfl rfl) (jp (du (cJ cB mB mC kU (pv 1) (am (xL (am (pv 2) (am (pv 3) bi))) bi)))))
   (jp (pi (pv 1))))),?_⟩
  walk_at "rd"
  refine⟨xs,.inl (aa.of lf),by decide,λt ht=> ?_⟩
  have s0:=cr (o:=.lst [.int (xs.length:Int)]) ht
  refine⟨⟨_,aa.of (s0 _ _ lf)⟩,gU (xs:=xs) (λi σ H'=>∃v3 v4,σ=[some (.ref l),some (.ref t),v3,v4]/\db H H'/\IL H' t ((zs.length:Int)::(zs.take i).flatMap λp=>[p.1,p.2]))
   ⟨_,_,rfl,s0,?_⟩ (λi σ H' _⟨_,_,_,s',_⟩=>aa.of (s' _ _ lf)) ?_ ?_⟩
  .show upd H t _ t=_
   rw[bv,hlen];rfl
  .rintro i x σ H' hi ⟨v3,v4,rfl,s',hIL⟩
   have a_:i<xs.length:=(P4.mp hi).1
   obtain⟨p,hp⟩:∃p,zs[i]? =some p:=⟨_,wS (by lia)⟩
   obtain⟨b,rfl,hb⟩:=TL.at hl lf hi (ns:=[p.1,p.2]) (by rw[wP,hp];rfl)
   refine bB (s' _ _ hb) ?_
   walk_at "rd"
   refine⟨.inl ⟨rfl,_,aa.of hIL⟩,by decide,λu hu=>ot (cr hu _ _ hIL) bv ?_ ?_⟩
   .rw[dL,Os,B_,dG]
    exact TW (cT (by simp;lia))
   .refine⟨_,_,⟨rfl,rfl⟩,iW (s'.trans (cr hu)) ht,?_⟩
    show upd _ t _ t=_
    rw[bv,take_snoc hp,yD,FS,FS,GM]
    rfl
  .rintro σ H' ⟨v3,v4,rfl,s',hIL⟩
   walk_at "rd"
   rw[hlen,iK]at hIL
   exact k H' t s' ht hIL
theorem Ec(ps:List Pt):KB ps=(ps.map λp=>(p.x,p.y)).map λz:Int×Int=>[z.1,z.2]:=by
 unfold KB;rw[P6];rfl
theorem B5(ps:List Pt):((ps.map λp=>(p.x,p.y)).length:Int)::(ps.map λp=>(p.x,p.y)).flatMap (λz:Int×Int=>[z.1,z.2])=pQ ps:=by
 unfold pQ
 rw[dL,Jp]
theorem Su{f:ac}{fd:on}(F:re K "ask_points" "ask_points" zX f fd)(T:Txt mg Ad)(fy:Def P w K mg base "counted" 1 kW qB):o0 P w K mg base ae 2 f fd zR (dF 8):=by
 have nd:=Hv.nd
 refine F.ok Hv (λvs H Q E h=> ?_) (λlm A outer s H vs Q E hr h=> ?_)
 .obtain⟨n,a,ps,ns,ca,rfl,_⟩:=h
  rfl
 .obtain⟨l,a,ps,ns,ca,rfl,hl,hg,ha,hb,hc,k⟩:=h
  obtain⟨rfl,rfl⟩:=acs hc
  refine⟨_,(jp (pi (sK fy (hr.mono (by decide)) (am (pv 0) bi)))),?_⟩
  walk_at "rd"
  refine⟨l,ps.map λp=>(p.x,p.y),rfl,Ec ps▸hl,by rw[dL];have:=hg.len;lia,λH' p s' hp hI=>k H' p s' hp ?_⟩
  rw[B5]at hI
  exact hI
theorem Wn{f:ac}{fd:on}(F:re K "ask_box" "ask_box" Cg f fd)(T:Txt mg Ad)(iS:Def P w K mg base "bounds" 1 nY vJ):o0 P w K mg base ae 2 f fd Cd (dF 9):=by
 have nd:=JX.nd
 refine F.ok JX (λvs H Q E h=> ?_) (λlm A outer s H vs Q E hr h=> ?_)
 .obtain⟨n,a,ps,ns,ca,rfl,_⟩:=h
  rfl
 .obtain⟨l,a,ps,ns,ca,rfl,hl,hg,ha,hb,hc,k⟩:=h
  obtain⟨rfl,rfl⟩:=acu hc
  obtain⟨xs,lf,hlen⟩:=hl.lst
  rw[Zw]at k
  refine⟨_,(ga (aw (bT (kY K rfl (pv 0) (λ_=>rfl))) (jp (pi (xL (am (aY T.NOTHING_THERE) bi)))) aD)
   (jp (pi (wp gj (xL (am nb bi)) (sK iS (hr.mono (by decide)) (am (pv 0) bi)))))),?_⟩
  walk_at "rd"
  refine⟨_,.inl ⟨xs,aa.of lf,rfl⟩,?_⟩
  cases ps with
  |nil=>
   have e:xs=[]:=cC.mp hlen
   subst e
   rw[if_pos (show(!([]:List V).isEmpty)=false from rfl)]
   exact⟨by decide,λp hp=>k _ p (cr hp) hp bv⟩
  |cons p ps=>
   have e:xs≠[]:=λe=>by rw[e]at hlen;cases hlen
   have e':(!xs.isEmpty)=true:=by cases xs with|nil=>exact absurd rfl e|cons _ _=>rfl
   rw[e',if_neg (by decide)]
   refine⟨by decide,λt ht=> ?_⟩
   refine⟨l,p::ps,rfl,TL.same (cr ht) hl,hg.len,by simp,λH' q s' hq=> ?_⟩
   refine⟨t,q,_,_,rfl,rfl,s' _ _ bv,hq,TW (a8 (by simp)),λr hr=> ?_⟩
   exact k _ r (((cr ht).trans s').trans (cr hr)) (((cr ht).trans s').free hr) bv
theorem Bm{l:List Int}:cf l<=cD l:=by
 cases l with
 |nil=>exact Cu _
 |cons a l=>
  show l.foldl min a<=l.foldl max a
  have h1:=(foldl_min l a).2.1
  have h2:=(foldl_max l a).2.1
  lia
theorem UT{f:ac}{fd:on}(F:re K "ask_half" "ask_half" Bx f fd)(T:Txt mg Ad)(iS:Def P w K mg base "bounds" 1 nY vJ):o0 P w K mg base ae 2 f fd Bp (dF 10):=by
 have nd:=IY.nd
 refine F.ok IY (λvs H Q E h=> ?_) (λlm A outer s H vs Q E hr h=> ?_)
 .obtain⟨n,a,ps,ns,ca,rfl,_⟩:=h
  rfl
 .obtain⟨l,a,ps,ns,ca,rfl,hl,hg,ha,hb,hc,k⟩:=h
  obtain⟨rfl,rfl⟩:=aaZ hc
  obtain⟨xs,lf,hlen⟩:=hl.lst
  refine⟨_,(ga (aw (bT (kY K rfl (pv 0) (λ_=>rfl))) (jp (pi (xL (am nb bi)))) aD)
   (ga (pS 2 nd (sK iS (hr.mono (by decide)) (am (pv 0) bi)))
   (jp (pi (xL (am (wp cj (wp bz (wp cj (ul (Ev K rfl) (pv 2) nb (λ_ _=>rfl)) (ul (Ev K rfl) (pv 2) nb (λ_ _=>rfl))) (ul (Ev K rfl) (pv 2) nb (λ_ _=>rfl))) (ul (Ev K rfl) (pv 2) nb (λ_ _=>rfl))) bi)))))),?_⟩
  walk_at "rd"
  refine⟨_,.inl ⟨xs,aa.of lf,rfl⟩,?_⟩
  cases ps with
  |nil=>
   have e:xs=[]:=cC.mp hlen
   subst e
   rw[if_pos (show(!([]:List V).isEmpty)=false from rfl)]
   exact⟨by decide,λp hp=>k _ p (cr hp) hp bv⟩
  |cons p ps=>
   have e:xs≠[]:=λe=>by rw[e]at hlen;cases hlen
   have e':(!xs.isEmpty)=true:=by cases xs with|nil=>exact absurd rfl e|cons _ _=>rfl
   rw[e',if_neg (by decide)]
   refine⟨l,p::ps,rfl,hl,hg.len,by simp,λH' q s' hq=> ?_⟩
   refine Fa hq rfl (Fa hq rfl ?_)
   walk_at "rd"
   refine Fa hq rfl ?_
   walk_at "rd"
   refine Fa hq rfl ?_
   walk_at "rd"
   refine⟨by decide,λr hr=>k _ r (s'.trans (cr hr)) (s'.free hr) ?_⟩
   show upd _ r _ r=_
   rw[bv]
   show some (HO.lst [V.int _])=some (HO.lst [V.int ((Vbpcar.half (p::ps):Nat):Int)])
   unfold Vbpcar.half
   have h1:=Bm (l:=(p::ps).map λp=>p.x)
   have h2:=Bm (l:=(p::ps).map λp=>p.y)
   have e3:∀a b c d:Int,a<=b->c<=d->b-a+d-c=(((b-a).natAbs+(d-c).natAbs:Nat):Int):=λa b c d _ _=>by lia
   exact congrArg (λz=>some (HO.lst [V.int z])) (e3 _ _ _ _ h1 h2)
theorem US{f:ac}{fd:on}(F:re K "ask_dist" "ask_dist" Bw f fd)(T:Txt mg Ad)(eM:Def P w K mg base "has_point" 1 kN qg)
 (bc:Def P w K mg base "distance" 1 gh iO):o0 P w K mg base ae 2 f fd Bo (dF 11):=by
 have nd:=IX.nd
 refine F.ok IX (λvs H Q E h=> ?_) (λlm A outer s H vs Q E hr h=> ?_)
 .obtain⟨n,a,ps,ns,ca,rfl,_⟩:=h
  rfl
 .obtain⟨l,a,ps,ns,ca,rfl,hl,hg,ha,hb,hc,k⟩:=h
  obtain⟨i,j,rfl,rfl⟩:=aa0 hc
  obtain⟨xs,lf,hlen⟩:=hl.lst
  rw[X1,<-hlen]at k
  refine⟨_,(ga (pS 2 nd (ul (Ev K rfl) (pv 1) nb (λ_ _=>rfl)))
   (ga (pS 3 nd (ul (Ev K rfl) (pv 1) nb (λ_ _=>rfl)))
   (ga (aw (PW.pt (acO (bT (eS (sK eM (hr.mono (by decide)) (am (pv 0) (am (pv 2) bi))) (λ_=>rfl))) (abP (bT (eS (sK eM (hr.mono (by decide)) (am (pv 0) (am (pv 3) bi))) (λ_=>rfl)))))) (jp (pi (xL (am (aY T.tY) bi)))) aD)
   (jp (pi (xL (am (sK bc (hr.mono (by decide)) (am (ul (Ev K rfl) (pv 0) (pv 2) (λ_ _=>rfl)) (am (ul (Ev K rfl) (pv 0) (pv 3) (λ_ _=>rfl)) bi))) bi))))))),?_⟩
  walk_at "rd"
  refine Fa ha rfl (Fa ha rfl ⟨l,xs,i,rfl,lf,_,rfl,?_⟩)
  cases hi:eX xs.length i with
  |false=>
   rw[if_pos rfl]
   rw[hi]at k
   exact⟨by decide,λp hp=>k _ p (cr hp) hp bv⟩
  |true=>
   rw[if_neg (by decide)]
   rw[hi]at k
   refine⟨l,xs,j,rfl,lf,_,rfl,?_⟩
   cases hj:eX xs.length j with
   |false=>
    rw[if_pos rfl]
    rw[hj]at k
    exact⟨by decide,λp hp=>k _ p (cr hp) hp bv⟩
   |true=>
    rw[if_neg (by decide)]
    rw[hj]at k
    obtain⟨m,rfl,hm⟩:=qQ hi
    obtain⟨n,rfl,hn⟩:=qQ hj
    obtain⟨p1,hp1⟩:∃p1,ps[m]? =some p1:=⟨_,wS (by lia)⟩
    obtain⟨p2,hp2⟩:∃p2,ps[n]? =some p2:=⟨_,wS (by lia)⟩
    obtain⟨a1,hx1,ha1⟩:=hl.get lf hp1
    obtain⟨a2,hx2,ha2⟩:=hl.get lf hp2
    rw[fk,fk,Sc,Sc,hp1,hp2]at k
    exact Fa lf (la hx1) (Fa lf (la hx2) ⟨a1,a2,p1,p2,rfl,ha1,ha2,by decide,λt ht=>k _ t (cr ht) ht bv⟩)
theorem KZ(l:List Nat):((gf l:Nat):Int)=(l.map λ(n:Nat)=>(n:Int)).sum:=by
 have h:∀(l:List Nat)(a:Nat),((l.foldl (·+·) a:Nat):Int)=(a:Int)+(l.map λ(n:Nat)=>(n:Int)).sum:=by
  intro l
  induction l with
  |nil=>intro a;simp
  |cons x l ih=>
   intro a
   rw[kH,ih,FS,K7]
   lia
 unfold gf
 rw[h l 0]
 simp
theorem Co:∀(l:List (Nat×Nat×Nat))(part:Nat->Nat),(BS l part).length<=l.length
 |[],_=>nn _
 |a::r,part=>by
  unfold BS
  split
  .exact Ch (Co r _) (gg _)
  .rw[Os,Os]
   exact Ah (Co r _)
theorem Ac{ps:List Pt}(h:ps.length<=7):(fo ps).length<=49:=by
 refine Ch (Co (inOrder ps) _) ?_
 rw[(uD ps).length_eq,zT]
 exact Ch (vI ps _) (eh h h)
def yz:Sp:=λvs H Q _=>∃(l:ac)(ts:List (Nat×Nat×Nat)),vs=[.ref l]/\TL H l (ts.map cu)/\ts.length<=1000/\∀H',db H H'->Q (.int (gf (ts.map λa=>a.1):Nat)) H'
theorem Ra{f:ac}{fd:on}(F:re K "pairs_length" "pairs_length" yS f fd)(T:Txt mg Ad):o0 P w K mg base ae 1 f fd pX yz:=by
 have nd:=GK.nd
 refine F.ok GK (λvs H Q E h=> ?_) (λlm A outer s H vs Q E hr h=> ?_)
 .obtain⟨l,ts,rfl,_⟩:=h
  rfl
 .obtain⟨l,ts,rfl,hl,hz,k⟩:=h
  obtain⟨xs,lf,hlen⟩:=TL.lst hl
  rw[dL]at hlen
  refine⟨_,(jp (pi (FM (Dj K rfl rfl) (by rfl) T.rD D0 (am (ao rfl nd (P7 K rfl (pv 0)) (own:=[("length",1),("i",2),("j",3)]) (Re rfl) (λ_ _ _ _ _=>(aF K rfl (n:=3) rfl (Da (xz 1 nd) (Da (xz 2 nd) (Da (xz 3 nd) aG))) rfl rfl)) (λ_ _ _ _ _=>T0) (λ_ _ _ _ _=>(pv 1))) bi)))),?_⟩
  walk_at "rd"
  refine⟨⟨_,aa.of lf⟩,eQ ts (λz=>.int (z.1:Nat)) hlen.symm (cT (by lia)) (aa.of lf) (λi x z H' C hx hz s hC=> ?_) λD H2 hD s2 h2=> ?_⟩
  .obtain⟨b,rfl,hb⟩:=TL.at hl lf hx (ns:=cu z) (by rw[wP,hz];rfl)
   refine oh (s _ _ hb) ⟨rfl,?_⟩
   walk_at "rd"
   exact hC _ (db.refl _)
  .refine⟨D,_,rfl,aa.of (IL.of (f:=λz:Nat×Nat×Nat=>((z.1:Nat):Int)) h2),?_⟩
   have e:(ts.map λz:Nat×Nat×Nat=>((z.1:Nat):Int)).sum=((gf (ts.map λa=>a.1):Nat):Int):=by
    rw[KZ,P6];rfl
   rw[e]
   exact k H2 s2
theorem UW{f:ac}{fd:on}(F:re K "ask_span" "ask_span" Bz f fd)(T:Txt mg Ad)(mV:Def P w K mg base "pairs_taken" 3 p_ yU)
 (mQ:Def P w K mg base "pairs_length" 1 pX yz)(fy:Def P w K mg base "counted" 1 kW qB):
 o0 P w K mg base ae 4 f fd Br (dF 12):=by
 have nd:=I0.nd
 refine F.ok I0 (λvs H Q E h=> ?_) (λlm A outer s H vs Q E hr h=> ?_)
 .obtain⟨n,a,ps,ns,ca,rfl,_⟩:=h
  rfl
 .obtain⟨l,a,ps,ns,ca,rfl,hl,hg,ha,hb,hc,k⟩:=h
  obtain⟨rfl,rfl⟩:=aa1 hc
  refine⟨_,(ga (pS 2 nd (sK mV (hr.mono (by decide)) (am (pv 0) bi)))
   (jp (pi (wp gj (xL (am (sK mQ (hr.mono (by decide)) (am (pv 2) bi)) bi)) (sK fy (hr.mono (by decide)) (am (ao rfl nd (P7 K rfl (pv 2)) (own:=[("length",3),("i",4),("j",5)]) (Re rfl) (λ_ _ _ _ _=>(aF K rfl (n:=3) rfl (Da (xz 3 nd) (Da (xz 4 nd) (Da (xz 5 nd) aG))) rfl rfl)) (λ_ _ _ _ _=>T0) (λ_ _ _ _ _=>(WP (am (pv 4) (am (pv 5) bi))))) bi)))))),?_⟩
  walk_at "rd"
  refine⟨l,ps,rfl,hl,hg.len,λH1 q s1 hq=> ?_⟩
  walk_at "rd"
  have bL:=Ac hg.len
  refine⟨q,fo ps,rfl,hq,by lia,λH2 s2=>⟨by decide,λt ht=> ?_⟩⟩
  have s12:=s1.trans s2
  have hq3:=TL.same (s2.trans (cr (o:=.lst [.int (gf ((fo ps).map λa=>a.1):Nat)]) ht)) hq
  obtain⟨xs,lf,hlen⟩:=TL.lst hq3
  rw[dL]at hlen
  refine⟨⟨_,aa.of lf⟩,iV (fo ps) (λz=>[(z.2.1:Int),(z.2.2:Int)]) hlen.symm (a8 (by lia)) (aa.of lf) (λi x z H' C hx hz s hC=> ?_) λD H3 hD s3 h3=> ?_⟩
  .obtain⟨b,rfl,hb⟩:=TL.at hq3 lf hx (ns:=cu z) (by rw[wP,hz];rfl)
   refine oh (s _ _ hb) ⟨rfl,?_⟩
   walk_at "rd"
   exact⟨by decide,λu hu=>hC u _ (cr hu) bv⟩
  refine⟨D,(fo ps).map λz=>((z.2.1:Int),(z.2.2:Int)),rfl,by rw[P6];exact h3,by rw[dL];lia,λH4 p s4 hp hI=> ?_⟩
  have hI':=hI
  rw[dL,Jp]at hI'
  refine⟨t,p,_,_,rfl,rfl,s4 _ _ (s3 _ _ bv),hI',?_,λr hr=> ?_⟩
  .rw[dL]
   refine TW (cT ?_)
   have e:=B_ (λa:Nat×Nat×Nat=>(a.2.1:Int)) (λa=>(a.2.2:Int)) (fo ps)
   simp only[Os,mX]
   show 0+1+((List.flatMap (λa:Nat×Nat×Nat=>[(a.2.1:Int),(a.2.2:Int)]) (fo ps)).length+1)<=10000
   lia
  .have sA:=((s12.trans (cr (o:=.lst [.int (gf ((fo ps).map λa=>a.1):Nat)]) ht)).trans s3).trans s4
   exact k _ r (sA.trans (cr hr)) (sA.free hr) bv
end
end Sq
end
section
namespace Sq
open PySem PySem.Spec PyProof.Rows L2
open Vbpcar (Pt)
theorem Bb(a b:Nat):Ap (a:Int) (b:Int)=((a &&& b:Nat):Int):=by
 unfold Ap
 rw[decide_eq_true (Yf a),decide_eq_true (Yf b)]
 rfl
theorem ll{i:Int}{n:Nat}(h:i=(n:Int)):(1:Int)*2 ^ i.toNat=((2 ^ n:Nat):Int):=by
 subst h
 rw[fk,Int.one_mul]
 norm_cast
theorem Lf(n rest:Nat):KM (n+1) rest=KM n rest++(if rest.testBit n=true then[n]else[]):=by
 unfold KM
 rw[kI,mG]
 by_cases h:rest.testBit n=true
 .simp[h]
 .simp[h]
theorem ZW(d:Nat->Nat->Nat)(wf:Nat->Nat)(l:List Nat)(here:Nat):(Op d wf l here).2.length<=l.length:=yK (vf _ _)
theorem Mj(n rest:Nat):(KM n rest).length<=n:=by
 have:=iC (λi=>rest.testBit i) (sw n)
 rw[aI]at this
 exact this
def AH(H:Hp)(a:ac)(n k:Nat)(ah:Nat->Nat->Nat):Prop:=∃us:List V,H a=some (.lst us)/\us.length=k/\∀m<k,∃b,us[m]? =some (.ref b)/\IL H b ((sw n).map λi=>(ah m i:Int))
theorem AH.same{H H':Hp}{a:ac}{n k:Nat}{ah:Nat->Nat->Nat}(s:db H H')(h:AH H a n k ah):AH H' a n k ah:=by
 obtain⟨us,h1,h2,h3⟩:=h
 exact⟨us,s _ _ h1,h2,λm hm=>let⟨b,e1,e2⟩:=h3 m hm;⟨b,e1,IL.same s e2⟩⟩
theorem N1{H:Hp}{b:ac}{n i:Nat}{f:Nat->Int}(h:IL H b ((sw n).map f))(hi:i<n):H b=some (.lst (((sw n).map f).map V.int))/\(((sw n).map f).map V.int)[i]? =some (.int (f i)):=
 ⟨h,by rw[wP,wP,ku hi];rfl⟩
section
variable{P:lw}{w:li}{K:ge}{mg:Str->Option al}{base:io}{Ad:aV}
noncomputable def j5(ps:List Pt)(ah:Nat->Nat->Nat)(rest here:Nat)(i:Nat):List Int:=[((dP ps here i+ah (rest-2 ^ i) i:Nat):Int),(i:Int)]
def yw:Sp:=λvs H Q _=>∃l a ps ah rest here k,vs=[.ref l,.ref a,.int (rest:Nat),.int (here:Nat)]/\PL H l ps/\ps.length<=7/\here<ps.length/\rest<128/\rest<=k/\AH H a ps.length k ah/\
 ∀H' p,db H H'->H p=none->TL H' p ((KM ps.length rest).map (j5 ps ah rest here))->Q (.ref p) H'
theorem Q_{f:ac}{fd:on}(F:re K "next_choices" "next_choices" yR f fd)(T:Txt mg Ad)(bc:Def P w K mg base "distance" 1 gh iO):
 o0 P w K mg base ae 2 f fd pW yw:=by
 have nd:=GJ.nd
 refine F.ok GJ (λvs H Q E h=> ?_) (λlm A outer s H vs Q E hr h=> ?_)
 .obtain⟨l,a,ps,ah,rest,here,k,rfl,_⟩:=h
  rfl
 .obtain⟨l,a,ps,ah,rest,here,kk,rfl,hl,h7,hh,pE,hrk,hA,k⟩:=h
  obtain⟨xs,lf,hlen⟩:=hl.lst
  refine⟨_,(ga (pS 4 nd (xL bi))
   (ga (ck br rfl (nQ rfl T.cH (am (FM (aW K rfl) (by rfl) T.aJ aZ (am (pv 0) bi)) bi)) (aP 5 nd) (ga (pS 6 nd (wp lu nb (pv 5)))
   (jp (aw (bw h_ (wp wQ (pv 2) (pv 6)) (pv 6) (bx _)) (jp (du (cJ cB js jt iQ (pv 4) (am (WP (am (wp bz (sK bc (hr.mono (by decide)) (am (ul (Ev K rfl) (pv 0) (pv 3) (λ_ _=>rfl)) (am (ul (Ev K rfl) (pv 0) (pv 5) (λ_ _=>rfl)) bi))) (ul (Ev K rfl) (ul (Ev K rfl) (pv 1) (wp cj (pv 2) (pv 6)) (λ_ _=>rfl)) (pv 5) (λ_ _=>rfl))) (am (pv 5) bi))) bi)))) aD))))
   (jp (pi (pv 4))))),?_⟩
  walk_at "rd"
  refine⟨by decide,λt ht=>⟨xs,.inl (aa.of (cr ht _ _ lf)),?_⟩⟩
  walk_at "rd"
  refine⟨by lia,by lia,nH (λi σ H'=>∃v5 v6,σ=[some (.ref l),some (.ref a),some (.int (rest:Int)),some (.int (here:Int)),some (.ref t),v5,v6]/\db H H'/\TL H' t ((KM i rest).map (j5 ps ah rest here)))
   ⟨_,_,rfl,cr ht,TL.nil bv⟩ ?_ ?_⟩
  .rintro i σ H' hi ⟨v5,v6,rfl,s',hT⟩
   rw[fk]at hi
   walk_at "rd"
   have ei:(0:Int)+(i:Int)=(i:Int):=Int.zero_add _
   refine⟨⟨by lia,by lia,by show(1:Int).natAbs<2 ^ 64;decide⟩,?_⟩
   rw[ll ei,Bb]
   have hb:=ZT rest pE i (by lia)
   refine⟨rfl,_,rfl,cW (λh=> ?_) (λh=> ?_)⟩
   .have h:rest &&& 2 ^ i=2 ^ i:=Ar (V.int.inj (of_decide_eq_true h))
    have xJ:rest.testBit i=true:=by rw[<-hb];exact decide_eq_true h
    obtain⟨p1,hp1⟩:∃p1,ps[here]? =some p1:=⟨_,wS hh⟩
    obtain⟨p2,hp2⟩:∃p2,ps[i]? =some p2:=⟨_,wS (by lia)⟩
    obtain⟨a1,hx1,ha1⟩:=hl.get lf hp1
    obtain⟨a2,hx2,ha2⟩:=hl.get lf hp2
    obtain⟨us,wE,Wp⟩:=TL.lst hT
    obtain⟨rows,r1,r2,r3⟩:=hA
    have hle:=(CB rest pE i (by lia) xJ).1
    have cO:0<2 ^ i:=kR (by decide)
    obtain⟨b,e1,e2⟩:=r3 (rest-2 ^ i) (by lia)
    obtain⟨e3,e4⟩:=N1 (i:=i) e2 (by lia)
    refine⟨.inl ⟨rfl,_,aa.of wE⟩,Fa (s' _ _ lf) (at_of (by lia) hx1) (Fa (s' _ _ lf) (at_of (by lia) hx2) ⟨a1,a2,p1,p2,rfl,s' _ _ ha1,s' _ _ ha2,?_⟩)⟩
    walk_at "rd"
    refine Fa (s' _ _ r1) (at_of (j:=rest-2 ^ i) (by lia) e1) (Fa (s' _ _ e3) (at_of (by lia) e4) ?_)
    walk_at "rd"
    refine⟨by decide,λu hu=>⟨t,us,_,rfl,rfl,cr hu _ _ wE,?_,_,_,⟨rfl,rfl⟩,iW (s'.trans (cr hu)) ht,?_⟩⟩
    .rw[Wp,dL];exact a8 (by have:=Mj i rest;lia)
    .rw[Lf,if_pos xJ,GM]
     have et:(.tup [.int (((aj p1 p2:Nat):Int)+(ah (rest-2 ^ i) i:Int)),.int (0+(i:Int))]:HO)=.tup ((j5 ps ah rest here i).map V.int):=by
      unfold j5 dP
      rw[Sc,Sc,hp1,hp2,ei]
      show _=HO.tup [V.int ((aj p1 p2+ah (rest-2 ^ i) i:Nat):Int),V.int (i:Int)]
      rw[mY]
     rw[et]
     exact TL.push hT wE hu
   .have xJ:¬rest.testBit i=true:=λq=>h (decide_eq_true (congrArg V.int (congrArg Int.ofNat (of_decide_eq_true (hb.trans q)))))
    refine⟨_,_,⟨rfl,rfl⟩,s',?_⟩
    rw[Lf,if_neg xJ,iL]
    exact hT
  .rintro σ H' ⟨v5,v6,rfl,s',hT⟩
   walk_at "rd"
   rw[fk,hlen]at hT
   exact k H' t s' ht hT
theorem MD{K:ge}{ps:List Pt}{wf:Nat->Nat}{rest here:Nat}(h7:ps.length<=7)(pE:rest<128)(bn:KM ps.length rest≠[]){H:Hp}{p:ac}{Q:VK}
 (hT:TL H p ((KM ps.length rest).map (j5 ps (λm i=>(Op (dP ps) wf (KM ps.length m) i).1) rest here)))
 (q:∀b j,j∈KM ps.length rest->Op (dP ps) wf (KM ps.length rest) here=(dP ps here j+(Op (dP ps) wf (KM ps.length (rest-2 ^ j)) j).1,j::(Op (dP ps) wf (KM ps.length (rest-2 ^ j)) j).2)->
   H b=some (.tup [.int ((Op (dP ps) wf (KM ps.length rest) here).1:Nat),.int (j:Nat)])->Q (.ref b) H):w_ K [.ref p] H Q:=by
 obtain⟨zs,z1,z2,z3⟩:=hT
 refine⟨p,zs,rfl,aa.of z1,z3,λe=> ?_,λz hz hm=> ?_⟩
 .rw[e]at z2
  exact bn (iF.mp z2.symm)
 .have c_:z.2∈(KM ps.length rest).map (j5 ps (λm i=>(Op (dP ps) wf (KM ps.length m) i).1) rest here):=by rw[<-z2];exact nw.mpr ⟨z,hz,rfl⟩
  obtain⟨j,hj,ej⟩:=nw.mp c_
  have key:=Yx (dP ps) wf (aaY ps.length rest) here hj (λi hi=>by
   rw[<-qJ h7 pE hj,<-qJ h7 pE hi]
   have hy:j5 ps (λm i=>(Op (dP ps) wf (KM ps.length m) i).1) rest here i∈zs.map (·.2):=by rw[z2];exact nw.mpr ⟨i,hi,rfl⟩
   obtain⟨y,hy1,hy2⟩:=nw.mp hy
   have h:=hm y hy1
   rw[hy2,<-ej]at h
   unfold j5 at h
   dsimp only at h
   rw[HT.dq,HT.dq]at h
   split at h
   .rename_i e
    split at h
    .rename_i e2;exact .inr ⟨by lia,by lia⟩
    .have:=of_decide_eq_false h;exact .inr ⟨by lia,by lia⟩
   .have:=of_decide_eq_false h;exact .inl (by lia))
  rw[<-qJ h7 pE hj]at key
  refine q z.1 j hj key ?_
  have e:=z3 z hz
  unfold PP at e
  rw[e,<-ej,key]
  rfl
def HM:Sp:=λvs H Q _=>∃l hm ps wf,vs=[.ref l,.ref hm]/\PL H l ps/\ps.length<=7/\ps≠[]/\IL H hm ((sw ps.length).map λi=>(wf i:Nat))/\
 ∀H' p,db H H'->H p=none->AH H' p ps.length (2 ^ ps.length) (λm i=>(Op (dP ps) wf (KM ps.length m) i).1)->Q (.ref p) H'
theorem AH.push{H:Hp}{t b:ac}{n k:Nat}{ah:Nat->Nat->Nat}{us:List V}(h:AH H t n k ah)(hu:H t=some (.lst us))(hb:IL H b ((sw n).map λi=>(ah k i:Int)))(hbt:b≠t)(bn:∀m<k,∀c,us[m]? =some (V.ref c)->c≠t):
 AH (upd H t (.lst (us++[.ref b]))) t n (k+1) ah:=by
 obtain⟨us',h1,h2,h3⟩:=h
 rw[hu]at h1;cases h1
 refine⟨us++[.ref b],bv,by rw[Rs,h2];rfl,λm hm=> ?_⟩
 rcases mH (zu hm)with e|e
 .obtain⟨c,e1,e2⟩:=h3 m e
  refine⟨c,by rw[mz (by lia)];exact e1,?_⟩
  unfold IL
  rw[gl (bn m e c e1)]
  exact e2
 .subst e
  refine⟨b,by rw[pJ (by lia),h2,Nat.sub_self];rfl,?_⟩
  unfold IL
  rw[gl hbt]
  exact hb
theorem SE{f:ac}{fd:on}(F:re K "sums_ahead" "sums_ahead" z_ f fd)(T:Txt mg Ad)(mP:Def P w K mg base "next_choices" 2 pW yw):
 o0 P w K mg base ae 3 f fd uI HM:=by
 have nd:=HD.nd
 refine F.ok HD (λvs H Q E h=> ?_) (λlm A outer s H vs Q E hr h=> ?_)
 .obtain⟨l,hm,ps,wf,rfl,_⟩:=h
  rfl
 .obtain⟨l,hm,ps,wf,rfl,hl,h7,UV,hh,k⟩:=h
  obtain⟨xs,lf,hlen⟩:=hl.lst
  refine⟨_,(ga (pS 2 nd (xL (am (dJ (tZ K rfl) (by rfl) T.fE gZ (am (pv 1) bi)) bi)))
   (ga (ck br rfl (kX rfl T.cH (am nb (am (wp lu nb (FM (aW K rfl) (by rfl) T.aJ aZ (am (pv 0) bi))) bi))) (aP 3 nd) (jp (du (cJ cB js jt iQ (pv 2) (am (ao rfl nd (nQ rfl T.cH (am (FM (aW K rfl) (by rfl) T.aJ aZ (am (pv 0) bi)) bi)) (own:=[("here",4)]) (Re rfl) (λ_ _ _ _ _=>(xz 4 nd)) (λ_ _ _ _ _=>T0) (λ_ _ _ _ _=>(ul (bf K rfl) (FM (nX K rfl rfl (g_ hr)) (by rfl) T.dY eR (am (sK mP (hr.mono (by decide)) (am (pv 0) (am (pv 2) (am (pv 3) (am (pv 4) bi))))) bi)) nb (λ_ _=>rfl)))) bi)))))
   (jp (pi (pv 2))))),?_⟩
  walk_at "rd"
  refine⟨_,.inl (aa.of hh),λc hc=>⟨by decide,λt ht=> ?_⟩⟩
  walk_at "rd"
  have Pc:c≠t:=wT (o:=.lst (((sw ps.length).map λi=>((wf i:Nat):Int)).map V.int)) bv ht
  have s1:=cr (o:=.lst (((sw ps.length).map λi=>((wf i:Nat):Int)).map V.int)) hc
  have s2:=s1.trans (cr (o:=.lst [.ref c]) ht)
  have hHt:H t=none:=s1.free ht
  refine⟨xs,.inl (aa.of (s2 _ _ lf)),⟨by lia,by lia,by show(1:Int).natAbs<2 ^ 64;decide⟩,?_⟩
  rw[ll (n:=ps.length) (by rw[hlen])]
  have h128:2 ^ ps.length<=128:=bM (n:=2) (by decide) h7
  have cO:0<2 ^ ps.length:=kR (by decide)
  refine⟨_,_,⟨rfl,rfl⟩,⟨by lia,by lia,by lia,by lia⟩,nH (λi σ H'=>∃v3 v4,σ=[some (.ref l),some (.ref hm),some (.ref t),v3,v4]/\db H H'/\H' t≠none/\AH H' t ps.length (i+1) (λm i=>(Op (dP ps) wf (KM ps.length m) i).1)/\(∀us,H' t=some (.lst us)->∀(m:Nat)c,us[m]? =some (V.ref c)->c≠t))
   ⟨_,_,rfl,s2,by rw[bv];simp,⟨[.ref c],bv,rfl,λm hm=> ?_⟩,?_⟩ ?_ ?_⟩
  .have:m=0:=by lia
   subst this
   refine⟨c,rfl,?_⟩
   unfold IL
   rw[gl Pc,bv]
   simp only[Lg,Mi]
  .intro us wE m c' hc'
   rw[bv]at wE
   cases wE
   cases m with
   |zero=>cases hc';exact Pc
   |succ m=>cases hc'
  .rintro i σ H' hi ⟨v3,v4,rfl,s',hn,hA,bn⟩
   have hi:i+1<2 ^ ps.length:=by lia
   walk_at "rd"
   obtain⟨us,u1,u2,u3⟩:=id hA
   refine⟨.inl ⟨rfl,_,aa.of u1⟩,xs,.inl (aa.of (s' _ _ lf)),?_⟩
   walk_at "rd"
   refine⟨by lia,by lia,wy (xs:=_) (sw ps.length) (λj=>.int ((Op (dP ps) wf (KM ps.length (i+1)) j).1:Nat)) (by simp[hlen]) (by simp[hlen];exact bh h7) k_ (λj x d H2 C hx hd s3 hC=> ?_) λD H2 hD s3 h3=> ?_⟩
   .obtain⟨rfl,gy⟩:d=j/\j<ps.length:=by
     have:=P4.mp hd
     obtain⟨h1,h2⟩:=this
     rw[tL]at h2
     exact⟨h2.symm,by simpa using h1⟩
    rw[wP,ku (by lia)]at hx
    cases hx
    walk_at "rd"
    refine⟨l,t,ps,_,i+1,d,i+1,(by rw[show(1:Int)+(i:Int)=((i+1:Nat):Int) by lia,show(0:Int)+(d:Int)=(d:Int) by lia]),TL.same (s'.trans s3) hl,h7,gy,by lia,nn _,hA.same s3,λH4 p s4 hp hT=> ?_⟩
    walk_at "rd"
    refine MD h7 (by lia) (Ml _ h7 _ hi (by lia)) hT λb j hj e hb=>aO hb rfl ?_
    exact hC _ s4
   .have hDt:D≠t:=λe=>by rw[e]at hD;exact hn hD
    have h3t:=s3 _ _ u1
    refine⟨t,us,_,rfl,rfl,h3t,by rw[u2];exact cT (by lia),?_⟩
    refine⟨_,_,⟨rfl,rfl⟩,λb o hb=> ?_,by rw[bv];simp,?_,?_⟩
    .rw[gl (wT hb hHt)]
     exact s3 _ _ (s' _ _ hb)
    .refine AH.push (hA.same s3) h3t (IL.of (f:=λj=>(((Op (dP ps) wf (KM ps.length (i+1)) j).1:Nat):Int)) h3) hDt λm hm c' e=>bn us u1 m c' e
    .intro us' lO m c' hc'
     rw[bv]at lO
     cases lO
     by_cases ji:m<us.length
     .rw[mz ji]at hc'
      exact bn us u1 m c' hc'
     .rw[pJ (by lia)]at hc'
      cases hm0:m-us.length with
      |zero=>rw[hm0]at hc';cases hc';exact hDt
      |succ z=>rw[hm0]at hc';cases hc'
  .rintro σ H' ⟨v3,v4,rfl,s',hn,hA,bn⟩
   walk_at "rd"
   have e:(((2 ^ ps.length:Nat):Int)-1).toNat+1=2 ^ ps.length:=by lia
   rw[e]at hA
   exact k H' t s' hHt hA
end
end Sq
end
section
namespace Sq
open PySem PySem.Spec PyProof.Rows L2
open Vbpcar (Pt)
open VbpcarNeutral (callOf)
noncomputable def cU(ps:List Pt)(wf:Nat->Nat)(i:Nat):Nat×List Nat:=Op (dP ps) wf (KM ps.length (2 ^ ps.length-1-2 ^ i)) i
noncomputable def Uf(l:List Nat):List Int:=l.map λ(n:Nat)=>(n:Int)
theorem vS{l:List Nat}{i n:Nat}(h:l[i]? =some n):((Uf l).map V.int)[i]? =some (.int (n:Int)):=by
 unfold Uf;rw[wP,wP,h];rfl
theorem Ih{n i:Nat}(h:i<n):2 ^ i<=2 ^ n-1:=by
 have:2 ^ i<2 ^ n:=yA (by decide) h
 lia
theorem Xb{a b:Nat}(h:b<=a-1)(h0:0<a):(a:Int)-1-(b:Int)=((a-1-b:Nat):Int):=by lia
theorem vB{a b:Nat}(h:b<=a):(a:Int)-(b:Int)=((a-b:Nat):Int):=by lia
section
variable{P:lw}{w:li}{K:ge}{mg:Str->Option al}{base:io}{Ad:aV}
def zo:Sp:=λvs H Q _=>∃l st hm ps ss wf,vs=[.ref l,.ref st,.ref hm]/\PL H l ps/\ps.length<=7/\ps≠[]/\IL H st (Uf ss)/\ss≠[]/\(∀i∈ss,i<ps.length)/\ss.length<=7/\IL H hm ((sw ps.length).map λi=>(wf i:Nat))/\
 ∀H' p j,db H H'->H p=none->j∈ss->(∀i∈ss,(cU ps wf j).1<(cU ps wf i).1\/((cU ps wf j).1=(cU ps wf i).1/\j<=i))->
  IL H' p (((cU ps wf j).1:Int)::(((j::(cU ps wf j).2).length:Nat):Int)::Uf (j::(cU ps wf j).2))->Q (.ref p) H'
theorem Sw{f:ac}{fd:on}(F:re K "best_order" "best_order" zZ f fd)(T:Txt mg Ad)(zI:Def P w K mg base "sums_ahead" 3 uI HM)
 (mP:Def P w K mg base "next_choices" 2 pW yw):o0 P w K mg base ae 4 f fd qd zo:=by
 have nd:=Hx.nd
 refine F.ok Hx (λvs H Q E h=> ?_) (λlm A outer s H vs Q E hr h=> ?_)
 .obtain⟨l,st,hm,ps,ss,wf,rfl,_⟩:=h
  rfl
 .obtain⟨l,st,hm,ps,ss,wf,rfl,hl,h7,UV,ay,hss,bL,hs7,hh,k⟩:=h
  obtain⟨xs,lf,hlen⟩:=hl.lst
  have h128:2 ^ ps.length<=128:=bM (n:=2) (by decide) h7
  have cO:0<2 ^ ps.length:=kR (by decide)
  refine⟨_,(ga (pS 3 nd (sK zI (hr.mono (by decide)) (am (pv 0) (am (pv 2) bi))))
   (ga (pS 4 nd (wp cj (wp lu nb (FM (aW K rfl) (by rfl) T.aJ aZ (am (pv 0) bi))) nb))
   (ga (pS 5 nd (FM (nX K rfl rfl (g_ hr)) (by rfl) T.dY eR (am (ao rfl nd (P7 K rfl (pv 1)) (own:=[("start",9)]) (Re rfl) (λ_ _ _ _ _=>(xz 9 nd)) (λ_ _ _ _ _=>T0) (λ_ _ _ _ _=>(WP (am (ul (Ev K rfl) (ul (Ev K rfl) (pv 3) (wp cj (pv 4) (wp lu nb (pv 9))) (λ_ _=>rfl)) (pv 9) (λ_ _=>rfl)) (am (pv 9) bi))))) bi)))
   (ga (pS 6 nd (xL (am (ul (bf K rfl) (pv 5) nb (λ_ _=>rfl)) bi)))
   (ga (pS 7 nd (wp cj (pv 4) (wp lu nb (ul (bf K rfl) (pv 5) nb (λ_ _=>rfl)))))
   (ga (vY br (bw oO (pv 7) nb (bx _)) (ga (pS 8 nd (ul (bf K rfl) (FM (nX K rfl rfl (g_ hr)) (by rfl) T.dY eR (am (sK mP (hr.mono (by decide)) (am (pv 0) (am (pv 3) (am (pv 7) (am (ul (Ev K rfl) (pv 6) (oP oy nb) (λ_ _=>rfl)) bi))))) bi)) nb (λ_ _=>rfl)))
   (ga (du (cJ cB js jt iQ (pv 6) (am (pv 8) bi)))
   (jp (pS 7 nd (wp cj (pv 7) (wp lu nb (pv 8))))))))
   (jp (pi (wp gj (xL (am (ul (bf K rfl) (pv 5) nb (λ_ _=>rfl)) (am (FM (aW K rfl) (by rfl) T.aJ aZ (am (pv 6) bi)) bi))) (pv 6)))))))))),?_⟩
  refine aQ λR hR=> ?_
  walk_at "rd"
  refine⟨l,hm,ps,wf,rfl,hl,h7,UV,hh,λH1 a s1 ha hA=>hR _ _ ?_⟩
  clear hR
  refine aQ λR hR=> ?_
  walk_at "rd"
  refine⟨xs,.inl (aa.of (s1 _ _ lf)),⟨by lia,by lia,by show(1:Int).natAbs<2 ^ 64;decide⟩,?_⟩
  rw[ll (n:=ps.length) (by rw[hlen])]
  refine hR _ _ ?_
  clear hR
  refine aQ λR hR=> ?_
  walk_at "rd"
  have hst1:=s1 _ _ ay
  refine⟨⟨_,aa.of hst1⟩,k6 (xs:=(Uf ss).map V.int) ss (λi=>[((cU ps wf i).1:Int),(i:Int)]) (by simp[Uf]) (by simp[Uf];exact bh hs7) (qX (aa.of hst1)) (λi x d H2 C hx hd s2 hC=> ?_) λD H2 hD s2 h2=> ?_⟩
  .rw[vS hd]at hx
   cases hx
   have d6:=bL d (Tk hd)
   have cy:=Ih d6
   walk_at "rd"
   refine⟨⟨by lia,by lia,by show(1:Int).natAbs<2 ^ 64;decide⟩,?_⟩
   rw[ll (n:=d) rfl]
   obtain⟨us,u1,u2,u3⟩:=hA
   have hp2:0<2 ^ d:=kR (by decide)
   obtain⟨b,e1,e2⟩:=u3 (2 ^ ps.length-1-2 ^ d) (by lia)
   obtain⟨e3,e4⟩:=N1 (i:=d) e2 d6
   refine Fa (s2 _ _ u1) (at_of (j:=2 ^ ps.length-1-2 ^ d) (by lia) e1) (Fa (s2 _ _ e3) (at_of rfl e4) ?_)
   walk_at "rd"
   exact⟨by decide,λu hu=>hC u _ (cr hu) bv⟩
  obtain⟨zs,z1,z2,z3⟩:=h2
  refine⟨D,zs,rfl,aa.of z1,z3,λe=> ?_,λz hz FL=> ?_⟩
  .rw[e]at z2
   exact hss (iF.mp z2.symm)
  have c_:z.2∈ss.map λi=>[((cU ps wf i).1:Int),(i:Int)]:=by rw[<-z2];exact nw.mpr ⟨z,hz,rfl⟩
  obtain⟨j,hj,ej⟩:=nw.mp c_
  have iz:H2 z.1=some (.tup [.int ((cU ps wf j).1:Int),.int (j:Int)]):=by
   have e:=z3 z hz
   unfold PP at e
   rw[e,<-ej];rfl
  have acx:∀i∈ss,(cU ps wf j).1<(cU ps wf i).1\/((cU ps wf j).1=(cU ps wf i).1/\j<=i):=λi hi=>by
   have hy:[((cU ps wf i).1:Int),(i:Int)]∈zs.map (·.2):=by rw[z2];exact nw.mpr ⟨i,hi,rfl⟩
   obtain⟨y,hy1,hy2⟩:=nw.mp hy
   have h:=FL y hy1
   rw[hy2,<-ej,HT.dq,HT.dq]at h
   split at h
   .rename_i e
    split at h
    .rename_i e2;exact .inr ⟨by lia,by lia⟩
    .have:=of_decide_eq_false h;exact .inr ⟨by lia,by lia⟩
   .have:=of_decide_eq_false h;exact .inl (by lia)
  have gy:=bL j hj
  have cy:=Ih gy
  have s12:=s1.trans s2
  refine hR _ _ ?_
  clear hR
  walk_at "rd"
  refine aO iz rfl ?_
  walk_at "rd"
  refine⟨by decide,λo ho=> ?_⟩
  have s3:=s12.trans (cr (o:=.lst [.int (j:Int)]) ho)
  have hHo:H o=none:=s12.free ho
  refine aO (cr ho _ _ iz) rfl ?_
  walk_at "rd"
  refine⟨⟨by lia,by lia,by show(1:Int).natAbs<2 ^ 64;decide⟩,?_⟩
  rw[ll (n:=j) rfl]
  have hA2:=hA.same s2
  have gz:=ZW (dP ps) wf (KM ps.length (2 ^ ps.length-1-2 ^ j)) j
  have hbl:=Mj ps.length (2 ^ ps.length-1-2 ^ j)
  refine⟨λm σ H'=>∃(rest here:Nat)(pre:List Nat)(v8 v9:Option V),m=rest/\σ=[some (.ref l),some (.ref st),some (.ref hm),some (.ref a),some (.int ((2 ^ ps.length:Nat)-1)),some (.ref z.1),some (.ref o),some (.int (rest:Int)),v8,v9]/\
   rest<2 ^ ps.length/\here<ps.length/\Is o H2 H'/\IL H' o (Uf (pre++[here]))/\pre++here::(Op (dP ps) wf (KM ps.length rest) here).2=j::(cU ps wf j).2,
   ⟨_,2 ^ ps.length-1-2 ^ j,j,[],_,_,rfl,by rw[Xb cy cO],gH (M8 _ _) (Nat.sub_lt cO (by decide)),gy,Is.of_same (cr ho),bv,rfl⟩,?_⟩
  rintro m σ H' ⟨_,here,pre,v8,v9,rfl,rfl,xH,hhl,hO,hIL,oY⟩
  have old:∀{b u},H2 b=some u->H' b=some u:=λ{b u}e=>hO _ _ e (wT e ho)
  have sH:db H H':=λb u e=>old (s12 _ _ e)
  walk_at "rd"
  have adD:pre.length<=7:=by
   have e:=congrArg dm oY
   rw[Rs,Os,Os]at e
   unfold cU at e
   lia
  refine⟨rfl,_,rfl,cW (λh=> ?_) (λh=> ?_)⟩
  .have hr0:m≠0:=λe=>by subst e;exact absurd h (by decide)
   refine⟨_,λ_ _ h=>h,?_⟩
   walk_at "rd"
   refine Fa hIL (v:=.int (here:Int)) ?_ ?_
   .rw[show(Uf (pre++[here])).map V.int=((Uf pre).map V.int)++[.int (here:Int)] by simp[Uf]]
    exact Yw ..
   refine⟨l,a,ps,λm i=>(Op (dP ps) wf (KM ps.length m) i).1,m,here,2 ^ ps.length,rfl,TL.same sH hl,h7,hhl,by lia,by lia,?_,λH3 p s3' hp hT=> ?_⟩
   .obtain⟨us,u1,u2,u3⟩:=hA2
    exact⟨us,old u1,u2,λm hm=>let⟨b,e1,e2⟩:=u3 m hm;⟨b,e1,old e2⟩⟩
   walk_at "rd"
   refine MD h7 (by lia) (Ml _ h7 _ xH hr0) hT λb i hi e hb=>aO hb rfl ?_
   have a_:=(Dz.mp hi).1
   obtain⟨hb2,_⟩:=CB m (by lia) i (by lia) (Dz.mp hi).2
   have hp2:0<2 ^ i:=kR (by decide)
   have hIL3:=s3' _ _ hIL
   walk_at "rd"
   refine⟨.inl ⟨rfl,_,aa.of hIL3⟩,o,_,_,rfl,rfl,hIL3,?_,?_⟩
   .rw[dL]
    unfold Uf
    rw[dL,Rs]
    exact a8 (by simp;lia)
   walk_at "rd"
   refine⟨⟨by lia,by lia,by show(1:Int).natAbs<2 ^ 64;decide⟩,m-2 ^ i,by lia,i,pre++[here],_,_,⟨by rw[ll (n:=i) rfl,vB hb2],rfl,rfl⟩,by lia,a_,λb u hb' bn=> ?_,?_,?_⟩
   .rw[gl bn]
    exact s3' _ _ (hO _ _ hb' bn)
   .show upd _ o _ o=_
    rw[bv]
    simp[Uf]
   .rw[<-oY,e]
    simp
  .have hr0:m=0:=by
    rcases jw m with e|e
    .exact e
    .exfalso;apply h
     have:¬(V.int (m:Int)=V.int 0):=λq=>by have:=V.int.inj q;lia
     simp[this]
   subst hr0
   rw[Lg,Mi]at oY
   walk_at "rd"
   refine aO (old iz) rfl ⟨_,.inl (aa.of hIL),by decide,λp hp=>⟨p,o,_,_,rfl,rfl,bv,cr hp _ _ hIL,?_,λr hr'=> ?_⟩⟩
   .unfold Uf
    simp only[dL,Rs,Os,mX]
    exact TW (a8 (by lia))
   .refine k _ r j ((sH.trans (cr hp)).trans (cr hr')) ((sH.trans (cr hp)).free hr') hj acx ?_
    show upd _ r _ r=_
    rw[bv,<-oY]
    simp[Uf]
def HI:Sp:=λvs H Q _=>∃l ps,vs=[.ref l]/\PL H l ps/\ps.length<=7/\∀H' p,db H H'->H p=none->IL H' p (((qr ps).1:Int)::Vbpcar.numbers (qr ps).2)->Q (.ref p) H'
theorem Sv{f:ac}{fd:on}(F:re K "best_chain" "best_chain" zY f fd)(T:Txt mg Ad)(m8:Def P w K mg base "best_order" 4 qd zo):
 o0 P w K mg base ae 5 f fd uE HI:=by
 have nd:=Hw.nd
 refine F.ok Hw (λvs H Q E h=> ?_) (λlm A outer s H vs Q E hr h=> ?_)
 .obtain⟨l,ps,rfl,_⟩:=h
  rfl
 .obtain⟨l,ps,rfl,hl,h7,k⟩:=h
  obtain⟨xs,lf,hlen⟩:=hl.lst
  refine⟨_,(ga (aw (bT (kY K rfl (pv 0) (λ_=>rfl))) (jp (pi (xL (am nb (am nb bi))))) aD)
   (jp (pi (sK m8 (hr.mono (by decide)) (am (pv 0) (am (dJ (Hn rfl) (by rfl) T.fE gZ (am (MK T.cH (am (FM (aW K rfl) (by rfl) T.aJ aZ (am (pv 0) bi)) bi)) bi)) (am (ao rfl nd (P7 K rfl (pv 0)) (own:=[("point",1)]) (Re rfl) (λ_ _ _ _ _=>(xz 1 nd)) (λ_ _ _ _ _=>T0) (λ_ _ _ _ _=>nb)) bi))))))),?_⟩
  walk_at "rd"
  refine⟨_,.inl ⟨xs,aa.of lf,rfl⟩,?_⟩
  cases ps with
  |nil=>
   have e:xs=[]:=cC.mp hlen
   subst e
   rw[if_pos (show(!([]:List V).isEmpty)=false from rfl)]
   exact⟨by decide,λp hp=>k _ p (cr hp) hp bv⟩
  |cons p0 pt=>
   have e:xs≠[]:=λe=>by rw[e]at hlen;cases hlen
   have e':(!xs.isEmpty)=true:=by cases xs with|nil=>exact absurd rfl e|cons _ _=>rfl
   rw[e',if_neg (by decide)]
   generalize UV:p0::pt=ps at*
   have bn:ps≠[]:=by rw[<-UV];simp
   refine⟨xs,.inl (aa.of lf),λr hr'=> ?_⟩
   walk_at "rd"
   have sr:=cr (o:=.dc 0 (xs.length:Int)) hr'
   refine⟨r,0,_,rfl,bv,⟨by lia,by lia,by lia,by lia⟩,by rw[bu];lia,λq hq=> ?_⟩
   have sq:=sr.trans (cr (o:=.lst ((L2.intsFrom 0 ((xs.length:Int)-0).toNat).map V.int)) hq)
   have hx2:=sq _ _ lf
   refine⟨⟨_,aa.of hx2⟩,eQ ps (λ_=>.int 0) hlen.symm (by rw[hlen];exact bh h7) (aa.of hx2) (λi x p H' C hx hp s hC=> ?_) λD H2 hD s2 h2=> ?_⟩
   .walk_at "rd"
    exact hC _ (db.refl _)
   have eq1:L2.intsFrom 0 ((xs.length:Int)-0).toNat=Uf (sw ps.length):=by
    unfold L2.intsFrom Uf
    rw[show((xs.length:Int)-0).toNat=ps.length by lia]
    simp
   refine⟨l,q,D,ps,sw ps.length,λ_=>0,rfl,TL.same (sq.trans s2) hl,h7,bn,?_,?_,λi hi=>Pi.mp hi,by rw[aI];exact h7,?_,λH' p j s' hp hj hb hI=> ?_⟩
   .rw[<-eq1]
    exact s2 _ _ bv
   .intro e
    have:=congrArg dm e
    rw[aI]at this
    exact bn (cC.mp this)
   .unfold IL
    rw[h2,P6]
    congr 2
    apply uj
    .simp
    .intro i h1 h2;simp
   .have hc:=VQ h7 (Pi.mp hj) (λi hi=>hb i (Pi.mpr hi))
    refine k H' p ((sq.trans s2).trans s') ((sq.trans s2).free hp) ?_
    rw[hc]
    exact hI
def Iv:Sp:=λvs H Q _=>∃l ps,vs=[.ref l]/\PL H l ps/\ps.length<=7/\∀H' p,db H H'->H p=none->IL H' p (((qF ps).1:Int)::Vbpcar.numbers (qF ps).2)->Q (.ref p) H'
theorem TV{f:ac}{fd:on}(F:re K "best_ring" "best_ring" A1 f fd)(T:Txt mg Ad)(m8:Def P w K mg base "best_order" 4 qd zo)
 (bc:Def P w K mg base "distance" 1 gh iO):o0 P w K mg base ae 5 f fd uS Iv:=by
 have nd:=Ip.nd
 refine F.ok Ip (λvs H Q E h=> ?_) (λlm A outer s H vs Q E hr h=> ?_)
 .obtain⟨l,ps,rfl,_⟩:=h
  rfl
 .obtain⟨l,ps,rfl,hl,h7,k⟩:=h
  obtain⟨xs,lf,hlen⟩:=hl.lst
  refine⟨_,(ga (aw (bT (kY K rfl (pv 0) (λ_=>rfl))) (jp (pi (xL (am nb (am nb bi))))) aD)
   (jp (pi (sK m8 (hr.mono (by decide)) (am (pv 0) (am (xL (am nb bi)) (am (ao rfl nd (P7 K rfl (pv 0)) (own:=[("point",1)]) (Re rfl) (λ_ _ _ _ _=>(xz 1 nd)) (λ_ _ _ _ _=>T0) (λ_ _ _ _ _=>(sK bc (hr.mono (by decide)) (am (pv 1) (am (ul (Ev K rfl) (pv 0) nb (λ_ _=>rfl)) bi))))) bi))))))),?_⟩
  walk_at "rd"
  refine⟨_,.inl ⟨xs,aa.of lf,rfl⟩,?_⟩
  cases ps with
  |nil=>
   have e:xs=[]:=cC.mp hlen
   subst e
   rw[if_pos (show(!([]:List V).isEmpty)=false from rfl)]
   exact⟨by decide,λp hp=>k _ p (cr hp) hp bv⟩
  |cons p0 pt=>
   have e:xs≠[]:=λe=>by rw[e]at hlen;cases hlen
   have e':(!xs.isEmpty)=true:=by cases xs with|nil=>exact absurd rfl e|cons _ _=>rfl
   rw[e',if_neg (by decide)]
   have hp0:(p0::pt)[0]? =some p0:=rfl
   generalize UV:p0::pt=ps at*
   have bn:ps≠[]:=by rw[<-UV];simp
   have cO:0<ps.length:=pP.mpr bn
   refine⟨by decide,λq hq=> ?_⟩
   have sq:=cr (o:=.lst [.int 0]) hq
   have hx2:=sq _ _ lf
   obtain⟨a0,hx0,ha0⟩:=hl.get lf hp0
   refine⟨⟨_,aa.of hx2⟩,eQ ps (λp=>.int (aj p p0:Nat)) hlen.symm (by rw[hlen];exact bh h7) (aa.of hx2) (λi x p H' C hx hp s hC=> ?_) λD H2 hD s2 h2=> ?_⟩
   .obtain⟨b,rfl,hb⟩:=hl.at lf hx hp
    walk_at "rd"
    refine Fa (s _ _ hx2) (at_of rfl hx0) ⟨b,a0,p,p0,rfl,s _ _ (sq _ _ hb),s _ _ (sq _ _ ha0),hC _ (db.refl _)⟩
   have ed:∀i<ps.length,dP ps i 0=aj (ps.getD i ⟨0,0⟩) p0:=λi hi=>by
    unfold dP
    rw[Sc (l:=ps) (i:=0),hp0];rfl
   refine⟨l,q,D,ps,[0],λi=>dP ps i 0,rfl,TL.same (sq.trans s2) hl,h7,bn,s2 _ _ bv,by simp,λi hi=>by cases zn.mp hi;exact cO,by simp,?_,λH' p j s' hp hj hb hI=> ?_⟩
   .unfold IL
    rw[h2,P6]
    congr 2
    apply uj
    .simp
    .intro i h1 h2'
     have hi:i<ps.length:=by simpa using h1
     simp only[zC,tL,Yd]
     rw[ed i hi,Sc,wS hi]
     rfl
   .cases zn.mp hj
    refine k H' p ((sq.trans s2).trans s') ((sq.trans s2).free hp) ?_
    rw[aaF h7 bn]
    exact hI
end
end Sq
end
section
namespace Sq
open PySem PySem.Spec PyProof.Rows L2
open Vbpcar (Pt)
section
variable{P:lw}{w:li}{K:ge}{mg:Str->Option al}{base:io}{Ad:aV}
def yV:Sp:=λvs H Q _=>∃l c ps p,vs=[.ref l,.ref c]/\PL H l ps/\ps.length<=7/\H c=some (.tup [.int p.x,.int p.y])/\∀H',db H H'->Q (.int (uV ps p:Nat)) H'
theorem RM{f:ac}{fd:on}(F:re K "star_length" "star_length" zk f fd)(T:Txt mg Ad)(bc:Def P w K mg base "distance" 1 gh iO):
 o0 P w K mg base ae 2 f fd qa yV:=by
 have nd:=G9.nd
 refine F.ok G9 (λvs H Q E h=> ?_) (λlm A outer s H vs Q E hr h=> ?_)
 .obtain⟨l,c,ps,p,rfl,_⟩:=h
  rfl
 .obtain⟨l,c,ps,p,rfl,hl,h7,hc,k⟩:=h
  obtain⟨xs,lf,hlen⟩:=hl.lst
  refine⟨_,(jp (pi (FM (Dj K rfl rfl) (by rfl) T.rD D0 (am (ao rfl nd (P7 K rfl (pv 0)) (own:=[("point",2)]) (Re rfl) (λ_ _ _ _ _=>(xz 2 nd)) (λ_ _ _ _ _=>T0) (λ_ _ _ _ _=>(sK bc (hr.mono (by decide)) (am (pv 2) (am (pv 1) bi))))) bi)))),?_⟩
  walk_at "rd"
  refine⟨⟨_,aa.of lf⟩,eQ ps (λq=>.int (aj q p:Nat)) hlen.symm (by rw[hlen];exact bh h7) (aa.of lf) (λi x q H' C hx hq s hC=> ?_) λD H2 hD s2 h2=> ?_⟩
  .obtain⟨b,rfl,hb⟩:=hl.at lf hx hq
   walk_at "rd"
   exact⟨b,c,q,p,rfl,s _ _ hb,s _ _ hc,hC _ (db.refl _)⟩
  .refine⟨D,_,rfl,aa.of (IL.of (f:=λq:Pt=>((aj q p:Nat):Int)) h2),?_⟩
   have e:(ps.map λq:Pt=>((aj q p:Nat):Int)).sum=((uV ps p:Nat):Int):=by
    unfold uV
    rw[KZ,P6];rfl
   rw[e]
   exact k H2 s2
def Gr:Sp:=λvs H Q _=>∃l ns,vs=[.ref l]/\IL H l ns/\ns.length<=7/\ns≠[]/\∀H',db H H'->Q (.int (Vbpcar.middle ns)) H'
theorem QM{f:ac}{fd:on}(F:re K "middle_number" "middle_number" yo f fd)(T:Txt mg Ad):o0 P w K mg base ae 1 f fd tJ Gr:=by
 have nd:=Gn.nd
 refine F.ok Gn (λvs H Q E h=> ?_) (λlm A outer s H vs Q E hr h=> ?_)
 .obtain⟨l,ns,rfl,_⟩:=h
  rfl
 .obtain⟨l,ns,rfl,hl,h7,bn,k⟩:=h
  have cO:0<ns.length:=pP.mpr bn
  refine⟨_,(jp (pi (ul (Ev K rfl) (FM (VU K rfl) (by rfl) T.gX kT (am (pv 0) bi)) (wp CM (wp cj (FM (aW K rfl) (by rfl) T.aJ aZ (am (pv 0) bi)) nb) nb) (λ_ _=>rfl)))),?_⟩
  walk_at "rd"
  refine⟨l,ns,rfl,aa.of hl,by lia,λms p pD cy hp=> ?_⟩
  have sp:=cr (o:=.lst (ms.map V.int)) hp
  refine⟨_,.inl (aa.of (sp _ _ hl)),⟨by decide,by decide⟩,?_⟩
  have em:=XD pD cy
  have ji:=pD.length_eq
  refine Fa bv (at_of (j:=(ms.length-1) / 2) ?_ ?_) (k _ sp)
  .rw[dL];lia
  .have rc:(ms.length-1) / 2<ms.length:=by lia
   rw[em,wP,Sc,wS rc]
   rfl
def GQ:Sp:=λvs H Q _=>∃l ps,vs=[.ref l]/\PL H l ps/\ps.length<=7/\ps≠[]/\∀H' p,db H H'->H' p=some (.tup [.int (qi ps).x,.int (qi ps).y])->Q (.ref p) H'
theorem Q9{f:ac}{fd:on}(F:re K "middle_point" "middle_point" yQ f fd)(T:Txt mg Ad)(tF:Def P w K mg base "middle_number" 1 tJ Gr):
 o0 P w K mg base ae 2 f fd tW GQ:=by
 have nd:=GI.nd
 refine F.ok GI (λvs H Q E h=> ?_) (λlm A outer s H vs Q E hr h=> ?_)
 .obtain⟨l,ps,rfl,_⟩:=h
  rfl
 .obtain⟨l,ps,rfl,hl,h7,bn,k⟩:=h
  obtain⟨xs,lf,hlen⟩:=hl.lst
  refine⟨_,(jp (pi (WP (am (sK tF (hr.mono (by decide)) (am (ao rfl nd (P7 K rfl (pv 0)) (own:=[("x",1),("y",2)]) (Re rfl) (λ_ _ _ _ _=>(aF K rfl (n:=2) rfl (Da (xz 1 nd) (Da (xz 2 nd) aG)) rfl rfl)) (λ_ _ _ _ _=>T0) (λ_ _ _ _ _=>(pv 1))) bi)) (am (sK tF (hr.mono (by decide)) (am (ao rfl nd (P7 K rfl (pv 0)) (own:=[("x",1),("y",2)]) (Re rfl) (λ_ _ _ _ _=>(aF K rfl (n:=2) rfl (Da (xz 1 nd) (Da (xz 2 nd) aG)) rfl rfl)) (λ_ _ _ _ _=>T0) (λ_ _ _ _ _=>(pv 2))) bi)) bi))))),?_⟩
  walk_at "rd"
  refine⟨⟨_,aa.of lf⟩,eQ ps (λp=>.int p.x) hlen.symm (by rw[hlen];exact bh h7) (aa.of lf) (λi x p H' C hx hp s hC=> ?_) λD1 H1 hD1 s1 h1=> ?_⟩
  .obtain⟨a,rfl,ha⟩:=hl.at lf hx hp
   refine bB (s _ _ ha) ⟨rfl,?_⟩
   walk_at "rd"
   exact hC _ (db.refl _)
  refine⟨D1,_,rfl,IL.of (f:=λp:Pt=>p.x) h1,by rw[dL];exact h7,λe=>bn (iF.mp e),λH2 s2=> ?_⟩
  have s12:=s1.trans s2
  refine⟨⟨_,aa.of (s12 _ _ lf)⟩,eQ ps (λp=>.int p.y) hlen.symm (by rw[hlen];exact bh h7) (aa.of (s12 _ _ lf)) (λi x p H' C hx hp s hC=> ?_) λD2 H3 hD2 s3 h3=> ?_⟩
  .obtain⟨a,rfl,ha⟩:=hl.at lf hx hp
   refine bB (s _ _ (s12 _ _ ha)) ⟨rfl,?_⟩
   walk_at "rd"
   exact hC _ (db.refl _)
  refine⟨D2,_,rfl,IL.of (f:=λp:Pt=>p.y) h3,by rw[dL];exact h7,λe=>bn (iF.mp e),λH4 s4=>⟨by decide,λt ht=>k _ t (((s12.trans s3).trans s4).trans (cr ht)) bv⟩⟩
end
end Sq
end
section
namespace Sq
open PySem PySem.Spec PyProof.Rows L2
open Vbpcar (Pt)
theorem qL(f:Str)(v:V):∀fs:List (Str×V),(Gc f v fs).length<=fs.length+1
 |[]=>nn _
 |(g,x)::r=>by
  show(if g=f then(g,v)::r else(g,x)::Gc f v r).length<=_
  have:=qL f v r
  split
  .simp
  .simp only[Os];lia
structure fO (K:ge) (C:ac):Prop where
 cl:il K C
 nW:dW K C "width"
 nN:dW K C "nodes"
def eD(C:ac)(H:Hp)(g:ac)(xs ys:List Int):Prop:=∃dx fs l,H g=some (.ins C dx fs)/\fs.lookup ("width":Str)=some (.int (xs.length:Nat))/\fs.lookup ("nodes":Str)=some (.ref l)/\PL H l (gt xs ys)
theorem eD.same{C g:ac}{H H':Hp}{xs ys:List Int}(s:db H H')(h:eD C H g xs ys):eD C H' g xs ys:=by
 obtain⟨dx,fs,l,h1,h2,h3,h4⟩:=h
 exact⟨dx,fs,l,s _ _ h1,h2,h3,TL.same s h4⟩
theorem Xn(xs:List Int)(ys:List Int)(y:Int):gt xs (ys++[y])=gt xs ys++xs.map λx=>(⟨x,y⟩:Pt):=by
 unfold gt;rw[yD];simp
theorem EK{ps:List Pt}(h:ps.length<=7):(wn ps).length<=7:=Ch (vk _) (by rw[dL];exact h)
theorem EL{ps:List Pt}(h:ps.length<=7):(Db ps).length<=7:=Ch (vk _) (by rw[dL];exact h)
theorem Nl{H:Hp}{l:ac}{ns:List Int}{i:Nat}{x:V}(h:(ns.map V.int)[i]? =some x):∃n,ns[i]? =some n/\x=.int n:=by
 rw[wP]at h
 cases e:ns[i]? with
 |none=>rw[e]at h;cases h
 |some n=>rw[e]at h;cases h;exact⟨n,rfl,rfl⟩
theorem TL.ext{H:Hp}{q d:ac}{Ix PY:List (List Int)}{us vs:List V}(h:TL H q Ix)(k:TL H d PY)(hu:H q=some (.lst us))(hv:H d=some (.lst vs)):TL (upd H q (.lst (us++vs))) q (Ix++PY):=by
 obtain⟨zs,h1,h2,h3⟩:=h
 obtain⟨ws,k1,k2,k3⟩:=k
 rw[hu]at h1;cases h1
 rw[hv]at k1;cases k1
 have kt:Kt H (upd H q (.lst (zs.map (λz=>V.ref z.1)++ws.map λz=>V.ref z.1))):=Kt.upd hu
 refine⟨zs++ws,by rw[bv,GM],by rw[GM,h2,k2],λz hz=> ?_⟩
 rcases NE.mp hz with hz|hz
 .exact kt _ _ (h3 z hz)
 .exact kt _ _ (k3 z hz)
section
variable{P:lw}{w:li}{K:ge}{mg:Str->Option al}{base:io}{Ad:aV}{C:ac}
def Iu(C:ac):Sp:=λvs H Q _=>∃n dx l ps,vs=[.ref n,.ref l]/\H n=some (.ins C dx [])/\PL H l ps/\ps.length<=7/\∀H',eD C H' n (wn ps) (Db ps)->Is n H H'->Q .ag H'
theorem TJ{f:ac}{fd:on}(F:re K "__init__" "Grid.__init__" AV f fd)(T:Txt mg Ad)(cg:fO K C):o0 P w K mg base ae 1 f fd qm (Iu C):=by
 have nd:=Ii.nd
 refine F.ok Ii (λvs H Q E h=> ?_) (λlm A outer s H vs Q E hr h=> ?_)
 .obtain⟨n,dx,l,ps,rfl,_⟩:=h
  rfl
 .obtain⟨n,dx,l,ps,rfl,hn,hl,h7,k⟩:=h
  obtain⟨us,wE,hlen⟩:=hl.lst
  refine⟨_,(ga (pS 2 nd (FM (AD rfl) (by rfl) T.gX kT (am (dJ (yI K rfl rfl) (by rfl) T.lF q_ (am (ao rfl nd (P7 K rfl (pv 1)) (own:=[("x",5),("y",4)]) (Re rfl) (λ_ _ _ _ _=>(aF K rfl (n:=2) rfl (Da (xz 5 nd) (Da (xz 4 nd) aG)) rfl rfl)) (λ_ _ _ _ _=>T0) (λ_ _ _ _ _=>(pv 5))) bi)) bi)))
   (ga (pS 3 nd (FM (AD rfl) (by rfl) T.gX kT (am (dJ (yI K rfl rfl) (by rfl) T.lF q_ (am (ao rfl nd (P7 K rfl (pv 1)) (own:=[("x",5),("y",4)]) (Re rfl) (λ_ _ _ _ _=>(aF K rfl (n:=2) rfl (Da (xz 5 nd) (Da (xz 4 nd) aG)) rfl rfl)) (λ_ _ _ _ _=>T0) (λ_ _ _ _ _=>(pv 4))) bi)) bi)))
   (ga (cS K rfl (pv 0) (FM (aW K rfl) (by rfl) T.aJ aZ (am (pv 2) bi)) rfl)
   (ga (cS K rfl (pv 0) (xL bi) rfl)
   (jp (ck br rfl (P7 K rfl (pv 3)) (aP 4 nd) (jp (du (cJ cB mB mC kU (Do K rfl (pv 0) rfl) (am (ao rfl nd (P7 K rfl (pv 2)) (own:=[("x",5)]) (Re rfl) (λ_ _ _ _ _=>(xz 5 nd)) (λ_ _ _ _ _=>T0) (λ_ _ _ _ _=>(WP (am (pv 5) (am (pv 4) bi))))) bi)))))))))),?_⟩
  walk_at "rd"
  refine⟨⟨_,aa.of wE⟩,eQ ps (λp=>.int p.x) hlen.symm (by rw[hlen];exact bh h7) (aa.of wE) (λi x p H' C hx hp s hC=> ?_) λD1 H1 hD1 s1 h1=> ?_⟩
  .obtain⟨a,rfl,ha⟩:=hl.at wE hx hp
   refine bB (s _ _ ha) ⟨rfl,?_⟩
   walk_at "rd"
   exact hC _ (db.refl _)
  refine⟨D1,ps.map λp:Pt=>p.x,rfl,aa.of (IL.of (f:=λp:Pt=>p.x) h1),by rw[dL];lia,λp1 hp1=>⟨p1,_,rfl,bv,λmx q1 cy bo hq1=> ?_⟩⟩
  obtain rfl:wn ps=mx:=Ck cy bo
  have s2:=(s1.trans (cr hp1)).trans (cr (o:=.lst ((wn ps).map V.int)) hq1)
  walk_at "rd"
  refine⟨⟨_,aa.of (s2 _ _ wE)⟩,eQ ps (λp=>.int p.y) hlen.symm (by rw[hlen];exact bh h7) (aa.of (s2 _ _ wE)) (λi x p H' C hx hp s hC=> ?_) λD2 H2 hD2 s3 h2=> ?_⟩
  .obtain⟨a,rfl,ha⟩:=hl.at wE hx hp
   refine bB (s _ _ (s2 _ _ ha)) ⟨rfl,?_⟩
   walk_at "rd"
   exact hC _ (db.refl _)
  refine⟨D2,ps.map λp:Pt=>p.y,rfl,aa.of (IL.of (f:=λp:Pt=>p.y) h2),by rw[dL];lia,λp2 hp2=>⟨p2,_,rfl,bv,λmy q2 hpw2 hmem2 hq2=> ?_⟩⟩
  obtain rfl:Db ps=my:=Ck hpw2 hmem2
  have s4:=((s2.trans s3).trans (cr hp2)).trans (cr (o:=.lst ((Db ps).map V.int)) hq2)
  have s24:=(s3.trans (cr hp2)).trans (cr (o:=.lst ((Db ps).map V.int)) hq2)
  have hX:=s24 _ _ (bv (a:=q1) (o:=.lst ((wn ps).map V.int)))
  have hx7:=EK h7
  have hy7:=EL h7
  generalize hH4:upd _ q2 _=H4 at s4 s24 hX⊢
  have hY:H4 q2=some (.lst ((Db ps).map V.int)):=by rw[<-hH4];exact bv
  walk_at "rd"
  refine⟨_,.inl (aa.of hX),C,dx,[],s4 _ _ hn,cg.cl,cg.nW,by decide,by decide,λt ht=> ?_⟩
  have hn5:upd H4 n (.ins C dx (Gc "width" (.int (((wn ps).map V.int).length:Nat)) [])) n=some (.ins C dx (Gc "width" (.int (((wn ps).map V.int).length:Nat)) [])):=bv
  have hn6:=cr (o:=.lst []) ht _ _ hn5
  refine⟨C,dx,_,hn6,cg.cl,cg.nN,(by show 1<1000;decide),?_⟩
  rw[dL]at hn5 hn6 ht⊢
  generalize dC:Gc "nodes" (.ref t) (Gc "width" (.int ((wn ps).length:Nat)) [])=fs
  have lW:fs.lookup ("width":Str)=some (.int ((wn ps).length:Nat)):=by
   rw[<-dC,aS,if_neg (by decide),aS,if_pos rfl]
  have lN:fs.lookup ("nodes":Str)=some (.ref t):=by
   rw[<-dC,aS,if_pos rfl]
  have hH4t:H4 t=none:=by
   cases e:H4 t with
   |none=>rfl
   |some o=>
    by_cases Pw:t=n
    .rw[Pw,hn5]at ht;cases ht
    .rw[gl Pw,e]at ht;cases ht
  have PK:t≠n:=λe=>by rw[e,s4 _ _ hn]at hH4t;cases hH4t
  have old:∀{b o},H4 b=some o->b≠n->upd (upd (upd H4 n (.ins C dx (Gc "width" (.int ((wn ps).length:Nat)) []))) t (.lst [])) n (.ins C dx fs) b=some o:=λ{b o}e bn=>by
   rw[gl bn,gl (wT e hH4t),gl bn];exact e
  have hYn:q2≠n:=P8 hY (s4 _ _ hn) (by intro z;cases z)
  have hXn:q1≠n:=P8 hX (s4 _ _ hn) (by intro z;cases z)
  refine⟨⟨_,aa.of (old hY hYn)⟩,gU (xs:=(Db ps).map V.int) (λi σ H'=>∃v4 v5,σ=[some (.ref n),some (.ref l),some (.ref q1),some (.ref q2),v4,v5]/\Is n H4 H'/\H' n=some (.ins C dx fs)/\PL H' t (gt (wn ps) ((Db ps).take i)))
   ⟨_,_,rfl,λb o hb bn=>old hb bn,bv,TL.nil (by rw[gl PK];exact bv)⟩ (λi σ H' _⟨_,_,_,o,_,_⟩=>aa.of (o _ _ hY hYn)) ?_ ?_⟩
  .rintro i x σ H' hi ⟨v4,v5,rfl,hO,hn',hP⟩
   obtain⟨y,hy,rfl⟩:=Nl (H:=H) (l:=l) hi
   have a_:i<(Db ps).length:=(P4.mp hy).1
   obtain⟨ts,c9,jk⟩:=PL.lst hP
   have hX':=hO _ _ hX hXn
   walk_at "rd"
   refine⟨C,dx,fs,hn',cg.cl,cg.nN,_,lN,.inl ⟨rfl,_,aa.of c9⟩,⟨_,aa.of hX'⟩,iV (wn ps) (λx=>[x,y]) (by simp) (by simp;exact bh hx7) (aa.of hX') (λj x d H2 C2 hx hd s5 hC=> ?_) λD H2 hD s5 h5=> ?_⟩
   .rw[wP,hd]at hx
    cases hx
    walk_at "rd"
    exact⟨by decide,λu hu=>hC u _ (cr hu) bv⟩
   obtain⟨ds,px,d6⟩:=TL.lst h5
   have OG:=s5 _ _ c9
   refine ot OG px ?_ ?_
   .rw[jk,d6,dL,cF,dG]
    have:min i (Db ps).length*(wn ps).length<=7*7:=eh (by lia) hx7
    exact TW (a8 (by lia))
   .refine⟨_,_,⟨rfl,rfl⟩,λb o hb bn=> ?_,?_,?_⟩
    .have e1:=s5 _ _ (hO _ _ hb bn)
     rw[gl (wT hb hH4t)]
     exact e1
    .rw[gl PK.symm]
     exact s5 _ _ hn'
    .rw[take_snoc hy,Xn]
     unfold PL
     rw[JT]
     have e6:KB ((wn ps).map λx=>(⟨x,y⟩:Pt))=(wn ps).map λx=>[x,y]:=by unfold KB;rw[P6];rfl
     rw[e6]
     exact TL.ext (TL.same s5 hP) h5 OG px
  .rintro σ H' ⟨v4,v5,rfl,hO,hn',hP⟩
   rw[dL,iK]at hP
   exact k H' ⟨dx,fs,t,hn',lW,lN,hP⟩ λb o hb bn=>hO _ _ (s4 _ _ hb) bn
end
end Sq
end
section
namespace Sq
open PySem PySem.Spec PyProof.Rows L2
open Vbpcar (Pt)
theorem vG{a m k d:Nat}(h:(bP a m)[k]? =some d):d=a+k/\k<m:=by
 have h1:=(P4.mp h).1
 rw[ju]at h1
 rw[List.getElem?_range' h1]at h
 have:=TD h
 exact⟨by omega,h1⟩
theorem qM{m k d:Nat}(h:(sw m)[k]? =some d):d=k/\k<m:=by
 have h1:=(P4.mp h).1
 rw[aI]at h1
 rw[ku h1]at h
 exact⟨(TD h).symm,h1⟩
theorem oz{lo:Int}{n k:Nat}{x:V}(h:((sw n).map λ(i:Nat)=>V.int (lo+(i:Int)))[k]? =some x):x=.int (lo+(k:Int)):=by
 rw[wP]at h
 cases e:(sw n)[k]? with
 |none=>rw[e]at h;cases h
 |some d=>
  rw[e]at h
  obtain⟨rfl,_⟩:=qM e
  cases h;rfl
noncomputable def GE(a b:Nat):List Int:=[(a:Int),(b:Int)]
noncomputable def fK(xs ys:List Int):List (List Int):=(gB xs ys).map λi=>GE (i-1) i
noncomputable def lU(xs ys:List Int):List (List Int):=(gE xs ys).map λi=>GE (i-xs.length) i
theorem MB{xs ys:List Int}(hx:xs.length<=7)(hy:ys.length<=7):(gB xs ys).length<=49:=by
 have h1:=iC (λi=>decide (i % xs.length≠0)) (bP 1 (ys.length*xs.length-1))
 rw[ju]at h1
 have h2:ys.length*xs.length<=7*7:=eh hy hx
 unfold gB
 omega
theorem M4{xs ys:List Int}(hx:xs.length<=7)(hy:ys.length<=7):(gE xs ys).length<=49:=by
 unfold gE
 rw[ju]
 have h2:ys.length*xs.length<=7*7:=eh hy hx
 omega
section
variable{P:lw}{w:li}{K:ge}{mg:Str->Option al}{base:io}{Ad:aV}{C:ac}
def Hc(C:ac):Sp:=λvs H Q _=>∃g xs ys,vs=[.ref g]/\eD C H g xs ys/\xs.length<=7/\ys.length<=7/\∀H' p,db H H'->H p=none->TL H' p (fK xs ys)->Q (.ref p) H'
theorem RK{f:ac}{fd:on}(F:re K "level_lines" "level_lines" zi f fd)(T:Txt mg Ad)(cg:fO K C):o0 P w K mg base ae 1 f fd uf (Hc C):=by
 have nd:=G7.nd
 refine F.ok G7 (λvs H Q E h=> ?_) (λlm A outer s H vs Q E hr h=> ?_)
 .obtain⟨g,xs,ys,rfl,_⟩:=h
  rfl
 .obtain⟨g,xs,ys,rfl,hG,hx7,hy7,k⟩:=h
  obtain⟨dx,fs,l,hg,lW,lN,hP⟩:=hG
  obtain⟨us,wE,Wp⟩:=hP.lst
  rw[cF]at Wp
  have h49:ys.length*xs.length<=7*7:=eh hy7 hx7
  refine⟨_,(jp (pi (ao rfl nd (kX rfl T.cH (am nb (am (FM (aW K rfl) (by rfl) T.aJ aZ (am (Do K rfl (pv 0) rfl) bi)) bi))) (own:=[("i",1)]) (Re rfl) (λ_ _ _ _ _=>(xz 1 nd)) (λ_ _ _ _ _=>(qV (bw oO (wp rl (pv 1) (Do K rfl (pv 0) rfl)) nb (bx _)))) (λ_ _ _ _ _=>(WP (am (wp cj (pv 1) nb) (am (pv 1) bi))))))),?_⟩
  walk_at "rd"
  refine⟨C,dx,fs,hg,cg.cl,cg.nN,_,lN,l,rfl,us,.inl (aa.of wE),?_⟩
  walk_at "rd"
  refine⟨1,_,⟨rfl,rfl⟩,⟨by lia,by lia,by lia,by lia⟩,Xz (bP 1 (ys.length*xs.length-1)) (λi=>decide (i % xs.length≠0)) (λi=>GE (i-1) i) ?_ ?_ k_ (λi x d H2 C2 N2 hx hd s2 hC hN=> ?_) λD H2 hD s2 h2=> ?_⟩
  .rw[ju,dL,aI];lia
  .rw[dL,aI];exact a8 (by lia)
  .obtain⟨rfl,hi⟩:=vG hd
   cases oz hx
   walk_at "rd"
   have hw:0<xs.length:=by
    rcases jw xs.length with e|e
    .rw[e]at hi;simp at hi
    .exact e
   refine⟨C,dx,fs,s2 _ _ hg,cg.cl,cg.nW,_,lW,_,rfl,by lia,rfl,?_⟩
   have em:((1:Int)+(i:Int)) % (xs.length:Int)=(((1+i) % xs.length:Nat):Int):=by
    rw[show(1:Int)+(i:Int)=((1+i:Nat):Int) by lia,<-Ag]
   refine⟨_,rfl,cW (λh=> ?_) (λh=> ?_)⟩
   .have hk:(1+i) % xs.length≠0:=λe=>by rw[em,e]at h;exact absurd h (by decide)
    refine⟨by decide,λu hu=>hC (decide_eq_true hk) u _ (cr hu) ?_⟩
    rw[bv]
    show some (HO.tup [V.int (1+(i:Int)-1),V.int (1+(i:Int))])=some (HO.tup [V.int ((1+i-1:Nat):Int),V.int ((1+i:Nat):Int)])
    rw[show(1:Int)+(i:Int)-1=((1+i-1:Nat):Int) by lia,show(1:Int)+(i:Int)=((1+i:Nat):Int) by lia]
   .refine hN (decide_eq_false λhk=>h ?_) _ (db.refl _)
    rw[em]
    have:¬(V.int (((1+i) % xs.length:Nat):Int)=V.int 0):=λq=>hk (by have:=V.int.inj q;lia)
    rw[decide_eq_false this];rfl
  .exact k H2 D s2 hD h2
def Gs(C:ac):Sp:=λvs H Q _=>∃g xs ys,vs=[.ref g]/\eD C H g xs ys/\xs.length<=7/\ys.length<=7/\∀H' p,db H H'->H p=none->TL H' p (lU xs ys)->Q (.ref p) H'
theorem QN{f:ac}{fd:on}(F:re K "upright_lines" "upright_lines" yp f fd)(T:Txt mg Ad)(cg:fO K C):o0 P w K mg base ae 1 f fd tK (Gs C):=by
 have nd:=Gp.nd
 refine F.ok Gp (λvs H Q E h=> ?_) (λlm A outer s H vs Q E hr h=> ?_)
 .obtain⟨g,xs,ys,rfl,_⟩:=h
  rfl
 .obtain⟨g,xs,ys,rfl,hG,hx7,hy7,k⟩:=h
  obtain⟨dx,fs,l,hg,lW,lN,hP⟩:=hG
  obtain⟨us,wE,Wp⟩:=hP.lst
  rw[cF]at Wp
  have h49:ys.length*xs.length<=7*7:=eh hy7 hx7
  refine⟨_,(jp (pi (ao rfl nd (kX rfl T.cH (am (Do K rfl (pv 0) rfl) (am (FM (aW K rfl) (by rfl) T.aJ aZ (am (Do K rfl (pv 0) rfl) bi)) bi))) (own:=[("i",1)]) (Re rfl) (λ_ _ _ _ _=>(xz 1 nd)) (λ_ _ _ _ _=>T0) (λ_ _ _ _ _=>(WP (am (wp cj (pv 1) (Do K rfl (pv 0) rfl)) (am (pv 1) bi))))))),?_⟩
  walk_at "rd"
  refine⟨C,dx,fs,hg,cg.cl,cg.nW,_,lW,C,dx,fs,hg,cg.cl,cg.nN,_,lN,l,rfl,us,.inl (aa.of wE),?_⟩
  walk_at "rd"
  refine⟨_,_,⟨rfl,rfl⟩,⟨by lia,by lia,by lia,by lia⟩,k6 (bP xs.length (ys.length*xs.length-xs.length)) (λi=>GE (i-xs.length) i) ?_ ?_ k_ (λi x d H2 C2 hx hd s2 hC=> ?_) λD H2 hD s2 h2=> ?_⟩
  .rw[ju,dL,aI];lia
  .rw[dL,aI];exact a8 (by lia)
  .obtain⟨rfl,hi⟩:=vG hd
   cases oz hx
   walk_at "rd"
   refine⟨C,dx,fs,s2 _ _ hg,cg.cl,cg.nW,_,lW,_,rfl,by decide,λu hu=>hC u _ (cr hu) ?_⟩
   rw[bv]
   show some (HO.tup [V.int ((xs.length:Int)+(i:Int)-(xs.length:Int)),V.int ((xs.length:Int)+(i:Int))])=some (HO.tup [V.int ((xs.length+i-xs.length:Nat):Int),V.int ((xs.length+i:Nat):Int)])
   rw[show(xs.length:Int)+(i:Int)-(xs.length:Int)=((xs.length+i-xs.length:Nat):Int) by lia,show(xs.length:Int)+(i:Int)=((xs.length+i:Nat):Int) by lia]
  .exact k H2 D s2 hD h2
noncomputable def pH(l:List Int):List Int:=match l with|[a,b]=>[b,a]|l=>l
noncomputable def wV(xs ys:List Int):List (List Int):=(fK xs ys++(fK xs ys).reverse.map pH)++(lU xs ys++(lU xs ys).reverse.map pH)
noncomputable def sQ(s:Nat×Nat×Nat):List Int:=[(s.1:Int),(s.2.1:Int),(s.2.2:Int)]
theorem HP(xs ys:List Int):wV xs ys=(cI xs ys).map λs=>GE s.1 s.2.1:=by
 unfold wV cI fK lU
 simp only[GM,P6,<-List.map_reverse]
 rfl
theorem Cn{xs ys:List Int}{s:Nat×Nat×Nat}(h:s∈cI xs ys):s.1<ys.length*xs.length/\s.2.1<ys.length*xs.length/\s.2.2=dN xs ys s.1 s.2.1:=by
 have mj:∀i∈gB xs ys,i<ys.length*xs.length:=λi hi=>by
  have:=(dh.mp hi).1
  rw[kx]at this
  omega
 have so:∀i∈gE xs ys,i<ys.length*xs.length:=λi hi=>by
  have:=kx.mp hi
  omega
 unfold cI at h
 rw[NE,NE,NE]at h
 rcases h with(h|h)|(h|h)
 .obtain⟨i,hi,rfl⟩:=nw.mp h
  have:=mj i hi
  exact⟨by show i-1<_;omega,this,rfl⟩
 .obtain⟨i,hi,rfl⟩:=nw.mp h
  have:=mj i (zD.mp hi)
  exact⟨this,by show i-1<_;omega,rfl⟩
 .obtain⟨i,hi,rfl⟩:=nw.mp h
  have:=so i hi
  exact⟨by show i-xs.length<_;omega,this,rfl⟩
 .obtain⟨i,hi,rfl⟩:=nw.mp h
  have:=so i (zD.mp hi)
  exact⟨this,by show i-xs.length<_;omega,rfl⟩
theorem BO{xs ys:List Int}(hx:xs.length<=7)(hy:ys.length<=7):(cI xs ys).length<=196:=by
 have h1:=MB hx hy
 have h2:=M4 hx hy
 unfold cI
 simp only[Rs,dL,HR]
 omega
def Hd(C:ac):Sp:=λvs H Q _=>∃g xs ys,vs=[.ref g]/\eD C H g xs ys/\xs.length<=7/\ys.length<=7/\∀H' p,db H H'->H p=none->TL H' p ((cI xs ys).map sQ)->Q (.ref p) H'
theorem RN{f:ac}{fd:on}(F:re K "sweep_steps" "sweep_steps" zl f fd)(T:Txt mg Ad)(cg:fO K C)(y4:Def P w K mg base "level_lines" 1 uf (Hc C))
 (ym:Def P w K mg base "upright_lines" 1 tK (Gs C))(bc:Def P w K mg base "distance" 1 gh iO):
 o0 P w K mg base ae 2 f fd ug (Hd C):=by
 have nd:=G_.nd
 refine F.ok G_ (λvs H Q E h=> ?_) (λlm A outer s H vs Q E hr h=> ?_)
 .obtain⟨g,xs,ys,rfl,_⟩:=h
  rfl
 .obtain⟨g,xs,ys,rfl,hG,hx7,hy7,k⟩:=h
  have FJ:=MB hx7 hy7
  have Wp:=M4 hx7 hy7
  refine⟨_,(ga (pS 1 nd (xL bi))
   (ga (ck br rfl (MM K rfl (WP (am (sK y4 (hr.mono (by decide)) (am (pv 0) bi)) (am (sK ym (hr.mono (by decide)) (am (pv 0) bi)) bi)))) (aP 2 nd) (ga (du (cJ cB mB mC kU (pv 1) (am (pv 2) bi)))
   (jp (du (cJ cB mB mC kU (pv 1) (am (ao rfl nd (TZ K rfl rfl T.Bn (am (pv 2) bi)) (own:=[("start",3),("end",4)]) (Re rfl) (λ_ _ _ _ _=>(aF K rfl (n:=2) rfl (Da (xz 3 nd) (Da (xz 4 nd) aG)) rfl rfl)) (λ_ _ _ _ _=>T0) (λ_ _ _ _ _=>(WP (am (pv 4) (am (pv 3) bi))))) bi))))))
   (jp (pi (ao rfl nd (P7 K rfl (pv 1)) (own:=[("here",5),("there",6)]) (Re rfl) (λ_ _ _ _ _=>(aF K rfl (n:=2) rfl (Da (xz 5 nd) (Da (xz 6 nd) aG)) rfl rfl)) (λ_ _ _ _ _=>T0) (λ_ _ _ _ _=>(WP (am (pv 5) (am (pv 6) (am (sK bc (hr.mono (by decide)) (am (ul (Ev K rfl) (Do K rfl (pv 0) rfl) (pv 5) (λ_ _=>rfl)) (am (ul (Ev K rfl) (Do K rfl (pv 0) rfl) (pv 6) (λ_ _=>rfl)) bi))) bi)))))))))),?_⟩
  walk_at "rd"
  refine⟨by decide,λt ht=> ?_⟩
  have s0:=cr (o:=.lst []) ht
  refine⟨g,xs,ys,rfl,hG.same s0,hx7,hy7,λH1 d1 s1 hd1 t1=>⟨g,xs,ys,rfl,(hG.same s0).same s1,hx7,hy7,λH2 d2 s2 hd2 t2=>⟨by decide,λtt sk=>⟨⟨_,P3.of bv⟩,?_⟩⟩⟩⟩
  have s3:=cr (o:=.tup [.ref d1,.ref d2]) sk
  have sA:=((s0.trans s1).trans s2).trans s3
  have u1:=TL.same (s2.trans s3) t1
  have u2:=TL.same s3 t2
  have hHt:H t=none:=ht
  have hd1t:d1≠t:=λe=>by rw[e,bv]at hd1;cases hd1
  have hd2t:d2≠t:=λe=>by rw[e,s1 _ _ bv]at hd2;cases hd2
  have adi:tt≠t:=λe=>by rw[e,s2 _ _ (s1 _ _ bv)]at sk;cases sk
  generalize hH3:upd H2 tt (.tup [.ref d1,.ref d2])=H3 at*
  have hT3:H3 tt=some (.tup [.ref d1,.ref d2]):=by rw[<-hH3];exact bv
  have ht3:H3 t=some (.lst []):=by
   have:=s3 _ _ (s2 _ _ (s1 _ _ (bv (H:=H) (a:=t) (o:=.lst []))))
   exact this
  have lvlA:∀z∈fK xs ys,∃a b,z=GE a b:=λz hz=>by
   obtain⟨i,_,rfl⟩:=nw.mp hz
   exact⟨_,_,rfl⟩
  have uprA:∀z∈lU xs ys,∃a b,z=GE a b:=λz hz=>by
   obtain⟨i,_,rfl⟩:=nw.mp hz
   exact⟨_,_,rfl⟩
  let S:Nat->List (List Int):=λi=>match i with|0=>[]|1=>fK xs ys++(fK xs ys).reverse.map pH|_=>wV xs ys
  have hS:∀i,(S i).length<=196:=λi=>by
   have e:(wV xs ys).length<=196:=by rw[HP,dL];exact BO hx7 hy7
   match i with
   |0=>exact SC _
   |1=>
    show(fK xs ys++(fK xs ys).reverse.map pH).length<=196
    unfold fK
    simp only[Rs,dL,HR];lia
   |i+2=>exact e
  refine Lp (xs:=[.ref d1,.ref d2]) (λi σ H'=>∃v2 v3 v4 v5 v6,σ=[some (.ref g),some (.ref t),v2,v3,v4,v5,v6]/\Is t H3 H'/\TL H' t (S i)) ⟨_,_,_,_,_,rfl,λb o h _=>h,TL.nil ht3⟩ (λi σ H' _⟨_,_,_,_,_,_,o,_⟩=>P3.of (o _ _ hT3 adi)) ?_ ?_
  .rintro i x σ H' hi ⟨v2,v3,v4,v5,v6,rfl,hO,hT⟩
   obtain⟨d,A,rfl,hA,ir,hAl,hAp,hSi⟩:∃d A,x=.ref d/\TL H3 d A/\d≠t/\A.length<=49/\(∀z∈A,∃a b,z=GE a b)/\S (i+1)=S i++(A++A.reverse.map pH):=by
    match i,hi with
    |0,hi=>cases hi;exact⟨d1,fK xs ys,rfl,u1,hd1t,by unfold fK;rw[dL];exact FJ,lvlA,(List.nil_append _).symm⟩
    |1,hi=>cases hi;exact⟨d2,lU xs ys,rfl,u2,hd2t,by unfold lU;rw[dL];exact Wp,uprA,rfl⟩
    |i+2,hi=>cases hi
   have hA':∀{H4},Is t H3 H4->TL H4 d A:=λ{H4}o=>by
    obtain⟨zs,z1,z2,z3⟩:=hA
    exact⟨zs,o _ _ z1 ir,z2,λz hz=>o _ _ (z3 z hz) (P8 (z3 z hz) ht3 (by intro q;cases q))⟩
   obtain⟨ts,c9,jk⟩:=TL.lst hT
   obtain⟨ds,px,d6⟩:=TL.lst (hA' hO)
   have hSl:=hS i
   walk_at "rd"
   refine⟨.inl ⟨rfl,_,aa.of c9⟩,ot c9 px (TW (cT (by lia))) ?_⟩
   have hO4:Is t H3 (upd H' t (.lst (ts++ds))):=λb o hb bn=>by rw[gl bn];exact hO _ _ hb bn
   have hT4:TL (upd H' t (.lst (ts++ds))) t (S i++A):=TL.ext hT (hA' hO) c9 px
   have hA4:=hA' hO4
   have hds4:upd H' t (.lst (ts++ds)) d=some (.lst ds):=by rw[gl ir];exact px
   generalize upd H' t (.lst (ts++ds))=H4 at*
   obtain⟨ts4,hts4,htl4⟩:=TL.lst hT4
   rw[Rs]at htl4
   walk_at "rd"
   refine⟨.inl ⟨rfl,_,aa.of hts4⟩,ds,aa.of hds4,k6 A.reverse pH (by simp[d6]) (by simp;exact a8 (by lia)) (aca (aa.of hds4)) (λj x z H5 C5 hx hz s5 hC=> ?_) λD H5 hD s5 h5=> ?_⟩
   .have gy:j<A.length:=by have:=(P4.mp hz).1;simpa using this
    rw[GY gy]at hz
    rw[GY (by lia),d6]at hx
    obtain⟨a,rfl,ha⟩:=TL.at hA4 hds4 hx hz
    obtain⟨p,q,rfl⟩:=hAp z (Tk hz)
    refine bB (s5 _ _ ha) ⟨rfl,?_⟩
    walk_at "rd"
    exact⟨by decide,λu hu=>hC u _ (cr hu) bv⟩
   obtain⟨es,Pg,me⟩:=TL.lst h5
   rw[dL,HR]at me
   have hts5:=s5 _ _ hts4
   refine ot hts5 Pg (TW (cT (by lia))) ⟨_,_,_,_,_,⟨rfl,rfl,rfl,rfl,rfl⟩,λb o hb bn=> ?_,?_⟩
   .rw[gl bn];exact s5 _ _ (hO4 _ _ hb bn)
   .rw[hSi,<-mM]
    exact TL.ext (TL.same s5 hT4) h5 hts5 Pg
  .rintro σ H' ⟨v2,v3,v4,v5,v6,rfl,hO,hT⟩
   have hT:TL H' t ((cI xs ys).map λs=>GE s.1 s.2.1):=by rw[<-HP];exact hT
   obtain⟨ts,c9,jk⟩:=TL.lst hT
   rw[dL]at jk
   have bL:=BO hx7 hy7
   have sH:db H H':=λb o hb=>hO _ _ (sA _ _ hb) (wT hb hHt)
   obtain⟨dx,fs,l,hg,lW,lN,hP⟩:=hG
   obtain⟨us,wE,E6⟩:=hP.lst
   rw[cF]at E6
   walk_at "rd"
   refine⟨⟨_,aa.of c9⟩,iV (cI xs ys) sQ jk.symm (cT (by lia)) (aa.of c9) (λi x z H2 C2 hx hz s2 hC=> ?_) λD H2 hD s2 h2=> ?_⟩
   .obtain⟨a,rfl,ha⟩:=TL.at hT c9 hx (ns:=GE z.1 z.2.1) (by rw[wP,hz];rfl)
    obtain⟨z1,z2,z3⟩:=Cn (Tk hz)
    refine bB (s2 _ _ ha) ⟨rfl,?_⟩
    walk_at "rd"
    have sH2:=sH.trans s2
    obtain⟨b1,e1,f1⟩:=hP.get wE (eA xs ys z1)
    obtain⟨b2,e2,f2⟩:=hP.get wE (eA xs ys z2)
    refine⟨C,dx,fs,sH2 _ _ hg,cg.cl,cg.nN,_,lN,Fa (sH2 _ _ wE) (at_of rfl e1) ?_⟩
    walk_at "rd"
    refine⟨C,dx,fs,sH2 _ _ hg,cg.cl,cg.nN,_,lN,Fa (sH2 _ _ wE) (at_of rfl e2) ⟨b1,b2,_,_,rfl,sH2 _ _ f1,sH2 _ _ f2,by decide,λu hu=>hC u _ (cr hu) ?_⟩⟩
    rw[bv]
    unfold sQ
    rw[z3]
    unfold dN
    rw[eu z1,eu z2]
    rfl
   .exact k H2 D (sH.trans s2) (sH.free hD) h2
end
end Sq
namespace Sq
open PySem PySem.Spec PyProof.Rows L2
open Vbpcar (Pt)
noncomputable def P1(w a b:Nat):Nat:=a-a % w+b % w
noncomputable def dX(w a b:Nat):List (Nat×Nat):=((bP (min a (P1 w a b)) (max a (P1 w a b)-min a (P1 w a b))).map λi=>(i,i+1))++
 (sw ((max (P1 w a b) b-min (P1 w a b) b) / w)).map λk=>(min (P1 w a b) b+k*w,min (P1 w a b) b+k*w+w)
theorem WB{lo w m:Nat}(hw:0<w)(hw7:w<=7)(hlo:lo<1000)(hm:m<1000):O6 (lo:Int) ((lo+m*w:Nat):Int) (w:Int) m:=by
 have hsz:pK (lo:Int) ((lo+m*w:Nat):Int) (w:Int)=(m:Int):=by
  unfold pK
  rw[if_pos (by omega)]
  rcases jw m with e|e
  .subst e
   rw[if_neg (by omega)];rfl
  .have h1:w<=m*w:=GV w e
   rw[if_pos (by omega)]
   have e2:(((lo+m*w:Nat):Int)-(lo:Int)-1)=((m*w-1:Nat):Int):=by omega
   rw[e2,<-Int.natCast_ediv]
   have e3:(m*w-1) / w=m-1:=by
    have:m*w-1=(m-1)*w+(w-1):=by
     have:(m-1)*w=m*w-w:=by rw[Cv,Nat.one_mul]
     omega
    rw[this,gP,As hw,p8 (by omega),ft]
   rw[e3];omega
 refine⟨by omega,by omega,?_,hsz⟩
 have h3:m*w<=1000*7:=eh (by omega) hw7
 unfold Rf
 rw[hsz]
 rw[if_pos (show(w:Int)>0 by omega)]
 simp only[Builtin.Range.rangeFitsLong,cQ,uo,decide_eq_true_eq,beq_iff_eq]
 omega
theorem gap{w x y m:Nat}(hw:0<w)(e:y=x+m*w):max x y=min x y+m*w/\(max x y-min x y) / w=m:=by
 have h:x<=y:=Nat.le.intro e.symm
 rw[Nat.max_eq_right h,kJ h,Nat.sub_eq_of_eq_add' e]
 exact⟨e,Yk _ hw⟩
theorem YA{w a b:Nat}(hw:0<w):∃m,max (P1 w a b) b=min (P1 w a b) b+m*w/\(max (P1 w a b) b-min (P1 w a b) b) / w=m:=by
 have ha:=Af a w
 have hb:=Af b w
 have hc:P1 w a b=a / w*w+b % w:=by unfold P1;omega
 rcases qE (a / w) (b / w)with h|h
 .have h2:=gF w h
  exact⟨b / w-a / w,gap hw (by rw[Cv];omega)⟩
 .have h2:=gF w h
  rw[Nat.max_comm,Nat.min_comm]
  exact⟨a / w-b / w,gap hw (by rw[Cv];omega)⟩
theorem acb{lo c:Int}{n k:Nat}{x:V}(h:((sw n).map λ(i:Nat)=>V.int (lo+(i:Int)*c))[k]? =some x):x=.int (lo+(k:Int)*c):=by
 rw[wP]at h
 cases e:(sw n)[k]? with
 |none=>rw[e]at h;cases h
 |some d=>
  rw[e]at h
  obtain⟨rfl,_⟩:=qM e
  cases h;rfl
theorem LD(a b:Nat):(if(b:Int)<(a:Int)then(b:Int)else(a:Int))=((min a b:Nat):Int):=by split<;>omega
theorem LB(a b:Nat):(if(b:Int)>(a:Int)then(b:Int)else(a:Int))=((max a b:Nat):Int):=by split<;>omega
section
variable{P:lw}{w:li}{K:ge}{mg:Str->Option al}{base:io}{Ad:aV}{C:ac}
def GP(C:ac):Sp:=λvs H Q _=>∃g xs ys a b,vs=[.ref g,.int (a:Nat),.int (b:Nat)]/\eD C H g xs ys/\xs.length<=7/\ys.length<=7/\a<ys.length*xs.length/\b<ys.length*xs.length/\
 ∀H' p,db H H'->H p=none->TL H' p ((dX xs.length a b).map λz=>GE z.1 z.2)->Q (.ref p) H'
theorem Q8{f:ac}{fd:on}(F:re K "lines_on_way" "lines_on_way" yP f fd)(T:Txt mg Ad)(cg:fO K C):o0 P w K mg base ae 1 f fd tV (GP C):=by
 have nd:=GH.nd
 refine F.ok GH (λvs H Q E h=> ?_) (λlm A outer s H vs Q E hr h=> ?_)
 .obtain⟨g,xs,ys,a,b,rfl,_⟩:=h
  rfl
 .obtain⟨g,xs,ys,a,b,rfl,hG,hx7,hy7,ha,hb,k⟩:=h
  obtain⟨dx,fs,l,hg,lW,lN,hP⟩:=hG
  have h49:ys.length*xs.length<=7*7:=eh hy7 hx7
  have hw:0<xs.length:=by
   rcases jw xs.length with e|e
   .rw[e]at ha;simp at ha
   .exact e
  have hma:=jI a hw
  have hmb:=jI b hw
  have adB:=Nat.mod_le a xs.length
  refine⟨_,(ga (pS 3 nd (wp bz (wp cj (pv 1) (wp rl (pv 1) (Do K rfl (pv 0) rfl))) (wp rl (pv 2) (Do K rfl (pv 0) rfl))))
   (ga (jK (i:=4) rfl nd rfl rfl (jN rfl rfl rfl rfl) (kX rfl T.cH (am (FM (B0 rfl) (by rfl) T.dY eR (am (pv 1) (am (pv 3) bi))) (am (FM (Kj rfl) (by rfl) T.lD qZ (am (pv 1) (am (pv 3) bi))) bi))) (own:=[("i",6)]) (Re rfl) (λ_ _ _ _ _=>(xz 6 nd)) (λ_ _ _ _ _=>T0) (λ_ _ _ _ _=>(WP (am (pv 6) (am (wp bz (pv 6) nb) bi)))))
   (ga (jK (i:=5) rfl nd rfl rfl (jN rfl rfl rfl rfl) (XW rfl T.cH (am (FM (B0 rfl) (by rfl) T.dY eR (am (pv 3) (am (pv 2) bi))) (am (FM (Kj rfl) (by rfl) T.lD qZ (am (pv 3) (am (pv 2) bi))) (am (Do K rfl (pv 0) rfl) bi)))) (own:=[("i",6)]) (Re rfl) (λ_ _ _ _ _=>(xz 6 nd)) (λ_ _ _ _ _=>T0) (λ_ _ _ _ _=>(WP (am (pv 6) (am (wp bz (pv 6) (Do K rfl (pv 0) rfl)) bi)))))
   (jp (pi (wp gj (pv 4) (pv 5))))))),?_⟩
  walk_at "rd"
  refine⟨C,dx,fs,hg,cg.cl,cg.nW,_,lW,_,rfl,by lia,C,dx,fs,hg,cg.cl,cg.nW,_,lW,_,rfl,by lia,?_⟩
  have ec:(a:Int)-(a:Int) % (xs.length:Int)+(b:Int) % (xs.length:Int)=((P1 xs.length a b:Nat):Int):=by
   rw[<-Ag,<-Ag];unfold P1;lia
  rw[ec]
  have bG:P1 xs.length a b<1000:=by unfold P1;lia
  refine⟨_,_,⟨rfl,rfl⟩,_,_,⟨rfl,rfl⟩,_,_,⟨LD _ _,LB _ _⟩,⟨by lia,by lia,by lia,by lia⟩,k6 (bP (min a (P1 xs.length a b)) (max a (P1 xs.length a b)-min a (P1 xs.length a b))) (λi=>GE i (i+1)) ?_ ?_ k_ (λi x d H2 C2 hx hd s2 hC=> ?_) λD1 H2 hD1 s2 h2=> ?_⟩
  .rw[ju,dL,aI];lia
  .rw[dL,aI];exact cT (by lia)
  .obtain⟨rfl,hi⟩:=vG hd
   cases oz hx
   walk_at "rd"
   refine⟨by decide,λu hu=>hC u _ (cr hu) ?_⟩
   rw[bv]
   show some (HO.tup [V.int (((min a (P1 xs.length a b):Nat):Int)+(i:Int)),V.int (((min a (P1 xs.length a b):Nat):Int)+(i:Int)+1)])=some (HO.tup [V.int ((min a (P1 xs.length a b)+i:Nat):Int),V.int ((min a (P1 xs.length a b)+i+1:Nat):Int)])
   rfl
  obtain⟨m,em,ed⟩:=YA (w:=xs.length) (a:=a) (b:=b) hw
  have hm:m<1000:=by
   have h1:m<=m*xs.length:=Ui m hw
   exact gH (Ch h1 (by rw[em];exact Nat.le_add_left _ _)) (Nat.max_lt.mpr ⟨bG,by lia⟩)
  refine⟨_,_,⟨rfl,rfl⟩,_,_,⟨rfl,rfl⟩,C,dx,fs,s2 _ _ hg,cg.cl,cg.nW,_,lW,_,_,_,⟨LD _ _,LB _ _,rfl⟩,m,(by rw[em];exact WB hw hx7 (gH (J6 _ _) bG) hm),k6 (sw m) (λj=>GE (min (P1 xs.length a b) b+j*xs.length) (min (P1 xs.length a b) b+j*xs.length+xs.length)) ?_ ?_ Yb (λi x d H3 C3 hx hd s3 hC=> ?_) λD2 H3 hD2 s3 h3=> ?_⟩
  .rw[dL]
  .rw[dL,aI];exact cT (by lia)
  .obtain⟨rfl,hi⟩:=qM hd
   cases acb hx
   walk_at "rd"
   refine⟨C,dx,fs,s3 _ _ (s2 _ _ hg),cg.cl,cg.nW,_,lW,_,rfl,by decide,λu hu=>hC u _ (cr hu) ?_⟩
   rw[bv]
   unfold GE
   rw[mY,mY,Int.natCast_mul]
   rfl
  obtain⟨u1,e1,f1⟩:=TL.lst (TL.same s3 h2)
  obtain⟨u2,e2,f2⟩:=TL.lst h3
  walk_at "rd"
  refine⟨D1,D2,u1,u2,rfl,rfl,e1,e2,?_,λp hp=>k _ p ((s2.trans s3).trans (cr hp)) ((s2.trans s3).free hp) ?_⟩
  .rw[f1,f2]
   simp only[dL,ju,aI]
   exact TW (cT (by lia))
  .have e:(dX xs.length a b).map (λz=>GE z.1 z.2)=((bP (min a (P1 xs.length a b)) (max a (P1 xs.length a b)-min a (P1 xs.length a b))).map λi=>GE i (i+1))++(sw m).map λj=>GE (min (P1 xs.length a b) b+j*xs.length) (min (P1 xs.length a b) b+j*xs.length+xs.length):=by
    unfold dX
    rw[ed,GM,P6,P6]
    rfl
   rw[e]
   exact TL.cat (TL.same s3 h2) h3 e1 e2 hp
end
end Sq
end
section
namespace Sq
open Vbpcar (Pt)
noncomputable def low(s:Nat):Nat:=s ^^^ (s &&& (s-1))
noncomputable def P0(s:Nat):List Nat:=(bP (low s) (s-low s)).filter λa=>decide (a &&& low s=low s)&&decide (a &&& s=a)
theorem Wt:∀s<64,0<s->P0 s=P9 s:=by decide+kernel
theorem aah:∀s<64,0<s->0<low s/\low s<=s:=by decide+kernel
theorem qC:∀i<6,P9 (2 ^ i)=[]/\Vbpcar.bitOf (2 ^ i)=i:=by decide+kernel
theorem BN:∀s<64,0<s->P9 s=[]->∃i<6,s=2 ^ i:=by decide+kernel
theorem J1:∀s<64,(P9 s).length<=64:=by decide+kernel
theorem XE(l:List Nat):cf (l.map λ(n:Nat)=>(n:Int))=((fw l:Nat):Int):=by
 cases l with
 |nil=>rfl
 |cons a l=>
  show(l.map λ(n:Nat)=>(n:Int)).foldl min (a:Int)=((l.foldl min a:Nat):Int)
  induction l generalizing a with
  |nil=>rfl
  |cons b l ih=>
   rw[FS,kH,kH,<-ih (min a b)]
   congr 1
   omega
section
variable(ns others:List Pt)
noncomputable def fN:Vbpcar.Table:=Vbpcar.tableOf ns.toArray others.toArray
noncomputable def jn(s v:Nat):Nat:=(fN ns others).get s v
noncomputable def mt(s u:Nat):Nat:=fw ((P9 s).map λa=>jn ns others a u+jn ns others (s-a) u)
theorem JQ{s u:Nat}(hu:u<ns.length):(kL (fN ns others) ns.length s).getD u 0=mt ns others s u:=by
 unfold kL
 rw[fT,WL,Array.getElem?_range,if_pos hu]
 rfl
theorem Nq{s v:Nat}(hs:s<2 ^ others.length):jn ns others s v=(iN ns.toArray others.toArray (fN ns others) s).getD v 0:=by
 unfold jn S0 fN
 rw[Ve]
 rw[Zy ns.toArray others.toArray (by rw[XV];exact hs)]
theorem map_getD{v:Nat}{p:Pt}{f:Pt->Nat}(hv:ns[v]? =some p):(ns.toArray.map f).getD v 0=f p:=by
 rw[fT,WL,kn,hv]
 rfl
theorem Np{i v:Nat}{p q:Pt}(hm:others.length<=6)(hi:others[i]? =some q)(hv:ns[v]? =some p):jn ns others (2 ^ i) v=aj p q:=by
 have a_:i<others.length:=(P4.mp hi).1
 have hs:2 ^ i<2 ^ others.length:=yA (by decide) a_
 have cO:0<2 ^ i:=kR (by decide)
 rw[Nq ns others hs]
 unfold iN
 obtain⟨e1,e2⟩:=qC i (by omega)
 rw[if_neg (by omega),e1,if_pos (by rfl),e2]
 simp only
 rw[map_getD ns hv,fT,kn,hi]
 rfl
theorem Dr{s v:Nat}{p:Pt}(hs:s<2 ^ others.length)(h0:0<s)(bn:P9 s≠[])(hv:ns[v]? =some p):
 jn ns others s v=fw ((sw ns.length).map λu=>aj p (ns.getD u ⟨0,0⟩)+mt ns others s u):=by
 rw[Nq ns others hs]
 unfold iN
 rw[if_neg (by omega),if_neg (by rw[mS];exact bn)]
 simp only
 rw[map_getD ns hv,XV]
 congr 1
 refine fY λu hu=> ?_
 have hu:=Pi.mp hu
 rw[JQ ns others hu,fT,kn,wS hu,Sc,wS hu]
 rfl
end
theorem Xt{xs ys:List Int}{others:List Pt}(hx:xs.Pairwise (·<·))(hy:ys.Pairwise (·<·)){s v:Nat}(hs:s<2 ^ others.length)(h0:0<s)(bn:P9 s≠[])(hv:v<ys.length*xs.length):
 jn (gt xs ys) others s v=(dR ((sw (ys.length*xs.length)).map (mt (gt xs ys) others s)) (cI xs ys)).getD v 0:=by
 rw[T7 hx hy (by simp) hv,Dr (gt xs ys) others hs h0 bn (eA xs ys hv),cF]
 congr 1
 refine fY λu hu=> ?_
 have hu:=Pi.mp hu
 have e:((sw (ys.length*xs.length)).map (mt (gt xs ys) others s)).getD u 0=mt (gt xs ys) others s u:=by
  rw[Sc,wP,ku hu];rfl
 rw[e]
 unfold dN
 rw[eu hv]
end Sq
end
section
namespace Sq
open PySem PySem.Spec PyProof.Rows L2
open Vbpcar (Pt)
theorem VP:∀s:Nat,s<64->0<s->Ap (s:Int) (-(s:Int))=((low s:Nat):Int):=by decide+kernel
theorem nM{f:Nat->Int}{n i:Nat}(h:i<n):(((sw n).map f).map V.int)[i]? =some (.int (f i)):=by
 rw[wP,wP,ku h];rfl
def JD(H:Hp)(j:ac)(ok:Nat->Prop)(n:Nat)(f:Nat->Nat->Nat):Prop:=∃kvs,H j=some (.dK kvs)/\kvs.length<=100/\∀s,ok s->∃b,On kvs (EQ (s:Int))=some (.ref b)/\IL H b ((sw n).map λv=>(f s v:Int))
theorem JD.same{H H':Hp}{j:ac}{ok:Nat->Prop}{n:Nat}{f:Nat->Nat->Nat}(s:db H H')(h:JD H j ok n f):JD H' j ok n f:=by
 obtain⟨kvs,h1,h2,h3⟩:=h
 exact⟨kvs,s _ _ h1,h2,λx hx=>let⟨b,e1,e2⟩:=h3 x hx;⟨b,e1,IL.same s e2⟩⟩
theorem JD.get{H:Hp}{j:ac}{ok:Nat->Prop}{n:Nat}{f:Nat->Nat->Nat}(h:JD H j ok n f){s:Nat}(hs:ok s):∃b,cV H j (.int (s:Int)) (some (.ref b))/\IL H b ((sw n).map λv=>(f s v:Int)):=by
 obtain⟨kvs,h1,h2,h3⟩:=h
 obtain⟨b,e1,e2⟩:=h3 s hs
 exact⟨b,e1▸cV.k (k:=EQ (s:Int)) h1,e2⟩
section
variable{P:lw}{w:li}{K:ge}{mg:Str->Option al}{base:io}{Ad:aV}{C:ac}
def A5:Sp:=λvs H Q _=>∃s:Nat,vs=[.int (s:Nat)]/\0<s/\s<64/\∀H' p,db H H'->IL H' p (Uf (P9 s))->Q (.ref p) H'
theorem U4{f:ac}{fd:on}(F:re K "parts_of" "parts_of" BI f fd)(T:Txt mg Ad):o0 P w K mg base ae 1 f fd qz A5:=by
 have nd:=Jg.nd
 refine F.ok Jg (λvs H Q E h=> ?_) (λlm A outer s H vs Q E hr h=> ?_)
 .obtain⟨s,rfl,_⟩:=h
  rfl
 .obtain⟨g,rfl,h0,h64,k⟩:=h
  obtain⟨l0,l1⟩:=aah g h64 h0
  refine⟨_,(ga (pS 1 nd (wp wQ (pv 0) (oP oy (pv 0))))
   (jp (pi (ao rfl nd (kX rfl T.cH (am (pv 1) (am (pv 0) bi))) (own:=[("part",2)]) (Re rfl) (λ_ _ _ _ _=>(xz 2 nd)) (λ_ _ _ _ _=>(qV (PW.pt (Ed (bw h_ (wp wQ (pv 2) (pv 1)) (pv 1) (bx _)) (DJ (bw h_ (wp wQ (pv 2) (pv 0)) (pv 2) (bx _))))))) (λ_ _ _ _ _=>(pv 2)))))),?_⟩
  walk_at "rd"
  rw[VP g h64 h0]
  refine⟨_,_,⟨rfl,rfl⟩,⟨by lia,by lia,by lia,by lia⟩,YT (bP (low g) (g-low g)) (λa=>decide (a &&& low g=low g)&&decide (a &&& g=a)) (λa=>.int (a:Int)) ?_ ?_ k_ (λi x d H2 C2 N2 hx hd s2 hC hN=> ?_) λD H2 hD s2 h2=> ?_⟩
  .rw[ju,dL,aI];lia
  .rw[dL,aI];exact a8 (by lia)
  .obtain⟨rfl,hi⟩:=vG hd
   cases oz hx
   walk_at "rd"
   have ei:((low g:Nat):Int)+(i:Int)=((low g+i:Nat):Int):=by lia
   rw[ei,Bb,Bb]
   refine⟨rfl,_,rfl,cW (λh=> ?_) (λh=> ?_)⟩
   .have h1:(low g+i) &&& low g=low g:=Ar (V.int.inj (of_decide_eq_true h))
    refine⟨rfl,_,rfl,cW (λh=> ?_) (λh=> ?_)⟩
    .have h2:(low g+i) &&& g=low g+i:=Ar (V.int.inj (of_decide_eq_true h))
     exact hC (by rw[decide_eq_true h1,decide_eq_true h2];rfl) _ (db.refl _)
    .have h2:¬(low g+i) &&& g=low g+i:=λe=>h (decide_eq_true (congrArg V.int (congrArg Int.ofNat e)))
     exact hN (by rw[decide_eq_false h2,J_]) _ (db.refl _)
   .have h1:¬(low g+i) &&& low g=low g:=λe=>h (decide_eq_true (congrArg V.int (congrArg Int.ofNat e)))
    exact hN (by rw[decide_eq_false h1,Ka]) _ (db.refl _)
  .refine k H2 D s2 ?_
   rw[<-Wt g h64 h0]
   unfold IL Uf P0
   rw[h2,P6]
   rfl
def GO:Sp:=λvs H Q _=>∃j p s u n as jn,vs=[.ref j,.int (s:Nat),.ref p,.int (u:Nat)]/\JD H j (λa=>0<a/\a<s) n jn/\IL H p (Uf as)/\as≠[]/\(∀a∈as,0<a/\a<s)/\as.length<=64/\u<n/\
 ∀H',db H H'->Q (.int (fw (as.map λa=>jn a u+jn (s-a) u):Nat)) H'
theorem Q7{f:ac}{fd:on}(F:re K "least_parted" "least_parted" yO f fd)(T:Txt mg Ad):o0 P w K mg base ae 1 f fd tU GO:=by
 have nd:=GG.nd
 refine F.ok GG (λvs H Q E h=> ?_) (λlm A outer s H vs Q E hr h=> ?_)
 .obtain⟨j,p,s,u,n,as,jn,rfl,_⟩:=h
  rfl
 .obtain⟨j,p,g,u,n,as,jn,rfl,hJ,hp,bn,has,hal,hu,k⟩:=h
  refine⟨_,(jp (pi (FM (wj K rfl rfl) (by rfl) T.dY eR (am (ao rfl nd (P7 K rfl (pv 2)) (own:=[("part",4)]) (Re rfl) (λ_ _ _ _ _=>(xz 4 nd)) (λ_ _ _ _ _=>T0) (λ_ _ _ _ _=>(wp bz (ul (Ev K rfl) (iY (bU hr) (pv 0) (pv 4) (λ_ _=>rfl)) (pv 3) (λ_ _=>rfl)) (ul (Ev K rfl) (iY (bU hr) (pv 0) (wp cj (pv 1) (pv 4)) (λ_ _=>rfl)) (pv 3) (λ_ _=>rfl))))) bi)))),?_⟩
  walk_at "rd"
  refine⟨⟨_,aa.of hp⟩,wy (xs:=(Uf as).map V.int) as (λa=>.int ((jn a u+jn (g-a) u:Nat):Int)) (by simp[Uf]) (by simp[Uf];exact a8 (by lia)) (qX (aa.of hp)) (λi x a H2 C2 hx ha s2 hC=> ?_) λD H2 hD s2 h2=> ?_⟩
  .rw[vS ha]at hx
   cases hx
   obtain⟨a0,a1⟩:=has a (Tk ha)
   obtain⟨b1,g1,r1⟩:=(hJ.same s2).get ⟨a0,a1⟩
   obtain⟨b2,g2,r2⟩:=(hJ.same s2).get (s:=g-a) ⟨by lia,by lia⟩
   walk_at "rd"
   refine⟨_,g1,Fa r1 (at_of rfl (nM hu)) ?_⟩
   walk_at "rd"
   rw[vB (TW a1)]
   refine⟨_,g2,Fa r2 (at_of rfl (nM hu)) ?_⟩
   walk_at "rd"
   have e:((jn a u:Nat):Int)+((jn (g-a) u:Nat):Int)=((jn a u+jn (g-a) u:Nat):Int):=by lia
   rw[e]
   exact hC _ (db.refl _)
  .have hI:IL H2 D ((as.map λa=>jn a u+jn (g-a) u).map λ(n:Nat)=>(n:Int)):=by
    unfold IL
    rw[h2,P6,P6];rfl
   refine wB hI (by rw[dL,dL];exact pP.mpr bn) ?_
   rw[XE]
   exact k H2 s2
def KU:Sp:=λvs H Q _=>∃l st len steps,vs=[.ref l,.ref st]/\IL H l (Uf len)/\len.length<=49/\TL H st (steps.map sQ)/\steps.length<=1000/\(∀s∈steps,s.1<len.length/\s.2.1<len.length)/\
 ∀H' p,db H H'->H p=none->IL H' p (Uf (dR len steps))->Q (.ref p) H'
theorem XR{f:ac}{fd:on}(F:re K "spread" "spread" C0 f fd)(T:Txt mg Ad):o0 P w K mg base ae 1 f fd vV KU:=by
 have nd:=KN.nd
 refine F.ok KN (λvs H Q E h=> ?_) (λlm A outer s H vs Q E hr h=> ?_)
 .obtain⟨l,st,len,steps,rfl,_⟩:=h
  rfl
 .obtain⟨l,st,len,steps,rfl,hl,h49,ay,bL,rc,k⟩:=h
  obtain⟨ts,c9,jk⟩:=TL.lst ay
  rw[dL]at jk
  refine⟨_,(ga (pS 2 nd (dJ (tZ K rfl) (by rfl) T.fE gZ (am (pv 0) bi)))
   (ga (ck br rfl (P7 K rfl (pv 1)) (aF K rfl (n:=3) rfl (Da (aP 3 nd) (Da (aP 4 nd) (Da (aP 5 nd) aG))) rfl rfl) (jp (abL (FM (B0 rfl) (by rfl) T.dY eR (am (ul (Ev K rfl) (pv 2) (pv 4) (λ_ _=>rfl)) (am (wp bz (ul (Ev K rfl) (pv 2) (pv 3) (λ_ _=>rfl)) (pv 5)) bi))) (abI (pv 2) (pv 4) set_list))))
   (jp (pi (pv 2))))),?_⟩
  walk_at "rd"
  refine⟨_,.inl (aa.of hl),λt ht=>⟨⟨_,aa.of (cr ht _ _ c9)⟩,?_⟩⟩
  refine gU (xs:=ts) (λi σ H'=>∃v3 v4 v5,σ=[some (.ref l),some (.ref st),some (.ref t),v3,v4,v5]/\db H H'/\IL H' t (Uf (dR len (steps.take i))))
   ⟨_,_,_,rfl,cr ht,bv⟩ (λi σ H' _⟨_,_,_,_,s',_⟩=>aa.of (s' _ _ c9)) ?_ ?_
  .rintro i x σ H' hi ⟨v3,v4,v5,rfl,s',hIL⟩
   have a_:i<ts.length:=(P4.mp hi).1
   obtain⟨z,hz⟩:∃z,steps[i]? =some z:=⟨_,wS (by lia)⟩
   obtain⟨b,rfl,hb⟩:=TL.at ay c9 hi (ns:=sQ z) (by rw[wP,hz];rfl)
   obtain⟨z1,z2⟩:=rc z (Tk hz)
   generalize hr:dR len (steps.take i)=r at hIL
   have xH:r.length=len.length:=by rw[<-hr,vm]
   have at_:∀{m},m<len.length->((Uf r).map V.int)[m]? =some (.int ((r.getD m 0:Nat):Int)):=λ{m}hm=>by
    refine vS ?_
    rw[Sc,wS (by lia)];rfl
   refine oh (s' _ _ hb) ?_
   walk_at "rd"
   refine Fa hIL (at_of rfl (at_ z2)) (Fa hIL (at_of rfl (at_ z1)) ?_)
   walk_at "rd"
   have e1:(if((r.getD z.1 0:Nat):Int)+((z.2.2:Nat):Int)<((r.getD z.2.1 0:Nat):Int)then((r.getD z.1 0:Nat):Int)+((z.2.2:Nat):Int)else((r.getD z.2.1 0:Nat):Int))=((min (r.getD z.2.1 0) (r.getD z.1 0+z.2.2):Nat):Int):=by split<;>lia
   refine⟨_,_,⟨rfl,rfl⟩,t,_,_,z.2.1,rfl,rfl,hIL,?_,?_⟩
   .unfold iA
    simp[Uf,xH]
    lia
   .refine⟨_,_,_,⟨rfl,rfl,rfl⟩,iW s' ht,?_⟩
    show upd _ t _ t=_
    rw[bv,e1]
    have e2:dR len (steps.take (i+1))=dZ r z:=by
     rw[take_snoc hz]
     unfold dR at hr⊢
     rw[IA,hr];rfl
    rw[e2]
    unfold dZ Uf
    rw[List.map_set,List.map_set]
  .rintro σ H' ⟨v3,v4,v5,rfl,s',hIL⟩
   walk_at "rd"
   rw[jk,iK]at hIL
   exact k H' t s' ht hIL
end
end Sq
end
section
namespace Sq
open PySem PySem.Spec PyProof.Rows L2
open Vbpcar (Pt)
structure ik (K:ge) (C:ac):Prop where
 cl:il K C
 nG:dW K C "grid"
 nR:dW K C "root"
 nE:dW K C "ends"
 nW:dW K C "whole"
 nJ:dW K C "joined"
 nP:dW K C "parted"
theorem TL.jq{n l C dx:ac}{H H':Hp}{fs:List (Str×V)}{Ix:List (List Int)}(o:Is n H H')(hn:H n=some (.ins C dx fs))(h:TL H l Ix):TL H' l Ix:=by
 obtain⟨zs,z1,z2,z3⟩:=h
 exact⟨zs,o _ _ z1 (P8 z1 hn (by intro q;cases q)),z2,λz hz=>o _ _ (z3 z hz) (P8 (z3 z hz) hn (by intro q;cases q))⟩
theorem eD.jq{n g C D dx:ac}{H H':Hp}{fs:List (Str×V)}{xs ys:List Int}(o:Is n H H')(hn:H n=some (.ins D dx fs))(hg:g≠n)(h:eD C H g xs ys):eD C H' g xs ys:=by
 obtain⟨dx,fs,l,h1,h2,h3,h4⟩:=h
 exact⟨dx,fs,l,o _ _ h1 hg,h2,h3,TL.jq o hn h4⟩
noncomputable def Fk(xs ys:List Int)(q:Pt):Nat:=(gt xs ys).findIdx λu=>decide (u=q)
theorem YY{xs ys:List Int}{q:Pt}(hx:q.x∈xs)(hy:q.y∈ys):q∈gt xs ys:=mT.mpr ⟨q.y,hy,nw.mpr ⟨q.x,hx,rfl⟩⟩
theorem wO{xs ys:List Int}{q:Pt}(h:q∈gt xs ys):(gt xs ys)[Fk xs ys q]? =some q/\∀m<Fk xs ys q,(gt xs ys)[m]?≠some q:=by
 unfold Fk
 have hl:(gt xs ys).findIdx (λu=>decide (u=q))<(gt xs ys).length:=List.findIdx_lt_length_of_exists ⟨q,h,by simp⟩
 refine⟨?_,λm hm e=> ?_⟩
 .have:=List.findIdx_getElem (w:=hl)
  rw[wS hl]
  exact congrArg some (of_decide_eq_true this)
 .have h1:=List.not_of_lt_findIdx hm
  have ji:m<(gt xs ys).length:=by lia
  rw[wS ji]at e
  simp[TD e]at h1
theorem ls{xs ys:List Int}{q:Pt}(h:q∈gt xs ys):Fk xs ys q<ys.length*xs.length:=by
 have:=(P4.mp (wO h).1).1
 rwa [cF]at this
theorem Lu{K:ge}{H:Hp}{l b:ac}{xs ys:List Int}{q:Pt}{Q:VK}(hP:PL H l (gt xs ys))(hb:H b=some (.tup [.int q.x,.int q.y]))(hq:q∈gt xs ys)(k:Q (.int (Fk xs ys q:Nat)) H):DK K (.ref l) [.ref b] H Q:=by
 obtain⟨zs,z1,z2,z3⟩:=hP
 obtain⟨e1,e2⟩:=wO hq
 refine⟨b,l,[q.x,q.y],zs,Fk xs ys q,rfl,rfl,hb,aa.of z1,z3,?_,λm hm e=> ?_,k⟩
 .rw[z2];unfold KB;rw[wP,e1];rfl
 .rw[z2]at e
  unfold KB at e
  rw[wP]at e
  cases e3:(gt xs ys)[m]? with
  |none=>rw[e3]at e;cases e
  |some u=>
   rw[e3]at e
   have:=TD e
   simp only[jy,and_true]at this
   refine e2 m hm (e3.trans (congrArg some ?_))
   cases u;cases q;simp_all
noncomputable def bF(WF:List Nat):List (Key×V):=(sw WF.length).map λa=>(EQ ((2 ^ a:Nat):Int),V.int ((WF.getD a 0:Nat):Int))
theorem YH(WF:List Nat)(i:Nat):bF (WF++[i])=bF WF++[(EQ ((2 ^ WF.length:Nat):Int),V.int (i:Int))]:=by
 unfold bF
 rw[Rs,fW,kI,GM]
 congr 1
 .refine fY λa ha=> ?_
  rw[Sc,mz (Pi.mp ha),<-Sc]
 .simp
theorem CD{WF:List Nat}{s:Nat}(h:∀a<WF.length,s≠2 ^ a):On (bF WF) (EQ (s:Int))=none:=by
 cases e:On (bF WF) (EQ (s:Int))with
 |none=>rfl
 |some v=>
  have:=M5 e
  unfold bF at this
  rw[P6,nw]at this
  obtain⟨a,ha,e2⟩:=this
  have e3:(EQ ((2 ^ a:Nat):Int):Key)=EQ (s:Int):=e2
  have e4:=BX e3
  exact absurd (by lia) (h a (Pi.mp ha))
theorem L5{κ:Type}[DecidableEq κ]:∀{kvs:List (κ×V)}{k:κ}{v:V},(kvs.map (·.1)).Nodup->(k,v)∈kvs->On kvs k=some v
 |[],_,_,_,h=>nomatch h
 |p::r,k,v,hn,h=>by
  obtain⟨h1,h2⟩:=gJ.mp hn
  rcases wl.mp h with e|e
  .rw[<-e];exact fC rfl
  .rw[fB λq=>h1 (by show p.1∈_;rw[q];exact nw.mpr ⟨_,e,rfl⟩)]
   exact L5 h2 e
theorem wK{WF:List Nat}{a i:Nat}(h:WF[a]? =some i):On (bF WF) (EQ ((2 ^ a:Nat):Int))=some (.int (i:Int)):=by
 refine L5 ?_ ?_
 .unfold bF
  rw[P6,List.nodup_iff_pairwise_ne,ee]
  refine iB.imp λ{x y}hxy e=> ?_
  have e:(EQ ((2 ^ x:Nat):Int):Key)=EQ ((2 ^ y:Nat):Int):=e
  have e:=Ar (BX e)
  have:=yA (a:=2) (by decide) hxy
  lia
 .unfold bF
  refine nw.mpr ⟨a,Pi.mpr (P4.mp h).1,?_⟩
  rw[Sc,h];rfl
theorem Mr(WF:List Nat):(bF WF).length=WF.length:=by unfold bF;rw[dL,aI]
theorem LZ:∀n:Nat,((sw n).map λ(a:Nat)=>((2 ^ a:Nat):Int)).sum=((2 ^ n-1:Nat):Int)
 |0=>rfl
 |n+1=>by
  rw[kI,GM,List.sum_append,LZ n]
  show((2 ^ n-1:Nat):Int)+(((2 ^ n:Nat):Int)+0)=_
  have:0<2 ^ n:=kR (by decide)
  rw[Nat.pow_succ]
  generalize 2 ^ n=y at*
  lia
def hZ(CT CG:ac)(H:Hp)(t:ac)(xs ys:List Int)(root:Nat)(WF:List Nat)(g e j p:ac):Prop:=∃dx fs,H t=some (.ins CT dx fs)/\fs.lookup ("grid":Str)=some (.ref g)/\fs.lookup ("root":Str)=some (.int (root:Int))/\
 fs.lookup ("ends":Str)=some (.ref e)/\fs.lookup ("whole":Str)=some (.int ((2 ^ WF.length-1:Nat):Int))/\fs.lookup ("joined":Str)=some (.ref j)/\fs.lookup ("parted":Str)=some (.ref p)/\eD CG H g xs ys/\H e=some (.dK (bF WF))
theorem hZ.same{CT CG t g e j p:ac}{H H':Hp}{xs ys:List Int}{root:Nat}{WF:List Nat}(s:db H H')(h:hZ CT CG H t xs ys root WF g e j p):hZ CT CG H' t xs ys root WF g e j p:=by
 obtain⟨dx,fs,h1,h2,h3,h4,h5,h6,h7,h8,h9⟩:=h
 exact⟨dx,fs,s _ _ h1,h2,h3,h4,h5,h6,h7,h8.same s,s _ _ h9⟩
section
variable{P:lw}{w:li}{K:ge}{mg:Str->Option al}{base:io}{Ad:aV}{C:ac}
def HH(CT CG:ac):Sp:=λvs H Q _=>∃n dx l p0 others,vs=[.ref n,.ref l]/\H n=some (.ins CT dx [])/\PL H l (p0::others)/\others.length<=6/\
 ∀H' g e j p,hZ CT CG H' n (wn (p0::others)) (Db (p0::others)) (Fk (wn (p0::others)) (Db (p0::others)) p0) (others.map (Fk (wn (p0::others)) (Db (p0::others)))) g e j p->
  Is n H H'->H' j=some (.dK [])->H' p=some (.dK [])->H j=none->H p=none->j≠p->Q .ag H'
theorem oi{ps:List Pt}{q:Pt}(h:q∈ps):q∈gt (wn ps) (Db ps):=
 YY (dI.mpr (nw.mpr ⟨q,h,rfl⟩)) (dI.mpr (nw.mpr ⟨q,h,rfl⟩))
theorem So{f fI:ac}{fd fdI:on}(F:re K "__init__" "Table.__init__" zU f fd)(T:Txt mg Ad)(cg:fO K Ad.Grid)(ct:ik K C)(aaS:Mk K Ad.Grid fI)(Um:o0 P w K mg base ae 1 fI fdI qm (Iu Ad.Grid))(Uv:Binds K fdI qm []):
 o0 P w K mg base ae 3 f fd qc (HH C Ad.Grid):=by
 have nd:=Hr.nd
 refine F.ok Hr (λvs H Q E h=> ?_) (λlm A outer s H vs Q E hr h=> ?_)
 .obtain⟨n,dx,l,p0,others,rfl,_⟩:=h
  rfl
 .obtain⟨n,dx,l,p0,others,rfl,hn,hl,h6,k⟩:=h
  generalize UV:p0::others=ps at*
  have h7:ps.length<=7:=by rw[<-UV];simp;lia
  have hp0m:p0∈ps:=by rw[<-UV];simp
  have ade:∀q∈others,q∈ps:=λq hq=>by rw[<-UV];simp[hq]
  generalize hX:wn ps=xs at*
  generalize hY:Db ps=ys at*
  have sC:∀q∈ps,q∈gt xs ys:=λq hq=>by rw[<-hX,<-hY];exact oi hq
  obtain⟨us,wE,Wp⟩:=hl.lst
  have hat0:ps[0]? =some p0:=by rw[<-UV];rfl
  refine⟨_,(ga (cS K rfl (pv 0) (MJ aaS Um (hr.mono (by decide)) rfl T.Grid Uv .nil rF (am (pv 1) bi)) rfl)
   (ga (cS K rfl (pv 0) (cJ cB Gi RW (JR K rfl (g_ hr)) (Do K rfl (Do K rfl (pv 0) rfl) rfl) (am (ul (Ev K rfl) (pv 1) nb (λ_ _=>rfl)) bi)) rfl)
   (ga (cS K rfl (pv 0) CS rfl)
   (ga (ck br rfl (Ze K rfl rfl T.AN (am (nZ (n_ K rfl) (pv 1) (lj nb) qU) bi)) (aF K rfl (n:=2) rfl (Da (aP 2 nd) (Da (aP 3 nd) aG)) rfl rfl) (jp (om (bU hr) (Do K rfl (pv 0) rfl) (wp lu nb (pv 2)) (cJ cB Gi RW (JR K rfl (g_ hr)) (Do K rfl (Do K rfl (pv 0) rfl) rfl) (am (pv 3) bi)) rfl)))
   (ga (cS K rfl (pv 0) (FM (Dj K rfl rfl) (by rfl) T.rD D0 (am (dJ (Tg rfl) (by rfl) T.fE gZ (am (Do K rfl (pv 0) rfl) bi)) bi)) rfl)
   (ga (cS K rfl (pv 0) CS rfl)
   (jp (cS K rfl (pv 0) CS rfl)))))))),?_⟩
  refine aQ λR hR=> ?_
  walk_at "rd"
  intro g dg hg0 hdg0 j8
  refine⟨g,dg,l,ps,rfl,bv,TL.same ((cr hdg0).trans (cr (by rw[gl j8.symm];exact hg0))) hl,h7,λH1 hG1 hO1=>⟨rfl,?_⟩⟩
  rw[hX,hY]at hG1
  have s1:db H H1:=db.made hg0 hdg0 hO1
  have xE:g≠n:=(wT hn hg0).symm
  have hn1:=s1 _ _ hn
  walk_at "rd"
  refine⟨C,dx,[],hn1,ct.cl,ct.nG,by decide,?_⟩
  refine hR _ _ ?_
  clear hR
  have lG1:(Gc "grid" (.ref g) []).lookup ("grid":Str)=some (.ref g):=by rw[aS,if_pos rfl]
  generalize hf2:Gc "grid" (.ref g) []=f2 at*
  have c2:f2.length<=1:=by rw[<-hf2];exact nn _
  have hn2:upd H1 n (.ins C dx f2) n=some (.ins C dx f2):=bv
  have o2:Is n H1 (upd H1 n (.ins C dx f2)):=λb o hb bn=>by rw[gl bn];exact hb
  generalize upd H1 n (.ins C dx f2)=H2 at*
  have hus1:=s1 _ _ wE
  obtain⟨dg',fg,lg,hg1,lWg,lNg,hPg⟩:=id hG1
  have old:∀{H' b o},Is n H1 H'->H1 b=some o->b≠n->H' b=some o:=λo hb bn=>o _ _ hb bn
  have oM:∀{H'},Is n H1 H'->H' g=some (.ins Ad.Grid dg' fg)/\PL H' lg (gt xs ys):=λ{H'}o=>⟨o _ _ hg1 xE,TL.jq o hn1 hPg⟩
  obtain⟨a0,hx0,ha0⟩:=hl.get wE hat0
  have adx:∀{b vs},H b=some (.tup vs)->b≠n:=λe=>P8 e hn (by intro q;cases q)
  have OJ:∀{b vs},H b=some (.lst vs)->b≠n:=λe=>P8 e hn (by intro q;cases q)
  obtain⟨ns2,hns2,_⟩:=PL.lst (oM o2).2
  refine aQ λR hR=> ?_
  walk_at "rd"
  refine⟨C,dx,f2,hn2,ct.cl,ct.nG,_,lG1,g,rfl,Ad.Grid,dg',fg,(oM o2).1,cg.cl,cg.nN,_,lNg,.inl ⟨rfl,_,aa.of hns2⟩,Fa (o2 _ _ hus1 (OJ wE)) (at_of rfl hx0) ?_⟩
  refine Lu (oM o2).2 (o2 _ _ (s1 _ _ ha0) (adx ha0)) (sC p0 hp0m) ?_
  walk_at "rd"
  refine⟨C,dx,f2,hn2,ct.cl,ct.nR,by lia,?_⟩
  refine hR _ _ ?_
  clear hR
  have lG3:(Gc "root" (.int (Fk xs ys p0:Int)) f2).lookup ("grid":Str)=some (.ref g):=by rw[aS,if_neg (by decide)];exact lG1
  have lR3:(Gc "root" (.int (Fk xs ys p0:Int)) f2).lookup ("root":Str)=some (.int (Fk xs ys p0:Int)):=by rw[aS,if_pos rfl]
  have c3:(Gc "root" (.int (Fk xs ys p0:Int)) f2).length<=2:=Ch (qL ..) (by lia)
  generalize Gc "root" (.int (Fk xs ys p0:Int)) f2=f3 at*
  have hn3:upd H2 n (.ins C dx f3) n=some (.ins C dx f3):=bv
  have o3:Is n H1 (upd H2 n (.ins C dx f3)):=λb o hb bn=>by rw[gl bn];exact o2 _ _ hb bn
  generalize upd H2 n (.ins C dx f3)=H3 at*
  refine aQ λR hR=> ?_
  walk_at "rd"
  intro e he
  have fe:e≠n:=λq=>by rw[q,hn3]at he;cases he
  refine⟨C,dx,f3,(by rw[gl fe.symm];exact hn3),ct.cl,ct.nE,by lia,?_⟩
  refine hR _ _ ?_
  clear hR
  have lG4:(Gc "ends" (.ref e) f3).lookup ("grid":Str)=some (.ref g):=by rw[aS,if_neg (by decide)];exact lG3
  have lR4:(Gc "ends" (.ref e) f3).lookup ("root":Str)=some (.int (Fk xs ys p0:Int)):=by rw[aS,if_neg (by decide)];exact lR3
  have lE4:(Gc "ends" (.ref e) f3).lookup ("ends":Str)=some (.ref e):=by rw[aS,if_pos rfl]
  have c4:(Gc "ends" (.ref e) f3).length<=3:=Ch (qL ..) (by lia)
  generalize Gc "ends" (.ref e) f3=f4 at*
  have hH1e:H1 e=none:=by
   cases q:H1 e with
   |none=>rfl
   |some o=>rw[o3 _ _ q fe]at he;cases he
  have hn4:upd (upd H3 e (.dK [])) n (.ins C dx f4) n=some (.ins C dx f4):=bv
  have he4:upd (upd H3 e (.dK [])) n (.ins C dx f4) e=some (.dK []):=by rw[gl fe,bv]
  have o4:Is n H1 (upd (upd H3 e (.dK [])) n (.ins C dx f4)):=λb o hb bn=>by
   rw[gl bn,gl (wT hb hH1e)];exact o3 _ _ hb bn
  generalize upd (upd H3 e (.dK [])) n (.ins C dx f4)=H4 at*
  have hus4:=o4 _ _ hus1 (OJ wE)
  have hP4:PL H4 l ps:=TL.jq o4 hn1 (TL.same s1 hl)
  refine aQ λR hR=> ?_
  walk_at "rd"
  refine sN hus4 λq hq=> ?_
  have hO5:PL (upd H4 q (.lst (aU us (some 1) none))) q others:=by
   have:=PL.Eo (k:=1) hP4 hus4 hq (by rw[<-UV];simp)
   rw[<-UV]at this
   exact this
  have s5:=cr (o:=.lst (aU us (some 1) none)) hq
  have hl5:upd H4 q (.lst (aU us (some 1) none)) q=some (.lst (aU us (some 1) none)):=bv
  generalize upd H4 q (.lst (aU us (some 1) none))=H5 at*
  have Pz:=PL.len hO5 hl5
  have he5:=s5 _ _ he4
  have hn5:=s5 _ _ hn4
  have hqe:q≠e:=(wT he4 hq).symm
  have sg:q≠n:=(wT hn4 hq).symm
  refine⟨q,rfl,_,aa.of hl5,Xl (xs:=aU us (some 1) none) (λi σ H'=>∃v2 v3,σ=[some (.ref n),some (.ref l),v2,v3]/\Is e H5 H'/\H' e=some (.dK (bF ((others.take i).map (Fk xs ys)))))
   ⟨_,_,rfl,λb o h _=>h,he5⟩ (λi σ H' _⟨_,_,_,o,_⟩=>aa.of (o _ _ hl5 hqe)) ?_ ?_⟩
  .rintro i x σ H' tt hi ⟨v2,v3,rfl,hO,hE⟩ sk
   have a_:=(P4.mp hi).1
   obtain⟨p,hp⟩:∃p,others[i]? =some p:=⟨_,wS (by lia)⟩
   obtain⟨b,rfl,hb⟩:=hO5.at hl5 hi hp
   have sT:=cr (o:=.tup [.int (i:Nat),.ref b]) sk
   have oT:Is n H1 (upd H' tt (.tup [.int (i:Nat),.ref b])):=λc o hc bn=>sT _ _ (hO _ _ (s5 _ _ (o4 _ _ hc bn)) (wT hc hH1e))
   have hnT:=sT _ _ (hO _ _ hn5 fe.symm)
   have hET:=sT _ _ hE
   have hbT:=sT _ _ (hO _ _ hb (P8 hb he5 (by intro z;cases z)))
   have hO':Is e H5 (upd H' tt (.tup [.int (i:Nat),.ref b])):=λc o hc bn=>sT _ _ (hO _ _ hc bn)
   refine bB bv ?_
   generalize upd H' tt (.tup [.int (i:Nat),.ref b])=H6 at*
   obtain⟨ns6,hns6,_⟩:=PL.lst (oM oT).2
   walk_at "rd"
   refine⟨C,dx,f4,hnT,ct.cl,ct.nG,_,lG4,g,rfl,Ad.Grid,dg',fg,(oM oT).1,cg.cl,cg.nN,_,lNg,.inl ⟨rfl,_,aa.of hns6⟩,?_⟩
   refine Lu (oM oT).2 hbT (sC p (ade p (Tk hp))) ?_
   walk_at "rd"
   refine⟨C,dx,f4,hnT,ct.cl,ct.nE,_,lE4,⟨by lia,by lia,by show(1:Int).natAbs<2 ^ 64;decide⟩,?_⟩
   rw[ll (n:=i) rfl]
   have hlen:((others.take i).map (Fk xs ys)).length=i:=by rw[dL,dG];lia
   have ac':On (bF ((others.take i).map (Fk xs ys))) (EQ ((2 ^ i:Nat):Int))=none:=CD λa ha q=>by
    rw[hlen]at ha
    have:=yA (a:=2) (by decide) ha
    lia
   refine⟨e,rfl,_,jT.k (k:=EQ ((2 ^ i:Nat):Int)) hET (by rw[Mr,hlen];exact a8 (by lia)),_,_,⟨rfl,rfl⟩,λc o hc bn=>by rw[gl bn];exact hO' _ _ hc bn,?_⟩
   rw[bv,CV _ ac',take_snoc hp,GM,HU,YH,hlen]
  .rintro σ H' ⟨v2,v3,rfl,hO,hE⟩
   rw[Pz,iK]at hE
   have hnE:=hO _ _ hn5 fe.symm
   have oE:Is n H1 H':=λc o hc bn=>hO _ _ (s5 _ _ (o4 _ _ hc bn)) (wT hc hH1e)
   refine hR _ _ ?_
   clear hR
   refine aQ λR hR=> ?_
   walk_at "rd"
   refine⟨C,dx,f4,hnE,ct.cl,ct.nE,_,lE4,e,_,rfl,hE,λr hr'=> ?_⟩
   have ek:((bF (others.map (Fk xs ys))).map λz=>kV z.1)=((sw others.length).map λ(a:Nat)=>((2 ^ a:Nat):Int)).map V.int:=by
    unfold bF
    rw[P6,P6,dL]
    rfl
   have sR:=cr (o:=.lst ((bF (others.map (Fk xs ys))).map λz=>kV z.1)) hr'
   have hr6:upd H' r (.lst ((bF (others.map (Fk xs ys))).map λz=>kV z.1)) r=some (.lst (((sw others.length).map λ(a:Nat)=>((2 ^ a:Nat):Int)).map V.int)):=by rw[bv,ek]
   generalize upd H' r (.lst ((bF (others.map (Fk xs ys))).map λz=>kV z.1))=H6 at*
   refine⟨r,_,rfl,aa.of hr6,C,dx,f4,sR _ _ hnE,ct.cl,ct.nW,by lia,?_⟩
   rw[LZ]
   refine hR _ _ ?_
   clear hR
   have o6:Is n H1 H6:=λc o hc bn=>sR _ _ (oE _ _ hc bn)
   have hE6:=sR _ _ hE
   have lG7:(Gc "whole" (.int ((2 ^ others.length-1:Nat):Int)) f4).lookup ("grid":Str)=some (.ref g):=by rw[aS,if_neg (by decide)];exact lG4
   have lR7:(Gc "whole" (.int ((2 ^ others.length-1:Nat):Int)) f4).lookup ("root":Str)=some (.int (Fk xs ys p0:Int)):=by rw[aS,if_neg (by decide)];exact lR4
   have lE7:(Gc "whole" (.int ((2 ^ others.length-1:Nat):Int)) f4).lookup ("ends":Str)=some (.ref e):=by rw[aS,if_neg (by decide)];exact lE4
   have lW7:(Gc "whole" (.int ((2 ^ others.length-1:Nat):Int)) f4).lookup ("whole":Str)=some (.int ((2 ^ others.length-1:Nat):Int)):=by rw[aS,if_pos rfl]
   have c7:(Gc "whole" (.int ((2 ^ others.length-1:Nat):Int)) f4).length<=4:=Ch (qL ..) (by lia)
   generalize Gc "whole" (.int ((2 ^ others.length-1:Nat):Int)) f4=f7 at*
   have hn7:upd H6 n (.ins C dx f7) n=some (.ins C dx f7):=bv
   have o7:Is n H1 (upd H6 n (.ins C dx f7)):=λb o hb bn=>by rw[gl bn];exact o6 _ _ hb bn
   have hE7:upd H6 n (.ins C dx f7) e=some (.dK (bF (others.map (Fk xs ys)))):=by rw[gl fe];exact hE6
   generalize upd H6 n (.ins C dx f7)=H7 at*
   refine aQ λR hR=> ?_
   walk_at "rd"
   intro j hj
   have xF:j≠n:=(wT hn7 hj).symm
   have hje:j≠e:=(wT hE7 hj).symm
   refine⟨C,dx,f7,(by rw[gl xF.symm];exact hn7),ct.cl,ct.nJ,by lia,?_⟩
   refine hR _ _ ?_
   clear hR
   have lG8:(Gc "joined" (.ref j) f7).lookup ("grid":Str)=some (.ref g):=by rw[aS,if_neg (by decide)];exact lG7
   have lR8:(Gc "joined" (.ref j) f7).lookup ("root":Str)=some (.int (Fk xs ys p0:Int)):=by rw[aS,if_neg (by decide)];exact lR7
   have lE8:(Gc "joined" (.ref j) f7).lookup ("ends":Str)=some (.ref e):=by rw[aS,if_neg (by decide)];exact lE7
   have lW8:(Gc "joined" (.ref j) f7).lookup ("whole":Str)=some (.int ((2 ^ others.length-1:Nat):Int)):=by rw[aS,if_neg (by decide)];exact lW7
   have lJ8:(Gc "joined" (.ref j) f7).lookup ("joined":Str)=some (.ref j):=by rw[aS,if_pos rfl]
   have c8:(Gc "joined" (.ref j) f7).length<=5:=Ch (qL ..) (by lia)
   generalize Gc "joined" (.ref j) f7=f8 at*
   have hH1j:H1 j=none:=by
    cases q:H1 j with
    |none=>rfl
    |some o=>rw[o7 _ _ q xF]at hj;cases hj
   have hn8:upd (upd H7 j (.dK [])) n (.ins C dx f8) n=some (.ins C dx f8):=bv
   have hj8:upd (upd H7 j (.dK [])) n (.ins C dx f8) j=some (.dK []):=by rw[gl xF,bv]
   have o8:Is n H1 (upd (upd H7 j (.dK [])) n (.ins C dx f8)):=λb o hb bn=>by
    rw[gl bn,gl (wT hb hH1j)];exact o7 _ _ hb bn
   have hE8:upd (upd H7 j (.dK [])) n (.ins C dx f8) e=some (.dK (bF (others.map (Fk xs ys)))):=by rw[gl fe,gl hje.symm];exact hE7
   generalize upd (upd H7 j (.dK [])) n (.ins C dx f8)=H8 at*
   walk_at "rd"
   intro p hp
   have FN:p≠n:=(wT hn8 hp).symm
   have hpe:p≠e:=(wT hE8 hp).symm
   have iu:p≠j:=(wT hj8 hp).symm
   refine⟨C,dx,f8,(by rw[gl FN.symm];exact hn8),ct.cl,ct.nP,by lia,?_⟩
   have hH1p:H1 p=none:=by
    cases q:H1 p with
    |none=>rfl
    |some o=>rw[o8 _ _ q FN]at hp;cases hp
   have o9:Is n H1 (upd (upd H8 p (.dK [])) n (.ins C dx (Gc "parted" (.ref p) f8))):=λb o hb bn=>by
    rw[gl bn,gl (wT hb hH1p)];exact o8 _ _ hb bn
   refine k _ g e j p ⟨dx,Gc "parted" (.ref p) f8,bv,?_,?_,?_,?_,?_,?_,eD.jq o9 hn1 xE hG1,?_⟩ (λb o hb bn=>o9 _ _ (s1 _ _ hb) bn) ?_ ?_ (s1.free hH1j) (s1.free hH1p) iu.symm
   .rw[aS,if_neg (by decide)];exact lG8
   .rw[aS,if_neg (by decide)];exact lR8
   .rw[aS,if_neg (by decide)];exact lE8
   .rw[aS,if_neg (by decide),dL];exact lW8
   .rw[aS,if_neg (by decide)];exact lJ8
   .rw[aS,if_pos rfl]
   .rw[gl fe,gl hpe.symm];exact hE8
   .rw[gl xF,gl iu.symm];exact hj8
   .rw[gl FN,bv]
end
end Sq
end
section
namespace Sq
open PySem PySem.Spec PyProof.Rows L2
open Vbpcar (Pt)
def dy(c:Nat)(H:Hp)(j:ac)(ok:Nat->Prop)(n:Nat)(f:Nat->Nat->Nat):Prop:=∃kvs,H j=some (.dK kvs)/\kvs.length<=c/\∀s,ok s->∃b,On kvs (EQ (s:Int))=some (.ref b)/\IL H b ((sw n).map λv=>(f s v:Int))
theorem dy.jd{c:Nat}{H:Hp}{j:ac}{ok:Nat->Prop}{n:Nat}{f:Nat->Nat->Nat}(h:dy c H j ok n f)(hc:c<=100):JD H j ok n f:=by
 obtain⟨kvs,h1,h2,h3⟩:=h
 exact⟨kvs,h1,by lia,h3⟩
theorem dy.same{c:Nat}{H H':Hp}{j:ac}{ok:Nat->Prop}{n:Nat}{f:Nat->Nat->Nat}(s:db H H')(h:dy c H j ok n f):dy c H' j ok n f:=by
 obtain⟨kvs,h1,h2,h3⟩:=h
 exact⟨kvs,s _ _ h1,h2,λx hx=>let⟨b,e1,e2⟩:=h3 x hx;⟨b,e1,IL.same s e2⟩⟩
theorem dy.jq{c:Nat}{q:ac}{H H':Hp}{kq:List (Key×V)}{j:ac}{ok:Nat->Prop}{n:Nat}{f:Nat->Nat->Nat}(o:Is q H H')(hq:H q=some (.dK kq))(hj:j≠q)(h:dy c H j ok n f):dy c H' j ok n f:=by
 obtain⟨kvs,h1,h2,h3⟩:=h
 exact⟨kvs,o _ _ h1 hj,h2,λx hx=>let⟨b,e1,e2⟩:=h3 x hx;⟨b,e1,o _ _ e2 (P8 e2 hq (by intro z;cases z))⟩⟩
theorem Zj{κ:Type}[DecidableEq κ](kvs:List (κ×V))(k:κ)(v:V):(putK kvs k v).length<=kvs.length+1:=by
 unfold putK
 split
 .rw[dL];lia
 .rw[Rs];exact nn _
theorem dy.put{c:Nat}{H:Hp}{j b:ac}{ok ok':Nat->Prop}{n s:Nat}{f:Nat->Nat->Nat}(h:dy c H j ok n f)(hb:IL H b ((sw n).map λv=>(f s v:Int)))(ab:∀x,ok' x->x≠s->ok x):
 ∃kvs,H j=some (.dK kvs)/\kvs.length<=c/\dy (c+1) (upd H j (.dK (putK kvs (EQ (s:Int)) (.ref b)))) j ok' n f:=by
 obtain⟨kvs,h1,h2,h3⟩:=h
 refine⟨kvs,h1,h2,_,bv,Ch (Zj ..) (by lia),λx hx=> ?_⟩
 rw[C8]
 have hl:∀{a ns},IL H a ns->IL (upd H j (.dK (putK kvs (EQ (s:Int)) (.ref b)))) a ns:=λ{a ns}e=>by
  unfold IL
  rw[gl (P8 e h1 (by intro z;cases z))];exact e
 by_cases e:x=s
 .subst e
  exact⟨b,if_pos rfl,hl hb⟩
 .obtain⟨b',e1,e2⟩:=h3 x (ab x hx e)
  refine⟨b',?_,hl e2⟩
  rw[if_neg (λq=>e (by have:=BX q;lia))];exact e1
section
variable{P:lw}{w:li}{K:ge}{mg:Str->Option al}{base:io}{Ad:aV}{C:ac}
def Gg(CT CG:ac):Sp:=λvs H Q _=>∃t xs ys root WF g e j p s jn,vs=[.ref t,.int (s:Nat)]/\hZ CT CG H t xs ys root WF g e j p/\xs.length<=7/\ys.length<=7/\JD H j (λa=>0<a/\a<s) (ys.length*xs.length) jn/\0<s/\s<64/\P9 s≠[]/\
 ∀H' q,db H H'->H q=none->IL H' q ((sw (ys.length*xs.length)).map λu=>((fw ((P9 s).map λa=>jn a u+jn (s-a) u):Nat):Int))->Q (.ref q) H'
theorem QC{f:ac}{fd:on}(F:re K "parted_lengths" "parted_lengths" yi f fd)(T:Txt mg Ad)(cg:fO K Ad.Grid)(ct:ik K Ad.Table)(nD:Def P w K mg base "parts_of" 1 qz A5)
 (yF:Def P w K mg base "least_parted" 1 tU GO):o0 P w K mg base ae 2 f fd tE (Gg Ad.Table Ad.Grid):=by
 have nd:=Gd.nd
 refine F.ok Gd (λvs H Q E h=> ?_) (λlm A outer s H vs Q E hr h=> ?_)
 .obtain⟨t,xs,ys,root,WF,g,e,j,p,s,jn,rfl,_⟩:=h
  rfl
 .obtain⟨t,xs,ys,root,WF,g,e,j,p,s,jn,rfl,hT,hx7,hy7,hJ,h0,h64,bn,k⟩:=h
  have h49:ys.length*xs.length<=7*7:=eh hy7 hx7
  refine⟨_,(ga (pS 2 nd (sK nD (hr.mono (by decide)) (am (pv 1) bi)))
   (jp (pi (ao rfl nd (nQ rfl T.cH (am (FM (aW K rfl) (by rfl) T.aJ aZ (am (Do K rfl (Do K rfl (pv 0) rfl) rfl) bi)) bi)) (own:=[("u",3)]) (Re rfl) (λ_ _ _ _ _=>(xz 3 nd)) (λ_ _ _ _ _=>T0) (λ_ _ _ _ _=>(sK yF (hr.mono (by decide)) (am (Do K rfl (pv 0) rfl) (am (pv 1) (am (pv 2) (am (pv 3) bi)))))))))),?_⟩
  walk_at "rd"
  refine⟨s,rfl,h0,h64,λH1 q s1 hq=> ?_⟩
  obtain⟨dx,fs,ht,lG,lR,lE,lW,lJ,lP,⟨dg,fg,l,hg,lWg,lNg,hP⟩,hE⟩:=hT.same s1
  obtain⟨us,wE,Wp⟩:=hP.lst
  rw[cF]at Wp
  walk_at "rd"
  refine⟨Ad.Table,dx,fs,ht,ct.cl,ct.nG,_,lG,g,rfl,Ad.Grid,dg,fg,hg,cg.cl,cg.nN,_,lNg,l,rfl,us,.inl (aa.of wE),?_⟩
  walk_at "rd"
  refine⟨by lia,by lia,wy (sw (ys.length*xs.length)) (λu=>.int ((fw ((P9 s).map λa=>jn a u+jn (s-a) u):Nat):Int)) ?_ ?_ k_ (λi x u H2 C2 hx hu s2 hC=> ?_) λD H2 hD s2 h2=> ?_⟩
  .rw[dL,aI,aI,Wp];rfl
  .rw[dL,aI];exact a8 (by lia)
  .obtain⟨rfl,hi⟩:=qM hu
   cases oz hx
   walk_at "rd"
   refine⟨Ad.Table,dx,fs,s2 _ _ ht,ct.cl,ct.nJ,_,lJ,j,q,s,u,_,P9 s,jn,(by rw[show(0:Int)+(u:Int)=(u:Int) by lia]),hJ.same (s1.trans s2),IL.same s2 hq,bn,λa ha=>iR ha,J1 s h64,hi,λH3 s3=>hC _ s3⟩
  .refine k H2 D (s1.trans s2) (s1.free hD) ?_
   unfold IL
   rw[h2,P6];rfl
def Hb(CT CG:ac):Sp:=λvs H Q _=>∃t xs ys root WF g e j p a i,vs=[.ref t,.int ((2 ^ a:Nat):Int)]/\hZ CT CG H t xs ys root WF g e j p/\xs.length<=7/\ys.length<=7/\WF[a]? =some i/\i<ys.length*xs.length/\
 ∀H' q,db H H'->H q=none->IL H' q ((sw (ys.length*xs.length)).map λv=>(dN xs ys v i:Int))->Q (.ref q) H'
theorem RJ{f:ac}{fd:on}(F:re K "end_lengths" "end_lengths" zh f fd)(T:Txt mg Ad)(cg:fO K Ad.Grid)(ct:ik K Ad.Table)(bc:Def P w K mg base "distance" 1 gh iO):
 o0 P w K mg base ae 2 f fd ue (Hb Ad.Table Ad.Grid):=by
 have nd:=G6.nd
 refine F.ok G6 (λvs H Q E h=> ?_) (λlm A outer s H vs Q E hr h=> ?_)
 .obtain⟨t,xs,ys,root,WF,g,e,j,p,a,i,rfl,_⟩:=h
  rfl
 .obtain⟨t,xs,ys,root,WF,g,e,j,p,a,i,rfl,hT,hx7,hy7,ha,hi,k⟩:=h
  have h49:ys.length*xs.length<=7*7:=eh hy7 hx7
  obtain⟨dx,fs,ht,lG,lR,lE,lW,lJ,lP,⟨dg,fg,l,hg,lWg,lNg,hP⟩,hE⟩:=hT
  obtain⟨us,wE,Wp⟩:=hP.lst
  obtain⟨b,hx1,hb1⟩:=hP.get wE (eA xs ys hi)
  refine⟨_,(ga (pS 2 nd (Do K rfl (Do K rfl (pv 0) rfl) rfl))
   (ga (pS 3 nd (ul (Ev K rfl) (pv 2) (iY (bU hr) (Do K rfl (pv 0) rfl) (pv 1) (λ_ _=>rfl)) (λ_ _=>rfl)))
   (jp (pi (ao rfl nd (P7 K rfl (pv 2)) (own:=[("node",4)]) (Re rfl) (λ_ _ _ _ _=>(xz 4 nd)) (λ_ _ _ _ _=>T0) (λ_ _ _ _ _=>(sK bc (hr.mono (by decide)) (am (pv 4) (am (pv 3) bi))))))))),?_⟩
  walk_at "rd"
  refine⟨Ad.Table,dx,fs,ht,ct.cl,ct.nG,_,lG,g,rfl,Ad.Grid,dg,fg,hg,cg.cl,cg.nN,_,lNg,Ad.Table,dx,fs,ht,ct.cl,ct.nE,_,lE,e,rfl,_,wK ha▸cV.k (k:=EQ ((2 ^ a:Nat):Int)) hE,Fa wE (at_of rfl hx1) ?_⟩
  walk_at "rd"
  refine⟨⟨_,aa.of wE⟩,wy (gt xs ys) (λq=>.int ((aj q ⟨xs.getD (i % xs.length) 0,ys.getD (i / xs.length) 0⟩:Nat):Int)) Wp.symm (by rw[Wp,cF];exact a8 (by lia)) (qX (aa.of wE)) (λm x q H2 C2 hx hq s2 hC=> ?_) λD H2 hD s2 h2=> ?_⟩
  .obtain⟨c,rfl,hc⟩:=hP.at wE hx hq
   walk_at "rd"
   exact⟨c,b,q,_,rfl,s2 _ _ hc,s2 _ _ hb1,hC _ (db.refl _)⟩
  .refine k H2 D s2 hD ?_
   unfold IL
   rw[h2,P6]
   congr 2
   apply uj
   .simp[cF]
   .intro v h1 h2'
    have hv:v<ys.length*xs.length:=by rw[dL,cF]at h1;exact h1
    simp only[zC,tL,Yd]
    have hvl:v<(gt xs ys).length:=by rw[cF];exact hv
    have e1:(gt xs ys).getD v ⟨0,0⟩=(gt xs ys)[v]:=by rw[Sc,wS hvl];rfl
    unfold dN
    rw[eu hi,e1]
end
end Sq
end
section
namespace Sq
open PySem PySem.Spec PyProof.Rows L2
open Vbpcar (Pt)
def jW(j p:ac)(H H':Hp):Prop:=∀b o,H b=some o->b≠j->b≠p->H' b=some o
theorem TL.o5{j p l:ac}{H H':Hp}{kj kp:List (Key×V)}{Ix:List (List Int)}(o:jW j p H H')(hj:H j=some (.dK kj))(hp:H p=some (.dK kp))(h:TL H l Ix):TL H' l Ix:=by
 obtain⟨zs,z1,z2,z3⟩:=h
 exact⟨zs,o _ _ z1 (P8 z1 hj (by intro q;cases q)) (P8 z1 hp (by intro q;cases q)),z2,λz hz=>o _ _ (z3 z hz) (P8 (z3 z hz) hj (by intro q;cases q)) (P8 (z3 z hz) hp (by intro q;cases q))⟩
theorem hZ.o5{CT CG t g e j p:ac}{H H':Hp}{xs ys:List Int}{root:Nat}{WF:List Nat}(o:jW j p H H')(hj:H j=some (.dK []))(hp:H p=some (.dK []))(bn:WF≠[])(h:hZ CT CG H t xs ys root WF g e j p):hZ CT CG H' t xs ys root WF g e j p:=by
 obtain⟨dx,fs,h1,h2,h3,h4,h5,h6,h7,⟨dg,fg,l,g1,g2,g3,g4⟩,h9⟩:=h
 have he:∀{q},H q=some (.dK [])->e≠q:=λhq=>P8 h9 hq (by
  intro z
  have z:=HO.dK.inj z
  have:=congrArg dm z
  rw[Mr]at this
  exact bn (cC.mp this))
 refine⟨dx,fs,o _ _ h1 (P8 h1 hj (by intro q;cases q)) (P8 h1 hp (by intro q;cases q)),h2,h3,h4,h5,h6,h7,⟨dg,fg,l,o _ _ g1 (P8 g1 hj (by intro q;cases q)) (P8 g1 hp (by intro q;cases q)),g2,g3,TL.o5 o hj hp g4⟩,o _ _ h9 (he hj) (he hp)⟩
section
variable{xs ys:List Int}{others:List Pt}
theorem aaG{a:Nat}{q:Pt}(h6:others.length<=6)(ha:others[a]? =some q)(hq:q∈gt xs ys):((sw (ys.length*xs.length)).map λv=>(dN xs ys v (Fk xs ys q):Int))=(sw (ys.length*xs.length)).map λv=>(jn (gt xs ys) others (2 ^ a) v:Int):=by
 refine fY λv hv=> ?_
 have hv:=Pi.mp hv
 rw[Np (gt xs ys) others h6 ha (eA xs ys hv)]
 have e:(gt xs ys).getD (Fk xs ys q) ⟨0,0⟩=q:=by rw[Sc,(wO hq).1];rfl
 unfold dN
 rw[eu hv,e]
theorem row_more(hx:xs.Pairwise (·<·))(hy:ys.Pairwise (·<·)){s:Nat}(hs:s<2 ^ others.length)(h0:0<s)(bn:P9 s≠[]):
 Uf (dR ((sw (ys.length*xs.length)).map (mt (gt xs ys) others s)) (cI xs ys))=(sw (ys.length*xs.length)).map λv=>(jn (gt xs ys) others s v:Int):=by
 unfold Uf
 apply uj
 .simp[vm]
 .intro v h1 h2
  have hv:v<ys.length*xs.length:=by simpa using h2
  simp only[zC,tL]
  rw[Xt hx hy hs h0 bn hv,Sc,wS (by rw[vm];simpa using hv)]
  rfl
theorem Ea{m s:Nat}(h6:m<=6)(h0:0<s)(hs:s<2 ^ m):(∃a<m,s=2 ^ a)\/((∀a<m,s≠2 ^ a)/\P9 s≠[]):=by
 by_cases h:∃a<m,s=2 ^ a
 .exact .inl h
 .refine .inr ⟨λa ha e=>h ⟨a,ha,e⟩,λe=>h ?_⟩
  have h64:2 ^ m<=2 ^ 6:=bM (by decide) h6
  obtain⟨i,hi,e2⟩:=BN s (by lia) h0 e
  refine⟨i,?_,e2⟩
  rcases jE i m with h'|h'
  .exact h'
  .have:=bM (n:=2) (by decide) h'
   lia
end
section
variable{P:lw}{w:li}{K:ge}{mg:Str->Option al}{base:io}{Ad:aV}
structure lr (CT CG:ac) (H:Hp) (t:ac) (xs ys:List Int) (p0:Pt) (others:List Pt) (g e j p:ac):Prop where
 bb:hZ CT CG H t xs ys (Fk xs ys p0) (others.map (Fk xs ys)) g e j p
 FW:JD H j (λs=>0<s/\s<2 ^ others.length) (ys.length*xs.length) (jn (gt xs ys) others)
 P_:JD H p (λs=>0<s/\s<2 ^ others.length/\P9 s≠[]) (ys.length*xs.length) (mt (gt xs ys) others)
theorem lr.same{CT CG t g e j p:ac}{H H':Hp}{xs ys:List Int}{p0:Pt}{others:List Pt}(s:db H H')(h:lr CT CG H t xs ys p0 others g e j p):lr CT CG H' t xs ys p0 others g e j p:=
 ⟨h.bb.same s,h.FW.same s,h.P_.same s⟩
def yu(CT CG:ac):Sp:=λvs H Q _=>∃l p0 others,vs=[.ref l]/\PL H l (p0::others)/\others.length<=6/\others≠[]/\
 ∀H' t g e j p,db H H'->lr CT CG H' t (wn (p0::others)) (Db (p0::others)) p0 others g e j p->Q (.ref t) H'
theorem Q6{f fI:ac}{fd fdI:on}(F:re K "filled_table" "filled_table" yN f fd)(T:Txt mg Ad)(cg:fO K Ad.Grid)(ct:ik K Ad.Table)
 (ZJ:Mk K Ad.Table fI)(S9:o0 P w K mg base ae 3 fI fdI qc (HH Ad.Table Ad.Grid))(Td:Binds K fdI qc [])
 (y6:Def P w K mg base "sweep_steps" 2 ug (Hd Ad.Grid))(y3:Def P w K mg base "end_lengths" 2 ue (Hb Ad.Table Ad.Grid))
 (yd:Def P w K mg base "parted_lengths" 2 tE (Gg Ad.Table Ad.Grid))(Cz:Def P w K mg base "spread" 1 vV KU):
 o0 P w K mg base ae 5 f fd pV (yu Ad.Table Ad.Grid):=by
 have nd:=GF.nd
 refine F.ok GF (λvs H Q E h=> ?_) (λlm A outer s H vs Q E hr h=> ?_)
 .obtain⟨l,p0,others,rfl,_⟩:=h
  rfl
 .obtain⟨l,p0,others,rfl,hl,h6,bn,k⟩:=h
  have h7:(p0::others).length<=7:=by simp;lia
  have hx7:=EK h7
  have hy7:=EL h7
  have lf:(wn (p0::others)).Pairwise (·<·):=dM _
  have dE:(Db (p0::others)).Pairwise (·<·):=dM _
  have sC:∀q∈others,q∈gt (wn (p0::others)) (Db (p0::others)):=λq hq=>oi (by simp[hq])
  refine⟨_,(ga (pS 1 nd (MJ ZJ S9 (hr.mono (by decide)) rfl T.Table Td .nil rF (am (pv 0) bi)))
   (ga (pS 2 nd (sK y6 (hr.mono (by decide)) (am (Do K rfl (pv 1) rfl) bi)))
   (ga (ck br rfl (kX rfl T.cH (am nb (am (wp bz (Do K rfl (pv 1) rfl) nb) bi))) (aP 3 nd) (jp (aw (NB (Nz (bU hr) (pv 3) (Do K rfl (pv 1) rfl)) rfl) (jp (om (bU hr) (Do K rfl (pv 1) rfl) (pv 3) (sK y3 (hr.mono (by decide)) (am (pv 1) (am (pv 3) bi))) rfl)) (ga (om (bU hr) (Do K rfl (pv 1) rfl) (pv 3) (sK yd (hr.mono (by decide)) (am (pv 1) (am (pv 3) bi))) rfl)
   (jp (om (bU hr) (Do K rfl (pv 1) rfl) (pv 3) (sK Cz (hr.mono (by decide)) (am (iY (bU hr) (Do K rfl (pv 1) rfl) (pv 3) (λ_ _=>rfl)) (am (pv 2) bi))) rfl))))))
   (jp (pi (pv 1)))))),?_⟩
  refine aQ λR hR=> ?_
  walk_at "rd"
  intro t dt ht0 hdt0 PH
  refine⟨t,dt,l,p0,others,rfl,bv,TL.same ((cr hdt0).trans (cr (by rw[gl PH.symm];exact ht0))) hl,h6,λH1 g e j p hT1 hO1 hj1 hp1 hj0 hp0 pB=>⟨rfl,?_⟩⟩
  walk_at "rd"
  refine hR _ _ ?_
  clear hR
  generalize wn (p0::others)=xs at*
  generalize Db (p0::others)=ys at*
  have s1:db H H1:=db.made ht0 hdt0 hO1
  have sB:db H (upd (upd H dt (.own t)) t (.ins Ad.Table dt [])):=(cr hdt0).trans (cr (by rw[gl PH.symm];exact ht0))
  have hHj:H j=none:=sB.free hj0
  have hHp:H p=none:=sB.free hp0
  have h49:ys.length*xs.length<=7*7:=eh hy7 hx7
  have E2:others.map (Fk xs ys)≠[]:=λq=>bn (iF.mp q)
  have h64:2 ^ others.length<=64:=bM (n:=2) (by decide) h6
  have cO:0<2 ^ others.length:=kR (by decide)
  refine aQ λR hR=> ?_
  walk_at "rd"
  obtain⟨dx,fs,ht,lG,lR,lE,lW,lJ,lP,hG,hE⟩:=id hT1
  refine⟨Ad.Table,dx,fs,ht,ct.cl,ct.nG,_,lG,g,xs,ys,rfl,hG,hx7,hy7,λH2 st s2 hst0 ay=>hR _ _ ?_⟩
  clear hR
  have hT2:=hT1.same s2
  have hj2:=s2 _ _ hj1
  have hp2:=s2 _ _ hp1
  walk_at "rd"
  refine⟨Ad.Table,dx,fs,s2 _ _ ht,ct.cl,ct.nW,_,lW,?_⟩
  walk_at "rd"
  rw[dL]
  refine⟨_,_,⟨rfl,rfl⟩,⟨by lia,by lia,by lia,by lia⟩,nH (λi σ H'=>∃v3,σ=[some (.ref l),some (.ref t),some (.ref st),v3]/\jW j p H2 H'/\dy i H' j (λs=>0<s/\s<i+1) (ys.length*xs.length) (jn (gt xs ys) others)/\dy i H' p (λs=>0<s/\s<i+1/\P9 s≠[]) (ys.length*xs.length) (mt (gt xs ys) others))
   ⟨_,rfl,λb o h _ _=>h,⟨[],hj2,nn _,λs hs=>by lia⟩,⟨[],hp2,nn _,λs hs=>by lia⟩⟩ ?_ ?_⟩
  .rintro i σ H' hi ⟨v3,rfl,hO,hJ,hPt⟩
   have hi:i+1<2 ^ others.length:=by lia
   have ei:(1:Int)+(i:Int)=((i+1:Nat):Int):=by lia
   have hT':=hT2.o5 hO hj2 hp2 E2
   obtain⟨dx',fs',ht',lG',lR',lE',lW',lJ',lP',hG',hE'⟩:=id hT'
   walk_at "rd"
   refine⟨Ad.Table,dx',fs',ht',ct.cl,ct.nE,_,lE',e,rfl,_,ei▸cV.k (k:=EQ ((i+1:Nat):Int)) hE',?_⟩
   rw[ei]
   rcases Ea h6 (vw i) hi with⟨a,ha,ea⟩|⟨cZ,c6⟩
   .obtain⟨q,hq⟩:∃q,others[a]? =some q:=⟨_,wS ha⟩
    have dD:(others.map (Fk xs ys))[a]? =some (Fk xs ys q):=by rw[wP,hq];rfl
    have ea:i+1=2 ^ a:=ea
    have ev:On (bF (others.map (Fk xs ys))) (EQ ((i+1:Nat):Int))=some (.int (Fk xs ys q:Int)):=by rw[ea];exact wK dD
    rw[ev,yE,if_pos rfl]
    refine⟨t,xs,ys,_,_,g,e,j,p,a,_,(by rw[ea]),hT',hx7,hy7,dD,ls (sC q (Tk hq)),λH3 r s3 hr3 hI=> ?_⟩
    rw[aaG h6 hq (sC q (Tk hq)),<-ea]at hI
    walk_at "rd"
    obtain⟨kvs,k1,k2,k3⟩:=(hJ.same s3).put (s:=i+1) (ok':=λs=>0<s/\s<i+1+1) hI (λx hx lf=>⟨hx.1,by lia⟩)
    refine⟨Ad.Table,dx',fs',s3 _ _ ht',ct.cl,ct.nJ,_,lJ',j,rfl,_,jT.k (k:=EQ ((i+1:Nat):Int)) k1 (cT (by lia)),λb o hb fb pk=> ?_,k3,?_⟩
    .rw[gl fb];exact s3 _ _ (hO _ _ hb fb pk)
    .obtain⟨kp,q1,q2,q3⟩:=dy.jq (H':=upd H3 j (.dK (putK kvs (EQ ((i+1:Nat):Int)) (.ref r)))) (λb o hb fb=>by rw[gl fb];exact hb) k1 pB.symm (hPt.same s3)
     refine⟨kp,q1,by lia,λs hs=>q3 s ⟨hs.1,?_,hs.2.2⟩⟩
     rcases mH (zu hs.2.1)with e2|e2
     .exact e2
     .exact absurd (by rw[e2,ea];exact(qC a (by lia)).1) hs.2.2
   .rw[CD (by rw[dL];exact cZ),Vr,if_neg (by decide)]
    refine⟨t,xs,ys,_,_,g,e,j,p,i+1,jn (gt xs ys) others,rfl,hT',hx7,hy7,hJ.jd (by lia),vw i,by lia,c6,λH3 r s3 hr3 hI=> ?_⟩
    walk_at "rd"
    obtain⟨kvs,k1,k2,k3⟩:=(hPt.same s3).put (s:=i+1) (f:=mt (gt xs ys) others) (ok':=λs=>0<s/\s<i+1+1/\P9 s≠[]) hI (λx hx lf=>⟨hx.1,by lia,hx.2.2⟩)
    refine⟨Ad.Table,dx',fs',s3 _ _ ht',ct.cl,ct.nP,_,lP',p,rfl,_,jT.k (k:=EQ ((i+1:Nat):Int)) k1 (cT (by lia)),?_⟩
    have hO4:jW j p H2 (upd H3 p (.dK (putK kvs (EQ ((i+1:Nat):Int)) (.ref r)))):=λb o hb fb pk=>by rw[gl pk];exact s3 _ _ (hO _ _ hb fb pk)
    have hJ4:=dy.jq (H':=upd H3 p (.dK (putK kvs (EQ ((i+1:Nat):Int)) (.ref r)))) (λb o hb fb=>by rw[gl fb];exact hb) k1 pB (hJ.same s3)
    have hI4:IL (upd H3 p (.dK (putK kvs (EQ ((i+1:Nat):Int)) (.ref r)))) r ((sw (ys.length*xs.length)).map λu=>(mt (gt xs ys) others (i+1) u:Int)):=by
     unfold IL
     rw[gl (P8 hI k1 (by intro z;cases z))];exact hI
    have hg4:cV (upd H3 p (.dK (putK kvs (EQ ((i+1:Nat):Int)) (.ref r)))) p (.int ((i+1:Nat):Int)) (some (.ref r)):=by
     have:=cV.k (k:=EQ ((i+1:Nat):Int)) (bv (H:=H3) (a:=p) (o:=.dK (putK kvs (EQ ((i+1:Nat):Int)) (.ref r))))
     rw[C8,if_pos rfl]at this
     exact this
    generalize upd H3 p (.dK (putK kvs (EQ ((i+1:Nat):Int)) (.ref r)))=H4 at*
    obtain⟨dx4,fs4,ht4,lG4,lR4,lE4,lW4,lJ4,lP4,hG4,hE4⟩:=hT2.o5 hO4 hj2 hp2 E2
    have hst4:=TL.o5 hO4 hj2 hp2 ay
    refine⟨Ad.Table,dx4,fs4,ht4,ct.cl,ct.nP,_,lP4,p,rfl,_,hg4,r,st,(sw (ys.length*xs.length)).map (mt (gt xs ys) others (i+1)),cI xs ys,rfl,?_,by rw[dL,aI];lia,hst4,by have:=BO hx7 hy7;lia,λz hz=> ?_,λH5 r2 s5 hr5 hI5=> ?_⟩
    .unfold Uf IL at*
     rw[hI4,P6,P6,P6];rfl
    .rw[dL,aI]
     exact⟨(Cn hz).1,(Cn hz).2.1⟩
    rw[row_more lf dE hi (vw i) c6]at hI5
    obtain⟨kj,j1,j2,j3⟩:=(hJ4.same s5).put (s:=i+1) (ok':=λs=>0<s/\s<i+1+1) hI5 (λx hx lf=>⟨hx.1,by lia⟩)
    refine⟨Ad.Table,dx4,fs4,s5 _ _ ht4,ct.cl,ct.nJ,_,lJ4,j,rfl,_,jT.k (k:=EQ ((i+1:Nat):Int)) j1 (cT (by lia)),λb o hb fb pk=> ?_,j3,?_⟩
    .rw[gl fb];exact s5 _ _ (hO4 _ _ hb fb pk)
    .exact dy.jq (λb o hb fb=>by rw[gl fb];exact hb) j1 pB.symm (k3.same s5)
  .rintro σ H' ⟨v3,rfl,hO,hJ,hPt⟩
   have e1:(((2 ^ others.length-1:Nat):Int)+1-1).toNat+1=2 ^ others.length:=by lia
   have e2:(((2 ^ others.length-1:Nat):Int)+1-1).toNat<=100:=by lia
   have hJ':=hJ.jd e2
   have hP':=hPt.jd e2
   rw[e1]at hJ' hP'
   walk_at "rd"
   exact k H' t g e j p (λb o hb=>hO _ _ (s2 _ _ (s1 _ _ hb)) (wT hb hHj) (wT hb hHp)) ⟨hT2.o5 hO hj2 hp2 E2,hJ',hP'⟩
end
end Sq
end
section
namespace Sq
open PySem PySem.Spec PyProof.Rows L2
open Vbpcar (Pt)
open VbpcarNeutral (callOf)
theorem Jn(ps:List Pt):wn (b9 ps)=wn ps:=by
 refine wN (dM _) (dM _) λy=> ?_
 unfold wn
 rw[dI,dI,nw,nw]
 exact⟨λ⟨p,hp,e⟩=>⟨p,gR.mp hp,e⟩,λ⟨p,hp,e⟩=>⟨p,gR.mpr hp,e⟩⟩
theorem Jo(ps:List Pt):Db (b9 ps)=Db ps:=by
 refine wN (dM _) (dM _) λy=> ?_
 unfold Db
 rw[dI,dI,nw,nw]
 exact⟨λ⟨p,hp,e⟩=>⟨p,gR.mp hp,e⟩,λ⟨p,hp,e⟩=>⟨p,gR.mpr hp,e⟩⟩
theorem Cj{ps:List Pt}{p0:Pt}{others:List Pt}(h:b9 ps=p0::others)(bn:others≠[]):
 qj ps=(jn (gt (wn ps) (Db ps)) others (2 ^ others.length-1) (Fk (wn ps) (Db ps) p0),
  Ld (gt (wn ps) (Db ps)).toArray others.toArray (fN (gt (wn ps) (Db ps)) others) others.length (2 ^ others.length-1) (Fk (wn ps) (Db ps) p0)):=by
 unfold qj
 rw[h]
 cases others with
 |nil=>exact absurd rfl bn
 |cons q r=>rfl
theorem BK{ps:List Pt}(h:(b9 ps).length<2):qj ps=(0,[]):=by
 unfold qj
 split
 .rename_i p q r e
  rw[e]at h;simp at h;omega
 .rfl
section
variable{P:lw}{w:li}{K:ge}{mg:Str->Option al}{base:io}{Ad:aV}
def pL:Sp:=λvs H Q _=>∃l ps,vs=[.ref l]/\PL H l ps/\ps.length<=7/\∀H',db H H'->Q (.int (bN ps:Nat)) H'
theorem Qt{f:ac}{fd:on}(F:re K "shortest_length" "shortest_length" x6 f fd)(T:Txt mg Ad)(ct:ik K Ad.Table)(nV:Def P w K mg base "unlike" 1 qK Cm)
 (mO:Def P w K mg base "filled_table" 5 pV (yu Ad.Table Ad.Grid)):o0 P w K mg base ae 6 f fd ko pL:=by
 have nd:=F8.nd
 refine F.ok F8 (λvs H Q E h=> ?_) (λlm A outer s H vs Q E hr h=> ?_)
 .obtain⟨l,ps,rfl,_⟩:=h
  rfl
 .obtain⟨l,ps,rfl,hl,h7,k⟩:=h
  refine⟨_,(ga (pS 1 nd (sK nV (hr.mono (by decide)) (am (pv 0) bi)))
   (ga (aw (bw rE (FM (aW K rfl) (by rfl) T.aJ aZ (am (pv 1) bi)) nb (bx _)) (jp (pi nb)) aD)
   (ga (pS 2 nd (sK mO (hr.mono (by decide)) (am (pv 1) bi)))
   (jp (pi (ul (Ev K rfl) (iY (bU hr) (Do K rfl (pv 2) rfl) (Do K rfl (pv 2) rfl) (λ_ _=>rfl)) (Do K rfl (pv 2) rfl) (λ_ _=>rfl))))))),?_⟩
  walk_at "rd"
  refine⟨l,ps,rfl,hl,h7,λH1 q s1 hq hP=> ?_⟩
  obtain⟨us,wE,Wp⟩:=PL.lst hP
  walk_at "rd"
  refine⟨us,.inl (aa.of wE),cW (λh=> ?_) (λh=> ?_)⟩
  .have h:=of_decide_eq_true h
   have e:bN ps=0:=by
    unfold bN
    rw[BK (by omega)]
   rw[e]at k
   exact k H1 s1
  .have h:¬(us.length:Int)<2:=λq=>h (decide_eq_true q)
   have fS:=nF ps
   have xe:=Jn ps
   have ye:=Jo ps
   cases hf:b9 ps with
   |nil=>
    rw[hf]at Wp
    have:us.length=0:=Wp
    omega
   |cons p0 others=>
    have bn:others≠[]:=λe=>by rw[hf,e]at Wp;simp at Wp;omega
    rw[hf]at hP fS xe ye
    refine⟨q,p0,others,rfl,hP,by simp at fS;omega,bn,λH2 t g e j p s2 hF=> ?_⟩
    rw[xe,ye]at hF
    have cO:1<2 ^ others.length:=yX (λe=>bn (cC.mp e))
    obtain⟨dx,fs,ht,lG,lR,lE,lW,lJ,lP,hG,hE⟩:=hF.bb
    rw[dL]at lW
    obtain⟨b,gb,rb⟩:=hF.FW.get (s:=2 ^ others.length-1) ⟨by omega,by omega⟩
    walk_at "rd"
    refine⟨Ad.Table,dx,fs,ht,ct.cl,ct.nJ,_,lJ,Ad.Table,dx,fs,ht,ct.cl,ct.nW,_,lW,j,rfl,_,gb,Ad.Table,dx,fs,ht,ct.cl,ct.nR,_,lR,Fa rb (at_of rfl (nM (ls ?_))) ?_⟩
    .have:p0∈p0::others:=by simp
     have:=oi this
     rwa [xe,ye]at this
    .have e:bN ps=jn (gt (wn ps) (Db ps)) others (2 ^ others.length-1) (Fk (wn ps) (Db ps) p0):=by
      unfold bN
      rw[Cj hf bn]
     rw[e]at k
     exact k H2 (s1.trans s2)
end
end Sq
end
section
namespace Sq
open PySem PySem.Spec PyProof.Rows L2
open Vbpcar (Pt)
theorem LF{l:List Int}(h:l≠[]):cf l∈l/\∀y∈l,cf l<=y:=by
 cases l with
 |nil=>exact absurd rfl h
 |cons a l=>
  obtain⟨h1,h2,h3⟩:=foldl_min l a
  refine⟨?_,λy hy=> ?_⟩
  .show l.foldl min a∈a::l
   rcases h1 with h1|h1
   .rw[h1];exact Go ..
   .exact AT _ h1
  .show l.foldl min a<=y
   rcases wl.mp hy with rfl|hy
   .exact h2
   .exact h3 y hy
theorem LC{l:List Int}(h:l≠[]):cD l∈l/\∀y∈l,y<=cD l:=by
 cases l with
 |nil=>exact absurd rfl h
 |cons a l=>
  obtain⟨h1,h2,h3⟩:=foldl_max l a
  refine⟨?_,λy hy=> ?_⟩
  .show l.foldl max a∈a::l
   rcases h1 with h1|h1
   .rw[h1];exact Go ..
   .exact AT _ h1
  .show y<=l.foldl max a
   rcases wl.mp hy with rfl|hy
   .exact h2
   .exact h3 y hy
noncomputable def r8(ps:List Pt)(t x:Int):Nat:=(max 0 (cD ((ps.filter λp=>decide (p.x=x)).map λp=>p.y)-t)).toNat+(max 0 (t-cf ((ps.filter λp=>decide (p.x=x)).map λp=>p.y))).toNat
theorem aaX{ys:List Int}(t:Int)(h:ys≠[]):cD (ys++[t])-cf (ys++[t])=(((max 0 (cD ys-t)).toNat+(max 0 (t-cf ys)).toNat:Nat):Int):=by
 have bn:ys++[t]≠[]:=by simp
 obtain⟨a1,a2⟩:=LC bn
 obtain⟨b1,b2⟩:=LF bn
 obtain⟨c1,c2⟩:=LC h
 obtain⟨d1,d2⟩:=LF h
 have e1:=a2 _ (pN [t] c1)
 have e2:=a2 t (by simp)
 have e3:=b2 _ (pN [t] d1)
 have e4:=b2 t (by simp)
 have f1:cD (ys++[t])<=cD ys\/cD (ys++[t])=t:=by
  rcases NE.mp a1 with q|q
  .exact .inl (c2 _ q)
  .exact .inr (zn.mp q)
 have f2:cf ys<=cf (ys++[t])\/cf (ys++[t])=t:=by
  rcases NE.mp b1 with q|q
  .exact .inl (d2 _ q)
  .exact .inr (zn.mp q)
 have g:=d2 _ c1
 omega
theorem X5(l:List Nat)(x:Nat):gf (l++[x])=gf l+x:=by
 unfold gf;rw[IA];rfl
theorem Ig(f:Int->Nat):∀{l:List Int},l≠[]->∃i∈l,Au f l=some (f i,i)
 |[],h=>absurd rfl h
 |[a],_=>⟨a,by simp,rfl⟩
 |a::b::r,_=>by
  obtain⟨i,hi,e⟩:=Ig f (l:=b::r) (by simp)
  show ∃i∈_,(match Au f (b::r)with|none=>some (f a,a)|some c=>if f a<=c.1 then some (f a,a)else some c)=some (f i,i)
  rw[e]
  by_cases h:f a<=f i
  .exact⟨a,by simp,if_pos h⟩
  .exact⟨i,AT _ hi,if_neg h⟩
theorem Ie(f:Int->Nat){t:Int}:∀{l:List Int},l.Pairwise (·<·)->t∈l->(∀y∈l,f t<f y\/(f t=f y/\t<=y))->Au f l=some (f t,t)
 |[],_,h,_=>nomatch h
 |[a],_,h,_=>by rw[zn.mp h];rfl
 |a::b::r,hl,h,hm=>by
  obtain⟨l1,l2⟩:=be.mp hl
  show(match Au f (b::r)with|none=>some (f a,a)|some c=>if f a<=c.1 then some (f a,a)else some c)=some (f t,t)
  by_cases e:t=a
  .subst e
   obtain⟨i,hi,ei⟩:=Ig f (l:=b::r) (by simp)
   rw[ei]
   refine if_pos ?_
   show f t<=f i
   rcases hm i (AT _ hi)with h'|h'<;>omega
  .have ht:t∈b::r:=(wl.mp h).resolve_left e
   rw[Ie f l2 ht λy hy=>hm y (AT _ hy)]
   refine if_neg ?_
   have:=l1 t ht
   show ¬f a<=f t
   rcases hm a (by simp)with h'|h'<;>omega
section
variable{P:lw}{w:li}{K:ge}{mg:Str->Option al}{base:io}{Ad:aV}
def F9:Sp:=λvs H Q _=>∃l ps t,vs=[.ref l,.int t]/\PL H l ps/\ps.length<=7/\∀H',db H H'->Q (.int (gf ((wn ps).map (r8 ps t)):Nat)) H'
theorem Qs{f:ac}{fd:on}(F:re K "branches_length" "branches_length" x5 f fd)(T:Txt mg Ad):o0 P w K mg base ae 1 f fd sZ F9:=by
 have nd:=F7.nd
 refine F.ok F7 (λvs H Q E h=> ?_) (λlm A outer s H vs Q E hr h=> ?_)
 .obtain⟨l,ps,t,rfl,_⟩:=h
  rfl
 .obtain⟨l,ps,t,rfl,hl,h7,k⟩:=h
  obtain⟨us,wE,hlen⟩:=hl.lst
  refine⟨_,(ga (pS 2 nd nb)
   (ga (ck br rfl (P7 K rfl (FM (AD rfl) (by rfl) T.gX kT (am (dJ (yI K rfl rfl) (by rfl) T.lF q_ (am (ao rfl nd (P7 K rfl (pv 0)) (own:=[("x",5),("y",6)]) (Re rfl) (λ_ _ _ _ _=>(aF K rfl (n:=2) rfl (Da (xz 5 nd) (Da (xz 6 nd) aG)) rfl rfl)) (λ_ _ _ _ _=>T0) (λ_ _ _ _ _=>(pv 5))) bi)) bi))) (aP 3 nd) (ga (pS 4 nd (wp gj (ao rfl nd (P7 K rfl (pv 0)) (own:=[("x",5),("y",6)]) (Re rfl) (λ_ _ _ _ _=>(aF K rfl (n:=2) rfl (Da (xz 5 nd) (Da (xz 6 nd) aG)) rfl rfl)) (λ_ _ _ _ _=>(qV (bw h_ (pv 5) (pv 3) (bx _)))) (λ_ _ _ _ _=>(pv 6))) (xL (am (pv 1) bi))))
   (jp (abM (i:=2) nd rfl (by first|exact rJ rfl|exact hU rfl) (wp cj (FM (Di K rfl rfl) (by rfl) T.lD qZ (am (pv 4) bi)) (FM (wj K rfl rfl) (by rfl) T.dY eR (am (pv 4) bi))) abl))))
   (jp (pi (pv 2))))),?_⟩
  walk_at "rd"
  refine⟨⟨_,aa.of wE⟩,eQ ps (λp=>.int p.x) hlen.symm (by rw[hlen];exact bh h7) (aa.of wE) (λi x p H' C hx hp s hC=> ?_) λD1 H1 hD1 s1 h1=> ?_⟩
  .obtain⟨a,rfl,ha⟩:=hl.at wE hx hp
   refine bB (s _ _ ha) ⟨rfl,?_⟩
   walk_at "rd"
   exact hC _ (db.refl _)
  refine⟨D1,ps.map λp:Pt=>p.x,rfl,aa.of (IL.of (f:=λp:Pt=>p.x) h1),by rw[dL];omega,λp1 hp1=>⟨p1,_,rfl,bv,λmx q1 cy bo hq1=> ?_⟩⟩
  obtain rfl:wn ps=mx:=Ck cy bo
  have s2:=(s1.trans (cr hp1)).trans (cr (o:=.lst ((wn ps).map V.int)) hq1)
  have hX:upd (upd H1 p1 (lB w p1 (ps.map λp:Pt=>p.x))) q1 (.lst ((wn ps).map V.int)) q1=some (.lst ((wn ps).map V.int)):=bv
  walk_at "rd"
  refine⟨⟨_,aa.of bv⟩,?_⟩
  change oR _ _ _ _ _ (upd (upd H1 p1 (lB w p1 (ps.map λp:Pt=>p.x))) q1 (.lst ((wn ps).map V.int)))
  have s2:db H (upd (upd H1 p1 (lB w p1 (ps.map λp:Pt=>p.x))) q1 (.lst ((wn ps).map V.int))):=s2
  generalize upd (upd H1 p1 (lB w p1 (ps.map λp:Pt=>p.x))) q1 (.lst ((wn ps).map V.int))=H2 at*
  refine gU (xs:=(wn ps).map V.int) (λi σ H'=>∃v3 v4 v5 v6,σ=[some (.ref l),some (.int t),some (.int ((gf (((wn ps).take i).map (r8 ps t)):Nat):Int)),v3,v4,v5,v6]/\db H2 H')
   ⟨_,_,_,_,rfl,db.refl _⟩ (λi σ H' _⟨_,_,_,_,_,o⟩=>aa.of (o _ _ hX)) ?_ ?_
  .rintro i x σ H' hi ⟨v3,v4,v5,v6,rfl,sH⟩
   obtain⟨c,hc,rfl⟩:=Nl (H:=H) (l:=l) hi
   have hcm:c∈wn ps:=Tk hc
   have sA:=s2.trans sH
   have lO:=sA _ _ wE
   walk_at "rd"
   refine⟨⟨_,aa.of lO⟩,YS ps (λp=>decide (p.x=c)) (λp=>.int p.y) hlen.symm (by rw[hlen];exact bh h7) (aa.of lO) (λj x p H3 C N hx hp s3 hC hN=> ?_) λD2 H3 hD2 s3 h3=> ?_⟩
   .obtain⟨a,rfl,ha⟩:=hl.at wE hx hp
    refine bB (s3 _ _ (sA _ _ ha)) ⟨rfl,?_⟩
    walk_at "rd"
    refine⟨rfl,_,rfl,cW (λh=> ?_) (λh=> ?_)⟩
    .exact hC (decide_eq_true (V.int.inj (of_decide_eq_true h))) _ (db.refl _)
    .exact hN (decide_eq_false λe=>h (decide_eq_true (congrArg V.int e))) _ (db.refl _)
   refine⟨by decide,λu hu=> ?_⟩
   have s4:=s3.trans (cr (o:=.lst [.int t]) hu)
   generalize dE:(ps.filter λp=>decide (p.x=c)).map (λp=>p.y)=yy
   have iy:yy.length<=7:=by
    rw[<-dE,dL]
    exact Ch (iC ..) h7
   have adm:yy≠[]:=λe=>by
    obtain⟨p,hp,rfl⟩:=nw.mp (dI.mp hcm)
    have:p.y∈yy:=by rw[<-dE];exact nw.mpr ⟨p,dh.mpr ⟨hp,by simp⟩,rfl⟩
    rw[e]at this;cases this
   have h3':H3 D2=some (.lst (yy.map V.int)):=by rw[h3,<-dE,P6];rfl
   refine⟨D2,u,_,_,rfl,rfl,cr hu _ _ h3',bv,by rw[dL];exact TW (a8 (by simp;omega)),λr hr'=> ?_⟩
   have s5:=s4.trans (cr (o:=.lst (yy.map V.int++[.int t])) hr')
   have hI:IL (upd (upd H3 u (.lst [.int t])) r (.lst (yy.map V.int++[.int t]))) r (yy++[t]):=by
    unfold IL;rw[bv,GM];rfl
   generalize upd (upd H3 u (.lst [.int t])) r (.lst (yy.map V.int++[.int t]))=H5 at*
   walk_at "rd"
   refine DL hI (by simp) ?_
   walk_at "rd"
   refine wB hI (by simp) ?_
   walk_at "rd"
   rw[aaX t adm]
   refine⟨_,_,_,_,⟨?_,rfl,rfl,rfl,rfl⟩,sH.trans s5⟩
   have eb:r8 ps t c=(max 0 (cD yy-t)).toNat+(max 0 (t-cf yy)).toNat:=by unfold r8;rw[dE]
   rw[take_snoc hc,GM,HU,X5,eb]
   exact(mY _ _).symm
  .rintro σ H' ⟨v3,v4,v5,v6,rfl,sH⟩
   walk_at "rd"
   rw[dL,iK]
   exact k H' (s2.trans sH)
def HJ:Sp:=λvs H Q _=>∃l ps,vs=[.ref l]/\PL H l ps/\ps.length<=7/\ps≠[]/\∀H' p c t,db H H'->qu ps=some (c,t)->H' p=some (.tup [.int (c:Nat),.int t])->Q (.ref p) H'
theorem Sx{f:ac}{fd:on}(F:re K "best_trunk" "best_trunk" z5 f fd)(T:Txt mg Ad)(iS:Def P w K mg base "bounds" 1 nY vJ)
 (x4:Def P w K mg base "branches_length" 1 sZ F9):o0 P w K mg base ae 2 f fd uF HJ:=by
 have nd:=Hy.nd
 refine F.ok Hy (λvs H Q E h=> ?_) (λlm A outer s H vs Q E hr h=> ?_)
 .obtain⟨l,ps,rfl,_⟩:=h
  rfl
 .obtain⟨l,ps,rfl,hl,h7,bn,k⟩:=h
  obtain⟨us,wE,hlen⟩:=hl.lst
  refine⟨_,(ga (pS 1 nd (sK iS (hr.mono (by decide)) (am (pv 0) bi)))
   (ga (pS 2 nd (wp cj (ul (Ev K rfl) (pv 1) nb (λ_ _=>rfl)) (ul (Ev K rfl) (pv 1) nb (λ_ _=>rfl))))
   (jp (pi (FM (nX K rfl rfl (g_ hr)) (by rfl) T.dY eR (am (ao rfl nd (P7 K rfl (pv 0)) (own:=[("x",3),("t",4)]) (Re rfl) (λ_ _ _ _ _=>(aF K rfl (n:=2) rfl (Da (xz 3 nd) (Da (xz 4 nd) aG)) rfl rfl)) (λ_ _ _ _ _=>T0) (λ_ _ _ _ _=>(WP (am (wp bz (pv 2) (sK x4 (hr.mono (by decide)) (am (pv 0) (am (pv 4) bi)))) (am (pv 4) bi))))) bi)))))),?_⟩
  walk_at "rd"
  refine⟨l,ps,rfl,hl,h7,bn,λH1 b s1 hb=> ?_⟩
  walk_at "rd"
  refine Fa hb rfl (Fa hb rfl ?_)
  walk_at "rd"
  have hw:cD (ps.map λp=>p.x)-cf (ps.map λp=>p.x)=(((cD (ps.map λp=>p.x)-cf (ps.map λp=>p.x)).natAbs:Nat):Int):=by
   have:=Bm (l:=ps.map λp=>p.x)
   omega
  rw[hw]
  have hus1:=s1 _ _ wE
  refine⟨⟨_,aa.of hus1⟩,iV ps (λp=>[(qb ps p.y:Int),p.y]) hlen.symm (by rw[hlen];exact bh h7) (aa.of hus1) (λi x p H2 C hx hp s2 hC=> ?_) λD H2 hD s2 h2=> ?_⟩
  .obtain⟨a,rfl,ha⟩:=hl.at wE hx hp
   refine bB (s2 _ _ (s1 _ _ ha)) ⟨rfl,?_⟩
   walk_at "rd"
   refine⟨l,ps,p.y,rfl,TL.same (s1.trans s2) hl,h7,λH3 s3=> ?_⟩
   walk_at "rd"
   refine⟨by decide,λu hu=>hC u _ (s3.trans (cr hu)) ?_⟩
   rw[bv]
   show some (HO.tup [V.int _,V.int p.y])=some (HO.tup [V.int ((qb ps p.y:Nat):Int),V.int p.y])
   have e:qb ps p.y=(cD (ps.map λp=>p.x)-cf (ps.map λp=>p.x)).natAbs+gf ((wn ps).map (r8 ps p.y)):=rfl
   rw[e,mY]
  obtain⟨zs,z1,z2,z3⟩:=h2
  refine⟨D,zs,rfl,aa.of z1,z3,λe=> ?_,λz hz FL=> ?_⟩
  .rw[e]at z2
   exact bn (iF.mp z2.symm)
  have c_:z.2∈ps.map λp=>[(qb ps p.y:Int),p.y]:=by rw[<-z2];exact nw.mpr ⟨z,hz,rfl⟩
  obtain⟨p,hp,ep⟩:=nw.mp c_
  have iz:H2 z.1=some (.tup [.int (qb ps p.y:Int),.int p.y]):=by
   have e:=z3 z hz
   unfold PP at e
   rw[e,<-ep];rfl
  refine k H2 z.1 _ _ (s1.trans s2) ?_ iz
  unfold qu
  refine Ie _ (dM _) (dI.mpr (nw.mpr ⟨p,hp,rfl⟩)) λy hy=> ?_
  obtain⟨q,hq,rfl⟩:=nw.mp (dI.mp hy)
  have hy:[(qb ps q.y:Int),q.y]∈zs.map (·.2):=by rw[z2];exact nw.mpr ⟨q,hq,rfl⟩
  obtain⟨y,hy1,hy2⟩:=nw.mp hy
  have h:=FL y hy1
  rw[hy2,<-ep,HT.dq,HT.dq]at h
  split at h
  .rename_i e
   split at h
   .rename_i e2;exact .inr ⟨by omega,by omega⟩
   .have:=of_decide_eq_false h;exact .inr ⟨by omega,by omega⟩
  .have:=of_decide_eq_false h;exact .inl (by omega)
end
end Sq
end
section
namespace Sq
open Vbpcar (Pt)
noncomputable def pc(s:Nat):Nat:=(sw 6).countP λi=>s.testBit i
theorem CO:∀s<64,∀a∈P9 s,pc a<pc s/\pc (s-a)<pc s:=by decide+kernel
theorem wU:∀s<64,0<s->0<pc s/\pc s<=6:=by decide+kernel
theorem D':∀m≤6,pc (2 ^ m-1)=m:=by decide+kernel
theorem BM:∀s<64,(P9 s).Pairwise (·<·):=λs _=>Gh _ iB
section
variable(xs ys:List Int)(others:List Pt)
noncomputable def cN(s v:Nat):Nat:=((sw (ys.length*xs.length)).find? λu=>dN xs ys v u+mt (gt xs ys) others s u==jn (gt xs ys) others s v).getD 0
noncomputable def i_(s u:Nat):Nat:=((P9 s).find? λa=>jn (gt xs ys) others a u+jn (gt xs ys) others (s-a) u==mt (gt xs ys) others s u).getD 0
noncomputable def wI(ix:Nat->Nat):Nat->Nat->Nat->List (Nat×Nat)
 |0,_,_=>[]
 |k+1,s,v=>if(P9 s).isEmpty=true then[(v,ix (Vbpcar.bitOf s))]else
   (v,cN xs ys others s v)::(wI ix k (i_ xs ys others s (cN xs ys others s v)) (cN xs ys others s v)++wI ix k (s-i_ xs ys others s (cN xs ys others s v)) (cN xs ys others s v))
end
section
variable{xs ys:List Int}{others:List Pt}
theorem JM{α:Type}{f g:α->Bool}:∀{l:List α},(∀x∈l,f x=g x)->l.find? f=l.find? g
 |[],_=>rfl
 |a::l,h=>by
  rw[kG,kG,h a (by simp),JM λx hx=>h x (AT _ hx)]
theorem ve{l:List Nat}(hl:l.Pairwise (·<·)){c:Nat->Nat}{j:Nat}(hj:j∈l)(hm:∀i∈l,c j<c i\/(c j=c i/\j<=i)):l.find? (λi=>c i==fw (l.map c))=some j:=by
 have e:fw (l.map c)=c j:=MC (nw.mpr ⟨j,hj,rfl⟩) λy hy=>by
  obtain⟨i,hi,rfl⟩:=nw.mp hy
  rcases hm i hi with h|h<;>lia
 rw[e]
 clear e
 induction l with
 |nil=>cases hj
 |cons a l ih=>
  obtain⟨l1,l2⟩:=be.mp hl
  by_cases ha:a=j
  .subst ha
   rw[List.find?_cons_of_pos (by simp)]
  .have hj':j∈l:=(wl.mp hj).resolve_left λq=>ha q.symm
   have rc:=l1 j hj'
   have:¬c a=c j:=λq=>by
    rcases hm a (by simp)with h|h<;>lia
   rw[Ug (by simpa using this)]
   exact ih l2 hj' λi hi=>hm i (AT _ hi)
theorem Lx{l:List Nat}(hl:l.Pairwise (·<·))(bn:l≠[])(c:Nat->Nat):∃j∈l,∀i∈l,c j<c i\/(c j=c i/\j<=i):=by
 induction l with
 |nil=>exact absurd rfl bn
 |cons a l ih=>
  obtain⟨l1,l2⟩:=be.mp hl
  by_cases e:l=[]
  .subst e
   exact⟨a,by simp,λi hi=>by cases zn.mp hi;exact .inr ⟨rfl,nn _⟩⟩
  .obtain⟨j,hj,h⟩:=ih l2 e
   by_cases hc:c a<=c j
   .refine⟨a,by simp,λi hi=> ?_⟩
    rcases wl.mp hi with rfl|hi
    .exact .inr ⟨rfl,nn _⟩
    .have:=l1 i hi
     rcases h i hi with h'|h'
     .exact .inl (by lia)
     .rcases mH hc with q|q
      .exact .inl (by lia)
      .exact .inr ⟨by lia,by lia⟩
   .refine⟨j,AT _ hj,λi hi=> ?_⟩
    rcases wl.mp hi with rfl|hi
    .exact .inl (by lia)
    .exact h i hi
theorem Nm{s v:Nat}(hs:s<2 ^ others.length)(h0:0<s)(bn:P9 s≠[])(hv:v<ys.length*xs.length):
 jn (gt xs ys) others s v=fw ((sw (ys.length*xs.length)).map λu=>dN xs ys v u+mt (gt xs ys) others s u):=by
 rw[Dr (gt xs ys) others hs h0 bn (eA xs ys hv),cF]
 congr 1
 refine fY λu hu=> ?_
 unfold dN
 rw[eu hv]
theorem Z4{s v j:Nat}(hs:s<2 ^ others.length)(h0:0<s)(bn:P9 s≠[])(hv:v<ys.length*xs.length)(hj:j<ys.length*xs.length)
 (hm:∀i<ys.length*xs.length,dN xs ys v j+mt (gt xs ys) others s j<dN xs ys v i+mt (gt xs ys) others s i\/(dN xs ys v j+mt (gt xs ys) others s j=dN xs ys v i+mt (gt xs ys) others s i/\j<=i)):cN xs ys others s v=j:=by
 unfold cN
 rw[Nm hs h0 bn hv,ve (c:=λu=>dN xs ys v u+mt (gt xs ys) others s u) iB (Pi.mpr hj) λi hi=>hm i (Pi.mp hi)]
 rfl
theorem wu{s v:Nat}(hs:s<2 ^ others.length)(h0:0<s)(bn:P9 s≠[])(hv:v<ys.length*xs.length):
 ∃j,j<ys.length*xs.length/\cN xs ys others s v=j/\(sw (ys.length*xs.length)).find? (λu=>dN xs ys v u+mt (gt xs ys) others s u==jn (gt xs ys) others s v)=some j:=by
 obtain⟨j,hj,hm⟩:=Lx (l:=sw (ys.length*xs.length)) iB (λe=>by have:=congrArg dm e;simp at this;lia) (λu=>dN xs ys v u+mt (gt xs ys) others s u)
 have e:=ve (c:=λu=>dN xs ys v u+mt (gt xs ys) others s u) iB hj hm
 rw[<-Nm hs h0 bn hv]at e
 exact⟨j,Pi.mp hj,by unfold cN;rw[e];rfl,e⟩
theorem Z3{s u a:Nat}(h64:s<64)(ha:a∈P9 s)
 (hm:∀b∈P9 s,jn (gt xs ys) others a u+jn (gt xs ys) others (s-a) u<jn (gt xs ys) others b u+jn (gt xs ys) others (s-b) u\/(jn (gt xs ys) others a u+jn (gt xs ys) others (s-a) u=jn (gt xs ys) others b u+jn (gt xs ys) others (s-b) u/\a<=b)):i_ xs ys others s u=a:=by
 unfold i_ mt
 rw[ve (c:=λa=>jn (gt xs ys) others a u+jn (gt xs ys) others (s-a) u) (BM s h64) ha hm]
 rfl
theorem wt{s:Nat}(u:Nat)(h64:s<64)(bn:P9 s≠[]):
 ∃a∈P9 s,i_ xs ys others s u=a/\(P9 s).find? (λa=>jn (gt xs ys) others a u+jn (gt xs ys) others (s-a) u==mt (gt xs ys) others s u)=some a:=by
 obtain⟨a,ha,hm⟩:=Lx (BM s h64) bn (λa=>jn (gt xs ys) others a u+jn (gt xs ys) others (s-a) u)
 have e:=ve (c:=λa=>jn (gt xs ys) others a u+jn (gt xs ys) others (s-a) u) (BM s h64) ha hm
 exact⟨a,ha,by unfold i_ mt;rw[e];rfl,e⟩
theorem DR(h6:others.length<=6)(ix:Nat->Nat)(dD:∀i<others.length,ix i<ys.length*xs.length/\(gt xs ys)[ix i]? =others[i]?):∀(k s v:Nat),0<s->s<2 ^ others.length->v<ys.length*xs.length->pc s<=k->
 Ld (gt xs ys).toArray others.toArray (fN (gt xs ys) others) k s v=(wI xs ys others ix k s v).map λz=>((gt xs ys).getD z.1 ⟨0,0⟩,(gt xs ys).getD z.2 ⟨0,0⟩)
 |0,s,v,h0,hs,_,hp=>by
  have h64:2 ^ others.length<=2 ^ 6:=bM (by decide) h6
  have:=(wU s (by lia) h0).1
  lia
 |k+1,s,v,h0,hs,hv,hp=>by
  have h64:2 ^ others.length<=2 ^ 6:=bM (by decide) h6
  have FP:(gt xs ys).toArray.getD v ⟨0,0⟩=(gt xs ys).getD v ⟨0,0⟩:=by
   rw[fT,kn,Sc]
  unfold Ld wI
  by_cases bn:P9 s=[]
  .rw[if_pos (by rw[bn];rfl),if_pos (by rw[bn];rfl)]
   obtain⟨i,hi,rfl⟩:=BN s (by lia) h0 bn
   have a_:i<others.length:=by
    rcases jE i others.length with h|h
    .exact h
    .have:=bM (n:=2) (by decide) h
     lia
   obtain⟨e1,e2⟩:=dD i a_
   rw[(qC i hi).2,HU,FP]
   congr 2
   rw[fT,kn,Sc,e2]
  .rw[if_neg (by rw[mS];exact bn),if_neg (by rw[mS];exact bn)]
   obtain⟨j,hj,ej,fj⟩:=wu hs h0 bn hv
   obtain⟨a,ha,ea,fa⟩:=wt (xs:=xs) (ys:=ys) (others:=others) j (by lia) bn
   obtain⟨a0,a1⟩:=iR ha
   obtain⟨p1,p2⟩:=CO s (by lia) a ha
   have hsz:(gt xs ys).toArray.size=ys.length*xs.length:=by rw[XV,cF]
   have hlen:(gt xs ys).length=ys.length*xs.length:=cF xs ys
   have Pu:∀u<ys.length*xs.length,(kL (fN (gt xs ys) others) (ys.length*xs.length) s).getD u 0=mt (gt xs ys) others s u:=λu hu=>by
    have:=JQ (gt xs ys) others (s:=s) (u:=u) (by rw[hlen];exact hu)
    rwa [hlen]at this
   have j8:∀u<ys.length*xs.length,∀d:Pt,(gt xs ys).toArray.getD u d=(gt xs ys).getD u ⟨0,0⟩:=λu hu d=>by
    rw[fT,kn,Sc,wS (by rw[hlen];exact hu)]
    rfl
   simp only[hsz]
   have f1:(sw (ys.length*xs.length)).find? (λu=>aj ((gt xs ys).toArray.getD v ⟨0,0⟩) ((gt xs ys).toArray.getD u ((gt xs ys).toArray.getD v ⟨0,0⟩))+(kL (fN (gt xs ys) others) (ys.length*xs.length) s).getD u 0==(fN (gt xs ys) others).get s v)=some j:=by
    rw[<-fj]
    refine JM λu hu=> ?_
    have hu:=Pi.mp hu
    rw[Pu u hu,j8 u hu,FP]
    rfl
   rw[f1]
   simp only
   have f2:(P9 s).find? (λa=>(fN (gt xs ys) others).get a j+(fN (gt xs ys) others).get (s-a) j==(kL (fN (gt xs ys) others) (ys.length*xs.length) s).getD j 0)=some a:=by
    rw[Pu j hj]
    exact fa
   rw[f2]
   simp only
   rw[DR h6 ix dD k a j a0 (by lia) hj (by lia),DR h6 ix dD k (s-a) j (by lia) (by lia) hj (by lia),ej,ea,FS,GM,j8 j hj,FP]
theorem qW(h6:others.length<=6)(ix:Nat->Nat):∀(k k' s v:Nat),0<s->s<2 ^ others.length->v<ys.length*xs.length->pc s<=k->pc s<=k'->wI xs ys others ix k s v=wI xs ys others ix k' s v
 |0,_,s,v,h0,hs,_,hp,_=>by
  have h64:2 ^ others.length<=2 ^ 6:=bM (by decide) h6
  have:=(wU s (by lia) h0).1
  lia
 |_,0,s,v,h0,hs,_,_,hp=>by
  have h64:2 ^ others.length<=2 ^ 6:=bM (by decide) h6
  have:=(wU s (by lia) h0).1
  lia
 |k+1,k'+1,s,v,h0,hs,hv,hp,hp'=>by
  have h64:2 ^ others.length<=2 ^ 6:=bM (by decide) h6
  unfold wI
  by_cases bn:P9 s=[]
  .rw[if_pos (by rw[bn];rfl),if_pos (by rw[bn];rfl)]
  .rw[if_neg (by rw[mS];exact bn),if_neg (by rw[mS];exact bn)]
   obtain⟨j,hj,ej,_⟩:=wu hs h0 bn hv
   obtain⟨a,ha,ea,_⟩:=wt (xs:=xs) (ys:=ys) (others:=others) j (by lia) bn
   obtain⟨a0,a1⟩:=iR ha
   obtain⟨p1,p2⟩:=CO s (by lia) a ha
   rw[ej,ea,qW h6 ix k k' a j a0 (by lia) hj (by lia) (by lia),qW h6 ix k k' (s-a) j (by lia) (by lia) hj (by lia) (by lia)]
theorem EJ(h6:others.length<=6)(ix:Nat->Nat)(dD:∀i<others.length,ix i<ys.length*xs.length):∀(k s v:Nat),0<s->s<2 ^ others.length->v<ys.length*xs.length->∀z∈wI xs ys others ix k s v,z.1<ys.length*xs.length/\z.2<ys.length*xs.length
 |0,s,v,_,_,_,z,hz=>by cases hz
 |k+1,s,v,h0,hs,hv,z,hz=>by
  have h64:2 ^ others.length<=2 ^ 6:=bM (by decide) h6
  unfold wI at hz
  by_cases bn:P9 s=[]
  .rw[if_pos (by rw[bn];rfl)]at hz
   cases zn.mp hz
   obtain⟨i,hi,rfl⟩:=BN s (by lia) h0 bn
   have a_:i<others.length:=by
    rcases jE i others.length with h|h
    .exact h
    .have:=bM (n:=2) (by decide) h
     lia
   rw[(qC i hi).2]
   exact⟨hv,dD i a_⟩
  .rw[if_neg (by rw[mS];exact bn)]at hz
   obtain⟨j,hj,ej,_⟩:=wu hs h0 bn hv
   obtain⟨a,ha,ea,_⟩:=wt (xs:=xs) (ys:=ys) (others:=others) j (by lia) bn
   obtain⟨a0,a1⟩:=iR ha
   rw[ej,ea]at hz
   rcases wl.mp hz with rfl|hz
   .exact⟨hv,hj⟩
   .rcases NE.mp hz with hz|hz
    .exact EJ h6 ix dD k a j a0 (by lia) hj z hz
    .exact EJ h6 ix dD k (s-a) j (by lia) (by lia) hj z hz
end
end Sq
end
section
namespace Sq
open Vbpcar (Pt)
noncomputable def LI(w n:Nat):List (Nat×Nat):=(sw n).flatMap λi=>(if i % w+1<w then[(i,i+1)]else[])++(if i+w<n then[(i,i+w)]else[])
noncomputable def gD(xs ys:List Int)(z:Nat×Nat):Pt×Pt:=((gt xs ys).getD z.1 ⟨0,0⟩,(gt xs ys).getD z.2 ⟨0,0⟩)
theorem D8{w n:Nat}{e:Nat×Nat}:e∈LI w n↔e.1<n/\((e.2=e.1+1/\e.1 % w+1<w)\/(e.2=e.1+w/\e.1+w<n)):=by
 unfold LI
 rw[mT]
 constructor
 .rintro⟨i,hi,he⟩
  have hi:=Pi.mp hi
  rcases NE.mp he with he|he
  .split at he
   .rename_i h
    cases zn.mp he
    exact⟨hi,.inl ⟨rfl,h⟩⟩
   .cases he
  .split at he
   .rename_i h
    cases zn.mp he
    exact⟨hi,.inr ⟨rfl,h⟩⟩
   .cases he
 .rintro⟨h1,h2⟩
  refine⟨e.1,Pi.mpr h1,NE.mpr ?_⟩
  obtain⟨i,j⟩:=e
  rcases h2 with⟨h2,h3⟩|⟨h2,h3⟩
  .have h2:j=i+1:=h2
   subst h2
   exact .inl (by rw[if_pos h3];simp)
  .have h2:j=i+w:=h2
   subst h2
   exact .inr (by rw[if_pos h3];simp)
def jb(x y:Nat×Nat):Prop:=x.1<y.1\/(x.1=y.1/\x.2<y.2)
theorem aaR(w n:Nat):(LI w n).Pairwise jb:=by
 unfold LI
 rw[Vk]
 refine⟨λi _=> ?_,?_⟩
 .split<;>split<;>simp[jb]
  lia
 .refine iB.imp λ{i j}d8 x hx y hy=>.inl ?_
  have h1:x.1=i:=by
   rcases NE.mp hx with h|h<;>(split at h<;>first|(cases zn.mp h;rfl)|cases h)
  have h2:y.1=j:=by
   rcases NE.mp hy with h|h<;>(split at h<;>first|(cases zn.mp h;rfl)|cases h)
  lia
theorem Ly:∀{l m:List (Nat×Nat)},l.Pairwise jb->m.Pairwise jb->(∀y,y∈l↔y∈m)->l=m
 |[],[],_,_,_=>rfl
 |[],b::m,_,_,h=>nomatch (h b).mpr (Go ..)
 |a::l,[],_,_,h=>nomatch (h a).mp (Go ..)
 |a::l,b::m,hl,hm,h=>by
  obtain⟨l1,l2⟩:=be.mp hl
  obtain⟨m1,m2⟩:=be.mp hm
  have e:a=b:=by
   rcases wl.mp ((h a).mp (Go ..))with e|e
   .exact e
   .rcases wl.mp ((h b).mpr (Go ..))with e'|e'
    .exact e'.symm
    .have:=m1 a e;have:=l1 b e';unfold jb at*;lia
  subst e
  refine congrArg _ (Ly l2 m2 λy=>⟨λhy=> ?_,λhy=> ?_⟩)
  .rcases wl.mp ((h y).mp (AT _ hy))with e|e
   .have:=l1 y hy;subst e;unfold jb at this;lia
   .exact e
  .rcases wl.mp ((h y).mpr (AT _ hy))with e|e
   .have:=m1 y hy;subst e;unfold jb at this;lia
   .exact e
theorem B9:∀{l:List Int}{c:Nat},l.Pairwise (·<·)->c<l.length->l.find? (λx=>decide (l.getD c 0<x))=l[c+1]?
 |[],c,_,h=>by simp at h
 |[a],c,_,h=>by
  have:c=0:=by simpa using h
  subst this
  simp
 |a::b::t,0,hl,_=>by
  have cx:a<b:=(be.mp hl).1 b (by simp)
  have h1:¬(a:Int)<a:=by lia
  simp[cx]
 |a::b::t,c+1,hl,h=>by
  obtain⟨l1,l2⟩:=be.mp hl
  have ih:=B9 (l:=b::t) (c:=c) l2 (by simpa using h)
  have e:(a::b::t).getD (c+1) 0=(b::t).getD c 0:=rfl
  have hm:(b::t).getD c 0∈b::t:=by
   rw[Sc,wS (by simpa using h)]
   exact f6 _
  have:=l1 _ hm
  rw[e,Ug (by rw[decide_eq_true_iff];lia),ih]
  rfl
section
variable{xs ys:List Int}
theorem YJ(xs ys:List Int):gt xs ys=(sw (ys.length*xs.length)).map λi=>(gt xs ys).getD i ⟨0,0⟩:=by
 apply uj
 .simp[cF]
 .intro i h1 h2
  rw[zC,tL,Sc,wS h1]
  rfl
theorem lb{i:Nat}(h:i<ys.length*xs.length):∃r c,r<ys.length/\c<xs.length/\i=r*xs.length+c:=by
 have h0:0<xs.length:=by
  rcases jw xs.length with e|e
  .rw[e]at h;simp at h
  .exact e
 exact⟨i / xs.length,i % xs.length,WO (by rw[gP];exact h),jI _ h0,(Af i xs.length).symm⟩
theorem eN{r c:Nat}(hr:r<ys.length)(hc:c<xs.length):(gt xs ys).getD (r*xs.length+c) ⟨0,0⟩=⟨xs.getD c 0,ys.getD r 0⟩:=by
 obtain⟨h1,h2,h3⟩:=cell hc hr
 rw[eu h1,h2,h3]
theorem rn{r c:Nat}:r*xs.length+c+xs.length=(r+1)*xs.length+c:=by rw[jF];lia
theorem xf{r c:Nat}(hc:c<xs.length):r*xs.length+c+xs.length<ys.length*xs.length↔r+1<ys.length:=by
 rw[rn]
 constructor
 .intro h
  rcases jE (r+1) ys.length with q|q
  .exact q
  .have:=gF xs.length q
   lia
 .exact λh=>(cell hc h).1
theorem YV(hx:xs.Pairwise (·<·))(hy:ys.Pairwise (·<·)):((gt xs ys).flatMap λp=>(match xs.find? λx=>decide (p.x<x)with|some x=>[(p,(⟨x,p.y⟩:Pt))]|none=>[])++(match ys.find? λy=>decide (p.y<y)with|some y=>[(p,(⟨p.x,y⟩:Pt))]|none=>[]))=(LI xs.length (ys.length*xs.length)).map (gD xs ys):=by
 conv=>lhs;rw[YJ xs ys]
 unfold LI
 rw[Jp,List.map_flatMap]
 have key:∀{l:List Nat}{f g:Nat->List (Pt×Pt)},(∀i∈l,f i=g i)->l.flatMap f=l.flatMap g:=λ{l f g}h=>by
  induction l with
  |nil=>rfl
  |cons a l ih=>rw[iH,iH,h a (by simp),ih λi hi=>h i (AT _ hi)]
 refine key λi hi=> ?_
 obtain⟨r,c,hr,hc,rfl⟩:=lb (Pi.mp hi)
 obtain⟨h1,h2,h3⟩:=cell hc hr
 rw[eN hr hc,GM,B9 hx hc,B9 hy hr]
 congr 1
 .by_cases hc1:c+1<xs.length
  .rw[if_pos (by rw[h2];exact hc1),wS hc1]
   simp only[FS,gO]
   unfold gD
   rw[eN hr hc,show r*xs.length+c+1=r*xs.length+(c+1) by lia,eN hr hc1,Sc (l:=xs) (i:=c+1),wS hc1]
   rfl
  .rw[if_neg (by rw[h2];exact hc1),GX (by lia)]
   rfl
 .by_cases hr1:r+1<ys.length
  .rw[if_pos ((xf hc).mpr hr1),wS hr1]
   simp only[FS,gO]
   unfold gD
   rw[eN hr hc,rn,eN hr1 hc,Sc (l:=ys) (i:=r+1),wS hr1]
   rfl
  .rw[if_neg (λq=>hr1 ((xf hc).mp q)),GX (by lia)]
   rfl
theorem Kx{w ra ca rb cb:Nat}(gw:ca<w)(fc:cb<w){e:Nat×Nat}:e∈dX w (ra*w+ca) (rb*w+cb)↔
 (∃c,min ca cb<=c/\c<max ca cb/\e=(ra*w+c,ra*w+c+1))\/(∃r,min ra rb<=r/\r<max ra rb/\e=(r*w+cb,r*w+cb+w)):=by
 have hw:0<w:=by lia
 have ma:(ra*w+ca) % w=ca:=by rw[gP,uL];exact p9 gw
 have mb:(rb*w+cb) % w=cb:=by rw[gP,uL];exact p9 fc
 have Ov:P1 w (ra*w+ca) (rb*w+cb)=ra*w+cb:=by unfold P1;rw[ma,mb];lia
 unfold dX
 rw[Ov,NE,nw,nw]
 clear Ov ma mb
 have e1:min (ra*w+ca) (ra*w+cb)=ra*w+min ca cb:=Nat.add_min_add_left ..
 have e2:max (ra*w+ca) (ra*w+cb)=ra*w+max ca cb:=Nat.add_max_add_left ..
 rw[e1,e2]
 clear e1 e2
 have e3:min (ra*w+cb) (rb*w+cb)=min ra rb*w+cb:=by
  rcases qE ra rb with h|h
  .have:=gF w h
   rw[kJ h];lia
  .have:=gF w h
   rw[Js h];lia
 have e4:max (ra*w+cb) (rb*w+cb)=max ra rb*w+cb:=by
  rcases qE ra rb with h|h
  .have:=gF w h
   rw[Nat.max_eq_right h];lia
  .have:=gF w h
   rw[Nat.max_eq_left h];lia
 rw[e3,e4]
 clear e3 e4
 have e5:(max ra rb*w+cb-(min ra rb*w+cb)) / w=max ra rb-min ra rb:=by
  have:max ra rb*w+cb-(min ra rb*w+cb)=(max ra rb-min ra rb)*w:=by rw[Cv];lia
  rw[this,Yk _ hw]
 rw[e5]
 clear e5
 have hm:min ca cb<=max ca cb:=Ch (J6 ..) (Nat.le_max_left ..)
 have hn:min ra rb<=max ra rb:=Ch (J6 ..) (Nat.le_max_left ..)
 generalize min ca cb=mc,max ca cb=nc,min ra rb=mr,max ra rb=nr at*
 constructor
 .rintro(⟨i,hi,rfl⟩|⟨k,hk,rfl⟩)
  .rw[kx]at hi
   refine .inl ⟨i-ra*w,by lia,by lia,?_⟩
   rw[show ra*w+(i-ra*w)=i by lia]
  .have hk:=Pi.mp hk
   refine .inr ⟨mr+k,by lia,by lia,?_⟩
   rw[Nat.add_mul]
   congr 1<;>lia
 .rintro(⟨c,h1,h2,rfl⟩|⟨r,h1,h2,rfl⟩)
  .exact .inl ⟨ra*w+c,kx.mpr (by lia),rfl⟩
  .refine .inr ⟨r-mr,Pi.mpr (by lia),?_⟩
   have:mr*w+(r-mr)*w=r*w:=by rw[<-Nat.add_mul];congr 1;lia
   congr 1<;>lia
theorem Lj{w r c r' c':Nat}(hc:c<w)(hc':c'<w)(h:r*w+c=r'*w+c'):r=r'/\c=c':=by
 have m1:(r*w+c) % w=c:=by rw[gP,uL];exact p9 hc
 have m2:(r'*w+c') % w=c':=by rw[gP,uL];exact p9 hc'
 have pq:c=c':=by rw[<-m1,<-m2,h]
 have d1:(r*w+c) / w=r:=by rw[gP,As (by lia),p8 hc,ft]
 have d2:(r'*w+c') / w=r':=by rw[gP,As (by lia),p8 hc',ft]
 exact⟨by rw[<-d1,<-d2,h],pq⟩
theorem YU{a b:Nat}(ha:a<ys.length*xs.length)(hb:b<ys.length*xs.length){e:Nat×Nat}(he:e∈dX xs.length a b):e∈LI xs.length (ys.length*xs.length):=by
 obtain⟨ra,ca,mn,gw,rfl⟩:=lb ha
 obtain⟨rb,cb,sh,fc,rfl⟩:=lb hb
 rw[D8]
 rcases(Kx gw fc).mp he with⟨c,h1,h2,rfl⟩|⟨r,h1,h2,rfl⟩
 .have hc:c+1<xs.length:=by lia
  obtain⟨g1,g2,g3⟩:=cell (show c<xs.length by lia) mn
  exact⟨g1,.inl ⟨rfl,by show(ra*xs.length+c) % xs.length+1<_;rw[g2];exact hc⟩⟩
 .have hr:r+1<ys.length:=by lia
  exact⟨(cell fc (by lia)).1,.inr ⟨rfl,(xf fc).mpr hr⟩⟩
theorem lt_iff{l:List Int}(h:l.Pairwise (·<·)){i j:Nat}(hi:i<l.length)(hj:j<l.length):l.getD i 0<=l.getD j 0↔i<=j:=by
 constructor
 .intro q
  rcases jE j i with e|e
  .have:=Dx h e hi;lia
  .exact e
 .exact λq=>iX h q hj
theorem eq_iff{l:List Int}(h:l.Pairwise (·<·)){i j:Nat}(hi:i<l.length)(hj:j<l.length):l.getD i 0=l.getD j 0↔i=j:=by
 constructor
 .intro q
  have h1:=(lt_iff h hi hj).mp (by lia)
  have h2:=(lt_iff h hj hi).mp (by lia)
  lia
 .exact λq=>by rw[q]
theorem Nu{l:List Int}(h:l.Pairwise (·<·)){i j k:Nat}(hi:i<l.length)(hj:j<l.length)(hk:k<l.length):min (l.getD i 0) (l.getD j 0)<=l.getD k 0↔min i j<=k:=by
 have a:=lt_iff h hi hk
 have b:=lt_iff h hj hk
 lia
theorem Nv{l:List Int}(h:l.Pairwise (·<·)){i j k:Nat}(hi:i<l.length)(hj:j<l.length)(hk:k<l.length):l.getD k 0<=max (l.getD i 0) (l.getD j 0)↔k<=max i j:=by
 have a:=lt_iff h hk hi
 have b:=lt_iff h hk hj
 lia
theorem KA(hx:xs.Pairwise (·<·))(hy:ys.Pairwise (·<·)){a b:Nat}(ha:a<ys.length*xs.length)(hb:b<ys.length*xs.length){e:Nat×Nat}(he:e∈LI xs.length (ys.length*xs.length)):
 BR (gD xs ys (a,b)) (gD xs ys e)=true↔e∈dX xs.length a b:=by
 obtain⟨ra,ca,mn,gw,rfl⟩:=lb ha
 obtain⟨rb,cb,sh,fc,rfl⟩:=lb hb
 obtain⟨i,j⟩:=e
 obtain⟨h1,h2⟩:=D8.mp he
 have h1:i<ys.length*xs.length:=h1
 obtain⟨r,c,hr,hc,rfl⟩:=lb h1
 obtain⟨g1,g2,g3⟩:=cell hc hr
 rw[Kx gw fc]
 unfold gD BR
 rcases h2 with⟨h2,h3⟩|⟨h2,h3⟩
 .have h2:j=r*xs.length+c+1:=h2
  have h4:c+1<xs.length:=by
   have h3:(r*xs.length+c) % xs.length+1<xs.length:=h3
   rwa [g2]at h3
  subst h2
  simp only
  rw[eN hr hc,show r*xs.length+c+1=r*xs.length+(c+1) by lia,eN hr h4,eN mn gw,eN sh fc]
  simp only[if_true]
  rw[decide_eq_true_iff,eq_iff hy mn hr,Nu hx gw fc hc,Nv hx gw fc h4]
  constructor
  .rintro⟨q1,q2,q3⟩
   subst q1
   exact .inl ⟨c,q2,q3,by rw[Nat.add_assoc]⟩
  .rintro(⟨c',q1,q2,q3⟩|⟨r',q1,q2,q3⟩)
   .have e1:=congrArg DY q3
    obtain⟨e2,e3⟩:=Lj (w:=xs.length) hc (by lia) e1
    subst e2 e3
    exact⟨rfl,q1,q2⟩
   .have e1:=congrArg DY q3
    have e2:=congrArg Prod.snd q3
    simp only at e1 e2
    lia
 .have h2:j=r*xs.length+c+xs.length:=h2
  subst h2
  have hr1:r+1<ys.length:=(xf hc).mp h3
  simp only
  rw[eN hr hc,rn,eN hr1 hc,eN mn gw,eN sh fc]
  have rc:=Dx hy (show r<r+1 by lia) hr1
  rw[if_neg (show ¬(⟨xs.getD c 0,ys.getD r 0⟩:Pt).y=(⟨xs.getD c 0,ys.getD (r+1) 0⟩:Pt).y by show ¬ys.getD r 0=ys.getD (r+1) 0;lia)]
  simp only
  rw[decide_eq_true_iff,eq_iff hx fc hc,Nu hy mn sh hr,Nv hy mn sh hr1]
  constructor
  .rintro⟨q1,q2,q3⟩
   subst q1
   exact .inr ⟨r,q2,q3,by rw[<-rn]⟩
  .rintro(⟨c',q1,q2,q3⟩|⟨r',q1,q2,q3⟩)
   .have e1:=congrArg DY q3
    have e2:=congrArg Prod.snd q3
    simp only at e1 e2
    rw[<-rn]at e2
    lia
   .have e1:=congrArg DY q3
    obtain⟨e2,e3⟩:=Lj (w:=xs.length) hc fc e1
    subst e2 e3
    exact⟨rfl,q1,q2⟩
end
end Sq
end
section
namespace Sq
open PySem PySem.Spec PyProof.Rows L2
open Vbpcar (Pt)
theorem Ky{K:ge}{l:List Nat}{c:Nat->Nat}{H:Hp}{p:ac}{Q:VK}(bn:l≠[])(hT:TL H p (l.map λi=>GE (c i) i))
 (q:∀b j,j∈l->(∀i∈l,c j<c i\/(c j=c i/\j<=i))->H b=some (.tup [.int (c j:Nat),.int (j:Nat)])->Q (.ref b) H):w_ K [.ref p] H Q:=by
 obtain⟨zs,z1,z2,z3⟩:=hT
 refine⟨p,zs,rfl,aa.of z1,z3,λe=> ?_,λz hz hm=> ?_⟩
 .rw[e]at z2
  exact bn (iF.mp z2.symm)
 .have c_:z.2∈l.map λi=>GE (c i) i:=by rw[<-z2];exact nw.mpr ⟨z,hz,rfl⟩
  obtain⟨j,hj,ej⟩:=nw.mp c_
  refine q z.1 j hj (λi hi=> ?_) ?_
  .have hy:GE (c i) i∈zs.map (·.2):=by rw[z2];exact nw.mpr ⟨i,hi,rfl⟩
   obtain⟨y,hy1,hy2⟩:=nw.mp hy
   have h:=hm y hy1
   rw[hy2,<-ej]at h
   unfold GE at h
   rw[HT.dq,HT.dq]at h
   split at h
   .rename_i e
    split at h
    .rename_i e2;exact .inr ⟨by lia,by lia⟩
    .have:=of_decide_eq_false h;exact .inr ⟨by lia,by lia⟩
   .have:=of_decide_eq_false h;exact .inl (by lia)
  .have e:=z3 z hz
   unfold PP at e
   rw[e,<-ej];rfl
section
variable{P:lw}{w:li}{K:ge}{mg:Str->Option al}{base:io}{Ad:aV}
def HK(CT CG:ac):Sp:=λvs H Q _=>∃t xs ys p0 others g e j p s v,vs=[.ref t,.int (s:Nat),.int (v:Nat)]/\lr CT CG H t xs ys p0 others g e j p/\xs.length<=7/\ys.length<=7/\0<s/\s<2 ^ others.length/\P9 s≠[]/\v<ys.length*xs.length/\
 ∀H',db H H'->Q (.int (cN xs ys others s v:Nat)) H'
theorem Sy{f:ac}{fd:on}(F:re K "first_node" "first_node" z6 f fd)(T:Txt mg Ad)(cg:fO K Ad.Grid)(ct:ik K Ad.Table)(bc:Def P w K mg base "distance" 1 gh iO):
 o0 P w K mg base ae 2 f fd uG (HK Ad.Table Ad.Grid):=by
 have nd:=Hz.nd
 refine F.ok Hz (λvs H Q E h=> ?_) (λlm A outer s H vs Q E hr h=> ?_)
 .obtain⟨t,xs,ys,p0,others,g,e,j,p,s,v,rfl,_⟩:=h
  rfl
 .obtain⟨t,xs,ys,p0,others,g,e,j,p,s,v,rfl,hF,hx7,hy7,h0,hs,bn,hv,k⟩:=h
  have h49:ys.length*xs.length<=7*7:=eh hy7 hx7
  obtain⟨dx,fs,ht,lG,lR,lE,lW,lJ,lP,⟨dg,fg,l,hg,lWg,lNg,hP⟩,hE⟩:=hF.bb
  obtain⟨us,wE,Wp⟩:=hP.lst
  rw[cF]at Wp
  obtain⟨r,gr,hr'⟩:=hF.P_.get (s:=s) ⟨h0,hs,bn⟩
  obtain⟨b1,e1,f1⟩:=hP.get wE (eA xs ys hv)
  refine⟨_,(ga (pS 3 nd (Do K rfl (Do K rfl (pv 0) rfl) rfl))
   (ga (pS 4 nd (iY (bU hr) (Do K rfl (pv 0) rfl) (pv 1) (λ_ _=>rfl)))
   (jp (pi (ul (bf K rfl) (FM (nX K rfl rfl (g_ hr)) (by rfl) T.dY eR (am (ao rfl nd (nQ rfl T.cH (am (FM (aW K rfl) (by rfl) T.aJ aZ (am (pv 3) bi)) bi)) (own:=[("u",5)]) (Re rfl) (λ_ _ _ _ _=>(xz 5 nd)) (λ_ _ _ _ _=>T0) (λ_ _ _ _ _=>(WP (am (wp bz (sK bc (hr.mono (by decide)) (am (ul (Ev K rfl) (pv 3) (pv 2) (λ_ _=>rfl)) (am (ul (Ev K rfl) (pv 3) (pv 5) (λ_ _=>rfl)) bi))) (ul (Ev K rfl) (pv 4) (pv 5) (λ_ _=>rfl))) (am (pv 5) bi))))) bi)) nb (λ_ _=>rfl)))))),?_⟩
  walk_at "rd"
  refine⟨Ad.Table,dx,fs,ht,ct.cl,ct.nG,_,lG,g,rfl,Ad.Grid,dg,fg,hg,cg.cl,cg.nN,_,lNg,Ad.Table,dx,fs,ht,ct.cl,ct.nP,_,lP,p,rfl,_,gr,l,rfl,us,.inl (aa.of wE),?_⟩
  walk_at "rd"
  refine⟨by lia,by lia,k6 (sw (ys.length*xs.length)) (λu=>GE (dN xs ys v u+mt (gt xs ys) others s u) u) ?_ ?_ k_ (λi x u H2 C2 hx hu s2 hC=> ?_) λD H2 hD s2 h2=> ?_⟩
  .rw[dL,aI,aI,Wp];rfl
  .rw[dL,aI];exact a8 (by lia)
  .obtain⟨rfl,hi⟩:=qM hu
   cases oz hx
   obtain⟨b2,e2,f2⟩:=hP.get wE (eA xs ys hi)
   walk_at "rd"
   refine Fa (s2 _ _ wE) (at_of rfl e1) (Fa (s2 _ _ wE) (at_of (by lia) e2) ⟨b1,b2,_,_,rfl,s2 _ _ f1,s2 _ _ f2,Fa (s2 _ _ hr') (at_of (by lia) (nM hi)) ?_⟩)
   walk_at "rd"
   refine⟨by decide,λc hc=>hC c _ (cr hc) ?_⟩
   rw[bv]
   show some (HO.tup [V.int (((aj _ _:Nat):Int)+((mt (gt xs ys) others s u:Nat):Int)),V.int (0+(u:Int))])=some (HO.tup [V.int ((dN xs ys v u+mt (gt xs ys) others s u:Nat):Int),V.int (u:Int)])
   unfold dN
   rw[eu hv,eu hi,mY,Int.zero_add]
  .refine Ky (c:=λu=>dN xs ys v u+mt (gt xs ys) others s u) (λq=>by have:=congrArg dm q;simp at this;lia) h2 λb j hj hm hb=>aO hb rfl ?_
   rw[<-Z4 hs h0 bn hv (Pi.mp hj) λi hi=>hm i (Pi.mpr hi)]
   exact k H2 s2
def HL(CT CG:ac):Sp:=λvs H Q _=>∃t xs ys p0 others g e j p s u,vs=[.ref t,.int (s:Nat),.int (u:Nat)]/\lr CT CG H t xs ys p0 others g e j p/\others.length<=6/\0<s/\s<2 ^ others.length/\P9 s≠[]/\u<ys.length*xs.length/\
 ∀H',db H H'->Q (.int (i_ xs ys others s u:Nat)) H'
theorem Sz{f:ac}{fd:on}(F:re K "first_part" "first_part" z7 f fd)(T:Txt mg Ad)(ct:ik K Ad.Table)(nD:Def P w K mg base "parts_of" 1 qz A5):
 o0 P w K mg base ae 2 f fd uH (HL Ad.Table Ad.Grid):=by
 have nd:=HA.nd
 refine F.ok HA (λvs H Q E h=> ?_) (λlm A outer s H vs Q E hr h=> ?_)
 .obtain⟨t,xs,ys,p0,others,g,e,j,p,s,u,rfl,_⟩:=h
  rfl
 .obtain⟨t,xs,ys,p0,others,g,e,j,p,s,u,rfl,hF,h6,h0,hs,bn,hu,k⟩:=h
  have h64:2 ^ others.length<=2 ^ 6:=bM (by decide) h6
  obtain⟨dx,fs,ht,lG,lR,lE,lW,lJ,lP,hG,hE⟩:=hF.bb
  refine⟨_,(ga (pS 3 nd (Do K rfl (pv 0) rfl))
   (jp (pi (ul (bf K rfl) (FM (nX K rfl rfl (g_ hr)) (by rfl) T.dY eR (am (ao rfl nd (P7 K rfl (sK nD (hr.mono (by decide)) (am (pv 1) bi))) (own:=[("part",4)]) (Re rfl) (λ_ _ _ _ _=>(xz 4 nd)) (λ_ _ _ _ _=>T0) (λ_ _ _ _ _=>(WP (am (wp bz (ul (Ev K rfl) (iY (bU hr) (pv 3) (pv 4) (λ_ _=>rfl)) (pv 2) (λ_ _=>rfl)) (ul (Ev K rfl) (iY (bU hr) (pv 3) (wp cj (pv 1) (pv 4)) (λ_ _=>rfl)) (pv 2) (λ_ _=>rfl))) (am (pv 4) bi))))) bi)) nb (λ_ _=>rfl))))),?_⟩
  walk_at "rd"
  refine⟨Ad.Table,dx,fs,ht,ct.cl,ct.nJ,_,lJ,s,rfl,h0,by lia,λH1 q s1 hq=>⟨q,rfl,⟨_,aa.of hq⟩,?_⟩⟩
  refine k6 (xs:=(Uf (P9 s)).map V.int) (P9 s) (λa=>GE (jn (gt xs ys) others a u+jn (gt xs ys) others (s-a) u) a) (by simp[Uf]) (by have:=J1 s (by lia);simp[Uf];exact a8 (by lia)) (qX (aa.of hq)) (λi x a H2 C2 hx ha s2 hC=> ?_) λD H2 hD s2 h2=> ?_
  .rw[vS ha]at hx
   cases hx
   obtain⟨a0,a1⟩:=iR (Tk ha)
   have hJ:=hF.FW.same (s1.trans s2)
   obtain⟨b1,g1,r1⟩:=hJ.get (s:=a) ⟨a0,by lia⟩
   obtain⟨b2,g2,r2⟩:=hJ.get (s:=s-a) ⟨by lia,by lia⟩
   walk_at "rd"
   refine⟨_,g1,Fa r1 (at_of rfl (nM hu)) ?_⟩
   walk_at "rd"
   rw[vB (TW a1)]
   refine⟨_,g2,Fa r2 (at_of rfl (nM hu)) ?_⟩
   walk_at "rd"
   refine⟨by decide,λc hc=>hC c _ (cr hc) ?_⟩
   rw[bv]
   show some (HO.tup [V.int (((jn (gt xs ys) others a u:Nat):Int)+((jn (gt xs ys) others (s-a) u:Nat):Int)),V.int (a:Int)])=some (HO.tup [V.int ((jn (gt xs ys) others a u+jn (gt xs ys) others (s-a) u:Nat):Int),V.int (a:Int)])
   rw[mY]
  .refine Ky (c:=λa=>jn (gt xs ys) others a u+jn (gt xs ys) others (s-a) u) bn h2 λb a ha hm hb=>aO hb rfl ?_
   rw[<-Z3 (by lia) ha hm]
   exact k H2 (s1.trans s2)
end
end Sq
end
section
namespace Sq
open PySem PySem.Spec PyProof.Rows L2
open Vbpcar (Pt)
theorem TL.ab_{H:Hp}{l:ac}{Ix:List (List Int)}{ns:List Int}(h:TL H l (Ix++[ns])):∃us a,H l=some (.lst (us++[.ref a]))/\H a=some (.tup (ns.map V.int))/\TL (upd H l (.lst us)) l Ix:=by
 obtain⟨zs,h1,h2,h3⟩:=h
 obtain⟨z1,z2,rfl,e1,e2⟩:=List.map_eq_append_iff.mp h2
 cases z2 with
 |nil=>cases e2
 |cons z z2=>
  have e2':z.2::z2.map (·.2)=[ns]:=e2
  obtain⟨e3,e4⟩:=WY e2'
  have e5:=iF.mp e4
  subst e5
  have hz:=h3 z (by simp)
  unfold PP at hz
  rw[e3]at hz
  have h1':H l=some (.lst (z1.map (λz=>V.ref z.1)++[.ref z.1])):=by rw[h1,GM];rfl
  refine⟨z1.map λz=>V.ref z.1,z.1,h1',hz,z1,bv,e1,λy hy=> ?_⟩
  have hy':=h3 y (by simp[hy])
  exact Kt.upd h1' _ _ hy'
theorem TL.xt{q wq:ac}{H H':Hp}{us:List V}{Ix:List (List Int)}(o:Is wq H H')(hw:H wq=some (.lst us))(hq:q≠wq)(h:TL H q Ix):TL H' q Ix:=by
 obtain⟨zs,z1,z2,z3⟩:=h
 exact⟨zs,o _ _ z1 hq,z2,λz hz=>o _ _ (z3 z hz) (P8 (z3 z hz) hw (by intro q;cases q))⟩
theorem UQ{α:Type}(l:List α):l=[]\/∃l' x,l=l'++[x]:=by
 rcases List.eq_nil_or_concat l with h|⟨l',x,h⟩
 .exact .inl h
 .exact .inr ⟨l',x,by rw[h,List.concat_eq_append]⟩
noncomputable def cA(st:List (Nat×Nat)):Nat:=(st.map λz=>2*z.1-1).sum
theorem k9(st:List (Nat×Nat))(z:Nat×Nat):cA (st++[z])=cA st+(2*z.1-1):=by
 unfold cA;rw[GM,List.sum_append];simp
theorem aaQ{st:List (Nat×Nat)}(h:∀z∈st,0<z.1):st.length<=cA st:=by
 induction st with
 |nil=>exact nn _
 |cons z st ih=>
  have h1:=h z (by simp)
  have h2:=ih λy hy=>h y (AT _ hy)
  unfold cA at*
  rw[FS,K7,Os]
  lia
section
variable{xs ys:List Int}{others:List Pt}
theorem ab'(ix:Nat->Nat){a v:Nat}(ha:a<6):wI xs ys others ix 6 (2 ^ a) v=[(v,ix a)]:=by
 unfold wI
 obtain⟨e1,e2⟩:=qC a ha
 rw[if_pos (by rw[e1];rfl),e2]
theorem aaP(h6:others.length<=6)(ix:Nat->Nat){s v:Nat}(h0:0<s)(hs:s<2 ^ others.length)(hv:v<ys.length*xs.length)(bn:P9 s≠[]):
 ∃a∈P9 s,i_ xs ys others s (cN xs ys others s v)=a/\cN xs ys others s v<ys.length*xs.length/\
 wI xs ys others ix 6 s v=(v,cN xs ys others s v)::(wI xs ys others ix 6 a (cN xs ys others s v)++wI xs ys others ix 6 (s-a) (cN xs ys others s v)):=by
 have h64:2 ^ others.length<=2 ^ 6:=bM (by decide) h6
 obtain⟨j,hj,ej,_⟩:=wu hs h0 bn hv
 obtain⟨a,ha,ea,_⟩:=wt (xs:=xs) (ys:=ys) (others:=others) (cN xs ys others s v) (by lia) bn
 obtain⟨a0,a1⟩:=iR ha
 obtain⟨p1,p2⟩:=CO s (by lia) a ha
 have p3:=(wU s (by lia) h0).2
 refine⟨a,ha,ea,by rw[ej];exact hj,?_⟩
 conv=>lhs;unfold wI
 rw[if_neg (by rw[mS];exact bn),ea]
 rw[qW h6 ix 5 6 a _ a0 (by lia) (by rw[ej];exact hj) (by lia) (by lia),qW h6 ix 5 6 (s-a) _ (by lia) (by lia) (by rw[ej];exact hj) (by lia) (by lia)]
end
section
variable{P:lw}{w:li}{K:ge}{mg:Str->Option al}{base:io}{Ad:aV}
noncomputable def bp(xs ys:List Int)(others:List Pt)(i:Nat):Nat:=Fk xs ys (others.getD i ⟨0,0⟩)
def Iw(CT CG:ac):Sp:=λvs H Q _=>∃t xs ys p0 others g e j p,vs=[.ref t]/\lr CT CG H t xs ys p0 others g e j p/\xs.length<=7/\ys.length<=7/\others.length<=6/\others≠[]/\(∀q∈p0::others,q∈gt xs ys)/\
 ∀H' q(ws:List (Nat×Nat)),db H H'->H q=none->TL H' q (ws.map λz:Nat×Nat=>GE z.1 z.2)->ws.length<=200->(∀z,z∈ws↔z∈wI xs ys others (bp xs ys others) 6 (2 ^ others.length-1) (Fk xs ys p0))->Q (.ref q) H'
abbrev acX(t q wq:ac)(H:Hp)(xs ys:List Int)(others:List Pt)(p0:Pt):Nat->L2.St->Hp->Prop:=λm σ H'=>∃(st ws:List (Nat×Nat))(v3 v4 v5 v6 v7:Option V),σ=[some (.ref t),some (.ref q),some (.ref wq),v3,v4,v5,v6,v7]/\m=cA st/\jW q wq H H'/\TL H' wq (st.map λz:Nat×Nat=>GE z.1 z.2)/\TL H' q (ws.map λz:Nat×Nat=>GE z.1 z.2)/\
 (∀z∈st,0<z.1/\z.1<2 ^ others.length/\z.2<ys.length*xs.length)/\ws.length+cA st<=200/\
 (∀z,(z∈ws\/∃x∈st,z∈wI xs ys others (bp xs ys others) 6 x.1 x.2)↔z∈wI xs ys others (bp xs ys others) 6 (2 ^ others.length-1) (Fk xs ys p0))
theorem TY{f:ac}{fd:on}(F:re K "tree_ways" "tree_ways" A3 f fd)(T:Txt mg Ad)(ct:ik K Ad.Table)(zG:Def P w K mg base "first_node" 2 uG (HK Ad.Table Ad.Grid))
 (zH:Def P w K mg base "first_part" 2 uH (HL Ad.Table Ad.Grid)):o0 P w K mg base ae 3 f fd uT (Iw Ad.Table Ad.Grid):=by
 have nd:=Ir.nd
 refine F.ok Ir (λvs H Q E h=> ?_) (λlm A outer s H vs Q E hr h=> ?_)
 .obtain⟨t,xs,ys,p0,others,g,e,j,p,rfl,_⟩:=h
  rfl
 .obtain⟨t,xs,ys,p0,others,g,e,j,p,rfl,hF,hx7,hy7,h6,bn,bH,k⟩:=h
  have h64:2 ^ others.length<=2 ^ 6:=bM (by decide) h6
  have h2:1<2 ^ others.length:=yX (λe=>bn (cC.mp e))
  obtain⟨dx,fs,ht,lG,lR,lE,lW,lJ,lP,hG,hE⟩:=id hF.bb
  rw[dL]at lW
  refine⟨_,(ga (pS 1 nd (xL bi))
   (ga (pS 2 nd (xL (am (WP (am (Do K rfl (pv 0) rfl) (am (Do K rfl (pv 0) rfl) bi))) bi)))
   (ga (vY br (kY K rfl (pv 2) (λ_=>rfl)) (ga (pS 3 nd (abD cB PySem.F.slot_list_pop PySem.F.type_list_pop abx (pv 2)))
   (ga (pS 4 nd (ul (bf K rfl) (pv 3) nb (λ_ _=>rfl)))
   (ga (pS 5 nd (ul (bf K rfl) (pv 3) nb (λ_ _=>rfl)))
   (jp (aw (NB (Nz (bU hr) (pv 4) (Do K rfl (pv 0) rfl)) rfl) (jp (du (cJ cB js jt iQ (pv 1) (am (WP (am (pv 5) (am (iY (bU hr) (Do K rfl (pv 0) rfl) (pv 4) (λ_ _=>rfl)) bi))) bi)))) (ga (pS 6 nd (sK zG (hr.mono (by decide)) (am (pv 0) (am (pv 4) (am (pv 5) bi)))))
   (ga (pS 7 nd (sK zH (hr.mono (by decide)) (am (pv 0) (am (pv 4) (am (pv 6) bi)))))
   (ga (du (cJ cB js jt iQ (pv 1) (am (WP (am (pv 5) (am (pv 6) bi))) bi)))
   (jp (du (cJ cB mB mC kU (pv 2) (am (xL (am (WP (am (pv 7) (am (pv 6) bi))) (am (WP (am (wp cj (pv 4) (pv 7)) (am (pv 6) bi))) bi))) bi)))))))))))))
   (jp (pi (pv 1)))))),?_⟩
  refine aQ λR hR=> ?_
  walk_at "rd"
  refine⟨by decide,λq hq=>hR _ _ ?_⟩
  clear hR
  have s0:=cr (o:=.lst []) hq
  refine aQ λR hR=> ?_
  walk_at "rd"
  refine⟨Ad.Table,dx,fs,s0 _ _ ht,ct.cl,ct.nW,_,lW,Ad.Table,dx,fs,s0 _ _ ht,ct.cl,ct.nR,_,lR,by decide,λr hr'=>⟨by decide,λwq mo=>hR _ _ ?_⟩⟩
  clear hR
  have s2:=(s0.trans (cr (o:=.tup [.int ((2 ^ others.length-1:Nat):Int),.int (Fk xs ys p0:Int)]) hr')).trans (cr (o:=.lst [.ref r]) mo)
  have sg:q≠wq:=λe=>by
   rw[<-e]at mo
   have:=cr (o:=.tup [.int ((2 ^ others.length-1:Nat):Int),.int (Fk xs ys p0:Int)]) hr' _ _ (bv (H:=H) (a:=q) (o:=.lst []))
   rw[this]at mo;cases mo
  have hHw:H wq=none:=(s0.trans (cr (o:=.tup [.int ((2 ^ others.length-1:Nat):Int),.int (Fk xs ys p0:Int)]) hr')).free mo
  have hW0:TL (upd (upd (upd H q (.lst [])) r (.tup [.int ((2 ^ others.length-1:Nat):Int),.int (Fk xs ys p0:Int)])) wq (.lst [.ref r])) wq ([(2 ^ others.length-1,Fk xs ys p0)].map λz:Nat×Nat=>GE z.1 z.2):=
   wW (ns:=GE (2 ^ others.length-1) (Fk xs ys p0)) (cr mo _ _ bv) bv
  have hQ0:TL (upd (upd (upd H q (.lst [])) r (.tup [.int ((2 ^ others.length-1:Nat):Int),.int (Fk xs ys p0:Int)])) wq (.lst [.ref r])) q (([]:List (Nat×Nat)).map λz:Nat×Nat=>GE z.1 z.2):=
   TL.nil (cr mo _ _ (cr hr' _ _ bv))
  have hO0:jW q wq H (upd (upd (upd H q (.lst [])) r (.tup [.int ((2 ^ others.length-1:Nat):Int),.int (Fk xs ys p0:Int)])) wq (.lst [.ref r])):=λb o hb _ _=>s2 _ _ hb
  have ada:=ls (bH p0 (by simp))
  generalize upd (upd (upd H q (.lst [])) r (.tup [.int ((2 ^ others.length-1:Nat):Int),.int (Fk xs ys p0:Int)])) wq (.lst [.ref r])=H0 at*
  walk_at "rd"
  refine⟨acX t q wq H xs ys others p0,
   ⟨_,[(2 ^ others.length-1,Fk xs ys p0)],[],_,_,_,_,_,rfl,rfl,hO0,hW0,hQ0,?_,?_,?_⟩,?_⟩
  .intro z hz
   cases zn.mp hz
   exact⟨by show 0<2 ^ others.length-1;lia,by show 2 ^ others.length-1<_;lia,ada⟩
  .show 0+cA [(2 ^ others.length-1,Fk xs ys p0)]<=200
   unfold cA
   simp only[FS,gO,K7,List.sum_nil]
   lia
  .intro z
   constructor
   .rintro(h|⟨x,hx,h⟩)
    .cases h
    .cases zn.mp hx;exact h
   .exact λh=>.inr ⟨_,zn.mpr rfl,h⟩
  .intro m σ H' hWi;refine fV λdB=> ?_;obtain⟨st,ws,v3,v4,v5,v6,v7,rfl,rfl,hO,hW,hQ',ay,hlen,bo⟩:=hWi;refine dB ?_;clear dB
   have sH:db H H':=λb o hb=>hO _ _ hb (wT hb hq) (wT hb hHw)
   obtain⟨us,wE,Wp⟩:=TL.lst hW
   rw[dL]at Wp
   walk_at "rd"
   refine⟨_,.inl ⟨us,aa.of wE,rfl⟩,?_⟩
   rcases UQ st with rfl|⟨st',x,rfl⟩
   .have e:us=[]:=cC.mp Wp
    subst e
    rw[if_neg (by decide)]
    refine k H' q ws sH hq hQ' (by lia) λz=> ?_
    rw[<-bo z]
    constructor
    .exact .inl
    .rintro(h|⟨x,hx,_⟩)
     .exact h
     .cases hx
   .obtain⟨sx,vx⟩:=x
    have e':(!us.isEmpty)=true:=by cases us with|nil=>simp at Wp|cons _ _=>rfl
    rw[e',if_pos rfl]
    rw[GM]at hW
    obtain⟨us',a,lO,ha,hW'⟩:=TL.ab_ hW
    obtain⟨h0,hs,hv⟩:=ay (sx,vx) (by simp)
    rw[k9]at hlen
    have E5:∀z∈st',0<z.1/\z.1<2 ^ others.length/\z.2<ys.length*xs.length:=λz hz=>ay z (by simp[hz])
    have bL:=aaQ λz hz=>(E5 z hz).1
    refine⟨_,λ_ _ h=>h,.inl ⟨rfl,_,aa.of wE⟩,wq,_,_,rfl,rfl,lO,(by rw[pJ (by simp)];simp;rfl),?_⟩
    rw[List.dropLast_concat]
    have hO1:jW q wq H (upd H' wq (.lst us')):=λb o hb h1 h2=>by rw[gl h2];exact hO _ _ hb h1 h2
    have hQ1:TL (upd H' wq (.lst us')) q (ws.map λz:Nat×Nat=>GE z.1 z.2):=TL.xt (λb o hb bn=>by rw[gl bn];exact hb) wE sg hQ'
    have ha1:upd H' wq (.lst us') a=some (.tup [.int (sx:Int),.int (vx:Int)]):=by rw[gl (P8 ha wE (by intro z;cases z))];exact ha
    generalize upd H' wq (.lst us')=H1 at*
    have sH1:db H H1:=λb o hb=>hO1 _ _ hb (wT hb hq) (wT hb hHw)
    have hF1:=hF.same sH1
    refine aO ha1 rfl (aO ha1 rfl ⟨Ad.Table,dx,fs,sH1 _ _ ht,ct.cl,ct.nE,_,lE,e,rfl,_,cV.k (k:=EQ (sx:Int)) (sH1 _ _ hE),?_⟩)
    obtain⟨qs,mm,hql⟩:=TL.lst hQ1
    rw[dL]at hql
    rcases Ea h6 h0 hs with⟨b,hb,eb⟩|⟨cZ,c6⟩
    .have eb:sx=2 ^ b:=eb
     subst eb
     obtain⟨o,ho⟩:∃o,others[b]? =some o:=⟨_,wS hb⟩
     have dD:(others.map (Fk xs ys))[b]? =some (bp xs ys others b):=by
      unfold bp
      rw[wP,ho,Sc,ho];rfl
     rw[wK dD,yE,if_pos rfl]
     refine⟨.inl ⟨rfl,_,aa.of mm⟩,Ad.Table,dx,fs,sH1 _ _ ht,ct.cl,ct.nE,_,lE,e,rfl,_,wK dD▸cV.k (k:=EQ ((2 ^ b:Nat):Int)) (sH1 _ _ hE),by decide,λp' hp'=>⟨q,qs,_,rfl,rfl,cr hp' _ _ mm,cT (by lia),?_⟩⟩
     have sp:=cr (o:=.tup [.int (vx:Int),.int (bp xs ys others b:Int)]) hp'
     refine⟨cA st',by rw[k9];show cA st'<cA st'+(2*2 ^ b-1);lia,st',ws++[(vx,bp xs ys others b)],_,_,_,_,_,rfl,rfl,λc o hc h1 h2=> ?_,?_,?_,E5,?_,λz=> ?_⟩
     .rw[gl h1];exact sp _ _ (hO1 _ _ hc h1 h2)
     .exact TL.xt (λc o hc bn=>by rw[gl bn];exact hc) (sp _ _ mm) sg.symm (TL.same sp hW')
     .rw[GM]
      exact TL.push (ns:=GE vx (bp xs ys others b)) hQ1 mm hp'
     .rw[Rs,fW]
      have:2*2 ^ b-1>=1:=by lia
      show ws.length+1+cA st'<=200
      have h3:ws.length+(cA st'+(2*2 ^ b-1))<=200:=hlen
      lia
     .rw[<-bo z,NE,zn]
      have hw1:=ab' (xs:=xs) (ys:=ys) (others:=others) (bp xs ys others) (v:=vx) (a:=b) (by lia)
      constructor
      .rintro((h|h)|⟨y,hy,h⟩)
       .exact .inl h
       .exact .inr ⟨(2 ^ b,vx),by simp,by rw[hw1,h];simp⟩
       .exact .inr ⟨y,by simp[hy],h⟩
      .rintro(h|⟨y,hy,h⟩)
       .exact .inl (.inl h)
       .rcases NE.mp hy with hy|hy
        .exact .inr ⟨y,hy,h⟩
        .cases zn.mp hy
         have h:z∈wI xs ys others (bp xs ys others) 6 (2 ^ b) vx:=h
         rw[hw1]at h
         exact .inl (.inr (zn.mp h))
    .rw[CD (by rw[dL];exact cZ),Vr,if_neg (by decide)]
     obtain⟨a2,ha2,ea2,hul2,xO⟩:=aaP h6 (bp xs ys others) h0 hs hv c6
     obtain⟨a0,a1⟩:=iR ha2
     have a1:a2<sx:=a1
     refine⟨t,xs,ys,p0,others,g,e,j,p,sx,vx,rfl,hF1,hx7,hy7,h0,hs,c6,hv,λH2 s2=>⟨t,xs,ys,p0,others,g,e,j,p,sx,_,rfl,hF1.same s2,h6,h0,hs,c6,hul2,λH3 s3=> ?_⟩⟩
     have ea2:i_ xs ys others sx (cN xs ys others sx vx)=a2:=ea2
     rw[ea2]
     generalize hu:cN xs ys others sx vx=u at*
     have s13:=s2.trans s3
     have hqs3:=s13 _ _ mm
     refine⟨.inl ⟨rfl,_,aa.of hqs3⟩,by decide,λp' hp'=>⟨q,qs,_,rfl,rfl,cr hp' _ _ hqs3,cT (by lia),?_⟩⟩
     have sp:=cr (o:=.tup [.int (vx:Int),.int (u:Int)]) hp'
     have hO4:jW q wq H (upd (upd H3 p' (.tup [.int (vx:Int),.int (u:Int)])) q (.lst (qs++[.ref p']))):=λc o hc h1 h2=>by rw[gl h1];exact sp _ _ (s13 _ _ (hO1 _ _ hc h1 h2))
     have hW4:TL (upd (upd H3 p' (.tup [.int (vx:Int),.int (u:Int)])) q (.lst (qs++[.ref p']))) wq (st'.map λz:Nat×Nat=>GE z.1 z.2):=TL.xt (λc o hc bn=>by rw[gl bn];exact hc) (sp _ _ hqs3) sg.symm (TL.same (s13.trans sp) hW')
     have hQ4:TL (upd (upd H3 p' (.tup [.int (vx:Int),.int (u:Int)])) q (.lst (qs++[.ref p']))) q ((ws++[(vx,u)]).map λz:Nat×Nat=>GE z.1 z.2):=by
      rw[GM]
      exact TL.push (ns:=GE vx u) (TL.same s13 hQ1) hqs3 hp'
     generalize upd (upd H3 p' (.tup [.int (vx:Int),.int (u:Int)])) q (.lst (qs++[.ref p']))=H4 at*
     obtain⟨u4,hu4,hl4⟩:=TL.lst hW4
     rw[dL]at hl4
     walk_at "rd"
     refine⟨.inl ⟨rfl,_,aa.of hu4⟩,by decide,λc1 hc1=>⟨by decide,λc2 hc2=>⟨by decide,λc3 hc3=> ?_⟩⟩⟩
     rw[vB (TW a1)]at hc3⊢
     have t1:=cr (o:=.tup [.int (a2:Int),.int (u:Int)]) hc1
     have t2:=cr (o:=.tup [.int ((sx-a2:Nat):Int),.int (u:Int)]) hc2
     have t3:=cr (o:=.lst [.ref c1,.ref c2]) hc3
     have t123:=(t1.trans t2).trans t3
     have hD:TL (upd (upd (upd H4 c1 (.tup [.int (a2:Int),.int (u:Int)])) c2 (.tup [.int ((sx-a2:Nat):Int),.int (u:Int)])) c3 (.lst [.ref c1,.ref c2])) c3 ([(a2,u),(sx-a2,u)].map λz:Nat×Nat=>GE z.1 z.2):=
      ⟨[(c1,GE a2 u),(c2,GE (sx-a2) u)],bv,rfl,λz hz=>by
        rcases wl.mp hz with rfl|hz
        .exact t3 _ _ (t2 _ _ bv)
        .cases zn.mp hz
         exact t3 _ _ bv⟩
     have hc3v:upd (upd (upd H4 c1 (.tup [.int (a2:Int),.int (u:Int)])) c2 (.tup [.int ((sx-a2:Nat):Int),.int (u:Int)])) c3 (.lst [.ref c1,.ref c2]) c3=some (.lst [.ref c1,.ref c2]):=bv
     generalize upd (upd (upd H4 c1 (.tup [.int (a2:Int),.int (u:Int)])) c2 (.tup [.int ((sx-a2:Nat):Int),.int (u:Int)])) c3 (.lst [.ref c1,.ref c2])=H5 at*
     have hu5:=t123 _ _ hu4
     refine ot hu5 hc3v (TW (cT (by simp;lia))) ⟨cA (st'++[(a2,u)]++[(sx-a2,u)]),?_,st'++[(a2,u)]++[(sx-a2,u)],ws++[(vx,u)],_,_,_,_,_,rfl,rfl,λc o hc h1 h2=> ?_,?_,?_,?_,?_,λz=> ?_⟩
     .rw[k9,k9,k9]
      show cA st'+(2*a2-1)+(2*(sx-a2)-1)<cA st'+(2*sx-1)
      lia
     .rw[gl h2];exact t123 _ _ (hO4 _ _ hc h1 h2)
     .have:((st'++[(a2,u)]++[(sx-a2,u)]).map λz:Nat×Nat=>GE z.1 z.2)=(st'.map λz:Nat×Nat=>GE z.1 z.2)++([(a2,u),(sx-a2,u)].map λz:Nat×Nat=>GE z.1 z.2):=by simp
      rw[this]
      exact TL.ext (TL.same t123 hW4) hD hu5 hc3v
     .exact TL.xt (λc o hc bn=>by rw[gl bn];exact hc) hu5 sg (TL.same t123 hQ4)
     .intro z hz
      rcases NE.mp hz with hz|hz
      .rcases NE.mp hz with hz|hz
       .exact E5 z hz
       .cases zn.mp hz
        exact⟨a0,by show a2<_;lia,hul2⟩
      .cases zn.mp hz
       exact⟨by show 0<sx-a2;lia,by show sx-a2<_;lia,hul2⟩
     .rw[Rs,fW,k9,k9]
      show ws.length+1+(cA st'+(2*a2-1)+(2*(sx-a2)-1))<=200
      have h3:ws.length+(cA st'+(2*sx-1))<=200:=hlen
      lia
     .rw[<-bo z,NE,zn]
      constructor
      .rintro((h|h)|⟨y,hy,h⟩)
       .exact .inl h
       .exact .inr ⟨(sx,vx),by simp,by show z∈wI xs ys others (bp xs ys others) 6 sx vx;rw[xO,h];simp⟩
       .rcases NE.mp hy with hy|hy
        .rcases NE.mp hy with hy|hy
         .exact .inr ⟨y,by simp[hy],h⟩
         .cases zn.mp hy
          exact .inr ⟨(sx,vx),by simp,by show z∈wI xs ys others (bp xs ys others) 6 sx vx;rw[xO];exact AT _ (pN _ h)⟩
        .cases zn.mp hy
         exact .inr ⟨(sx,vx),by simp,by show z∈wI xs ys others (bp xs ys others) 6 sx vx;rw[xO];exact AT _ (iD _ h)⟩
      .rintro(h|⟨y,hy,h⟩)
       .exact .inl (.inl h)
       .rcases NE.mp hy with hy|hy
        .exact .inr ⟨y,by simp[hy],h⟩
        .cases zn.mp hy
         have h:z∈wI xs ys others (bp xs ys others) 6 sx vx:=h
         rw[xO]at h
         rcases wl.mp h with h|h
         .exact .inl (.inr h)
         .rcases NE.mp h with h|h
          .exact .inr ⟨(a2,u),by simp,h⟩
          .exact .inr ⟨(sx-a2,u),by simp,h⟩
end
end Sq
end
section
namespace Sq
open PySem PySem.Spec PyProof.Rows L2
open Vbpcar (Pt)
section
variable{xs ys:List Int}
noncomputable def rk(w n:Nat)(ws:List (Nat×Nat)):List (Nat×Nat):=(LI w n).filter λe=>ws.any λz=>decide (e∈dX w z.1 z.2)
theorem V8{ws:List (Nat×Nat)}(sy:∀z∈ws,z.1<ys.length*xs.length/\z.2<ys.length*xs.length){e:Nat×Nat}:e∈rk xs.length (ys.length*xs.length) ws↔∃z∈ws,e∈dX xs.length z.1 z.2:=by
 unfold rk
 rw[dh,mR]
 constructor
 .rintro⟨_,z,hz,h⟩
  exact⟨z,hz,of_decide_eq_true h⟩
 .rintro⟨z,hz,h⟩
  exact⟨YU (sy z hz).1 (sy z hz).2 h,z,hz,decide_eq_true h⟩
theorem QW{α β:Type}(f:α->β)(p:β->Bool)(l:List α):(l.map f).filter p=(l.filter λa=>p (f a)).map f:=by
 rw[List.filter_map];rfl
theorem SJ{ps:List Pt}{p0:Pt}{others:List Pt}(h7:ps.length<=7)(hf:b9 ps=p0::others)(bn:others≠[]):
 SB ps=(rk (wn ps).length ((Db ps).length*(wn ps).length) (wI (wn ps) (Db ps) others (bp (wn ps) (Db ps) others) 6 (2 ^ others.length-1) (Fk (wn ps) (Db ps) p0))).map (gD (wn ps) (Db ps))/\
 ∀z∈wI (wn ps) (Db ps) others (bp (wn ps) (Db ps) others) 6 (2 ^ others.length-1) (Fk (wn ps) (Db ps) p0),z.1<(Db ps).length*(wn ps).length/\z.2<(Db ps).length*(wn ps).length:=by
 have fS:=nF ps
 have h6:others.length<=6:=by rw[hf]at fS;simp at fS;lia
 have h64:2 ^ others.length<=2 ^ 6:=bM (by decide) h6
 have h2:1<2 ^ others.length:=yX (λe=>bn (cC.mp e))
 have bH:∀q∈p0::others,q∈gt (wn ps) (Db ps):=λq hq=>oi (gR.mp (by rw[hf];exact hq))
 have hx:(wn ps).Pairwise (·<·):=dM _
 have hy:(Db ps).Pairwise (·<·):=dM _
 have adg:=Cj hf bn
 have dD:∀i<others.length,bp (wn ps) (Db ps) others i<(Db ps).length*(wn ps).length/\(gt (wn ps) (Db ps))[bp (wn ps) (Db ps) others i]? =others[i]? :=λi hi=>by
  have e:others[i]? =some (others.getD i ⟨0,0⟩):=by rw[Sc,wS hi];rfl
  have hm:others.getD i ⟨0,0⟩∈p0::others:=AT _ (Tk e)
  exact⟨ls (bH _ hm),by unfold bp;rw[(wO (bH _ hm)).1,e]⟩
 have hv:=ls (bH p0 (by simp))
 have hW:=DR h6 (bp (wn ps) (Db ps) others) dD others.length (2 ^ others.length-1) (Fk (wn ps) (Db ps) p0) (by lia) (by lia) hv (by rw[D' _ h6];exact nn _)
 rw[qW h6 _ others.length 6 _ _ (by lia) (by lia) hv (by rw[D' _ h6];exact nn _) (by rw[D' _ h6];exact h6)]at hW
 have rc:=EJ h6 (bp (wn ps) (Db ps) others) (λi hi=>(dD i hi).1) 6 (2 ^ others.length-1) (Fk (wn ps) (Db ps) p0) (by lia) (by lia) hv
 refine⟨?_,rc⟩
 have e1:SB ps=(qt ps).filter λe=>(qj ps).2.any λw=>BR w e:=rfl
 have e2:qt ps=(LI (wn ps).length ((Db ps).length*(wn ps).length)).map (gD (wn ps) (Db ps)):=YV hx hy
 rw[e1,e2,QW,adg]
 simp only
 rw[hW]
 unfold rk
 congr 1
 refine Yh λe he=> ?_
 rw[List.any_map]
 rw[kF,mR,mR]
 constructor
 .rintro⟨z,hz,h⟩
  exact⟨z,hz,decide_eq_true ((KA hx hy (rc z hz).1 (rc z hz).2 he).mp h)⟩
 .rintro⟨z,hz,h⟩
  exact⟨z,hz,(KA hx hy (rc z hz).1 (rc z hz).2 he).mpr (of_decide_eq_true h)⟩
theorem Zz{ps:List Pt}(h:(b9 ps).length<2):SB ps=[]:=by
 have e1:SB ps=(qt ps).filter λe=>(qj ps).2.any λw=>BR w e:=rfl
 rw[e1,BK h]
 exact GR.mpr λ_ _=>by simp
end
noncomputable def ff(z:Nat×Nat):List Key:=[EQ (z.1:Int),EQ (z.2:Int)]
theorem Z9{a b:Nat×Nat}(h:ff a=ff b):a=b:=by
 unfold ff at h
 simp only[jy,Sum.inl.injEq,and_true]at h
 obtain⟨a1,a2⟩:=a
 obtain⟨b1,b2⟩:=b
 have h1:=h.1
 have h2:=h.2
 simp only at h1 h2
 congr 1<;>lia
theorem Nr(z:Nat×Nat):(ff z).map kV=(GE z.1 z.2).map V.int:=rfl
def FD(H:Hp)(f:ac)(es:List (Nat×Nat)):Prop:=∃kvs:List (List Key×V),H f=some (.dT kvs)/\kvs.map (·.1)=es.map ff/\es.Nodup
theorem FD.put{H:Hp}{f:ac}{es:List (Nat×Nat)}{z:Nat×Nat}{v:V}(h:FD H f es):∃kvs,H f=some (.dT kvs)/\kvs.length=es.length/\∃es',FD (upd H f (.dT (putK kvs (ff z) v))) f es'/\(∀y,y∈es'↔y∈es\/y=z)/\es'.length<=es.length+1:=by
 obtain⟨kvs,h1,h2,h3⟩:=h
 have hl:kvs.length=es.length:=by have:=congrArg dm h2;simpa using this
 refine⟨kvs,h1,hl,?_⟩
 by_cases hz:z∈es
 .refine⟨es,⟨_,bv,?_,h3⟩,λy=>⟨.inl,λq=>q.elim id λe=>e▸hz⟩,by lia⟩
  have hs:(kvs.any λkv=>decide (kv.1=ff z))=true:=by
   have:ff z∈kvs.map (·.1):=by rw[h2];exact nw.mpr ⟨z,hz,rfl⟩
   obtain⟨p,hp,e⟩:=nw.mp this
   exact mR.mpr ⟨p,hp,decide_eq_true e⟩
  unfold putK
  rw[if_pos hs,P6,<-h2]
  refine fY λkv _=> ?_
  show(if kv.1=ff z then(kv.1,v)else kv).1=kv.1
  split<;>rfl
 .have hn:On kvs (ff z)=none:=by
   cases e:On kvs (ff z)with
   |none=>rfl
   |some u=>
    have:=M5 e
    rw[h2]at this
    obtain⟨y,hy,e2⟩:=nw.mp this
    exact absurd (Z9 e2▸hy) hz
  refine⟨es++[z],⟨_,bv,?_,?_⟩,λy=> ?_,by simp⟩
  .rw[CV _ hn,GM,GM,h2];rfl
  .exact Yj.mpr ⟨h3,by simp,λa ha b hb=>by cases zn.mp hb;exact λe=>hz (e▸ha)⟩
  .rw[NE,zn]
def pd(H:Hp)(e:Pt×Pt)(v:V):Prop:=∃b a1 a2,v=.ref b/\H b=some (.tup [.ref a1,.ref a2])/\H a1=some (.tup [.int e.1.x,.int e.1.y])/\H a2=some (.tup [.int e.2.x,.int e.2.y])
def LN(H:Hp)(l:ac)(es:List (Pt×Pt)):Prop:=∃vs:List V,H l=some (.lst vs)/\Paired (λe v=>pd H e v) es vs
theorem pd.kt{H H':Hp}{e:Pt×Pt}{v:V}(k:Kt H H')(h:pd H e v):pd H' e v:=by
 obtain⟨b,a1,a2,h1,h2,h3,h4⟩:=h
 exact⟨b,a1,a2,h1,k _ _ h2,k _ _ h3,k _ _ h4⟩
theorem LN.same{H H':Hp}{l:ac}{es:List (Pt×Pt)}(s:db H H')(h:LN H l es):LN H' l es:=by
 obtain⟨vs,h1,h2⟩:=h
 exact⟨vs,s _ _ h1,Paired.jY h2 λe v r=>r.kt (Kt.of_same s)⟩
theorem LN.len{H:Hp}{l:ac}{es:List (Pt×Pt)}{vs:List V}(h:LN H l es)(hl:H l=some (.lst vs)):vs.length=es.length:=by
 obtain⟨us,h1,h2⟩:=h
 rw[hl]at h1;cases h1
 exact(ng h2).symm
theorem LN.at{H:Hp}{l:ac}{es:List (Pt×Pt)}{vs:List V}{i:Nat}{v:V}{e:Pt×Pt}(h:LN H l es)(hl:H l=some (.lst vs))(hv:vs[i]? =some v)(he:es[i]? =some e):pd H e v:=by
 obtain⟨us,h1,h2⟩:=h
 rw[hl]at h1;cases h1
 obtain⟨y,hy,r⟩:=Wr h2 he
 rw[hv]at hy;cases hy
 exact r
theorem V3{zs:List (ac×List Int)}{es:List (Nat×Nat)}(hn:es.Nodup)(hz:(zs.map (·.2)).Perm (es.map λz=>GE z.1 z.2))(hp:zs.Pairwise λx y=>HT.lexLt y.2 x.2=false):
 ∃es':List (Nat×Nat),es'.Perm es/\zs.map (·.2)=es'.map (λz=>GE z.1 z.2)/\es'.Pairwise jb:=by
 obtain⟨es',p1,p2⟩:=gL hz rfl
 refine⟨es',p1,p2,?_⟩
 have hn':es'.Nodup:=p1.nodup_iff.mpr hn
 have h1:(zs.map (·.2)).Pairwise λa b=>HT.lexLt b a=false:=ee.mpr hp
 rw[p2,ee]at h1
 refine(List.Pairwise.and h1 hn').imp ?_
 rintro⟨a1,a2⟩ ⟨b1,b2⟩ ⟨h,bn⟩
 unfold GE at h
 rw[HT.dq,HT.dq]at h
 unfold jb
 show a1<b1\/(a1=b1/\a2<b2)
 split at h
 .rename_i e
  have e:b1=a1:=by lia
  subst e
  split at h
  .rename_i e2
   have e2:b2=a2:=by lia
   subst e2
   exact absurd rfl bn
  .have:=of_decide_eq_false h
   exact .inr ⟨rfl,by lia⟩
 .have:=of_decide_eq_false h
  exact .inl (by lia)
end Sq
end
section
namespace Sq
open PySem PySem.Spec PyProof.Rows L2
open Vbpcar (Pt)
theorem XA{w a b n:Nat}(hw:0<w)(ha:a<n)(hb:b<n)(PQ:w<=n):(dX w a b).length<=4*n:=by
 unfold dX
 rw[Rs,dL,dL,ju,aI]
 have hc:P1 w a b<2*n:=by
  unfold P1
  have:=jI b hw
  lia
 have h1:=Nat.div_le_self (max (P1 w a b) b-min (P1 w a b) b) w
 have h2:max (P1 w a b) b<=2*n:=Nat.max_le.mpr ⟨by lia,by lia⟩
 have h3:max a (P1 w a b)<=2*n:=Nat.max_le.mpr ⟨by lia,by lia⟩
 have h4:=M8 (max (P1 w a b) b) (min (P1 w a b) b)
 have h5:=M8 (max a (P1 w a b)) (min a (P1 w a b))
 exact Ch (Kc (Ch h5 h3) (Ch h1 (Ch h4 h2))) (by lia)
theorem aaw{xs ys:List Int}:0<ys.length*xs.length->0<xs.length/\xs.length<=ys.length*xs.length:=λh=>by
 have h1:0<xs.length:=Nat.pos_of_mul_pos_left h
 have h2:0<ys.length:=Nat.pos_of_mul_pos_right h
 exact⟨h1,GV _ h2⟩
theorem JS{H:Hp}:∀{kvs:List (List Key×V)}{qs:List ac}{es:List (Nat×Nat)},Paired (λ(z:List Key×V)(q:ac)=>H q=some (.tup (z.1.map kV))) kvs qs->kvs.map (·.1)=es.map ff->
 ∃zs:List (ac×List Int),qs.map V.ref=zs.map (λz=>V.ref z.1)/\zs.map (·.2)=es.map (λz=>GE z.1 z.2)/\∀z∈zs,PP H z/\z.2≠[]
 |_,_,[],.nil,_=>⟨[],rfl,rfl,λ_ h=>nomatch h⟩
 |_,_,e::es,.nil,h=>by cases h
 |_,_,[],.cons _ _,h=>by cases h
 |_,q::_,e::es,.cons h t,h2=>by
  obtain⟨e1,e2⟩:=WY h2
  obtain⟨zs,z1,z2,z3⟩:=JS t e2
  dsimp only at e1
  rw[e1,Nr]at h
  refine⟨(q,GE e.1 e.2)::zs,by rw[FS,FS,z1],by rw[FS,FS,z2],λz hz=> ?_⟩
  rcases wl.mp hz with rfl|hz
  .exact⟨h,by unfold GE;simp⟩
  .exact z3 z hz
theorem Dv{n:Nat}(h:n<=1000000):n<sizeLine:=gH h (by decide)
theorem IV{α β γ:Type}{f:α->β}{R:β->γ->Prop}:∀{l:List α}{m:List γ},Paired (λa c=>R (f a) c) l m->Paired R (l.map f) m
 |_,_,.nil=>.nil
 |_,_,.cons h t=>.cons h (IV t)
section
variable{P:lw}{w:li}{K:ge}{mg:Str->Option al}{base:io}{Ad:aV}
def zt:Sp:=λvs H Q _=>∃l ps,vs=[.ref l]/\PL H l ps/\ps.length<=7/\∀H' q,db H H'->H q=none->LN H' q (SB ps)->Q (.ref q) H'
theorem SG{f:ac}{fd:on}(F:re K "tree_lines" "tree_lines" Ab f fd)(T:Txt mg Ad)(cg:fO K Ad.Grid)(ct:ik K Ad.Table)(nV:Def P w K mg base "unlike" 1 qK Cm)
 (mO:Def P w K mg base "filled_table" 5 pV (yu Ad.Table Ad.Grid))(Ay:Def P w K mg base "tree_ways" 3 uT (Iw Ad.Table Ad.Grid))
 (yG:Def P w K mg base "lines_on_way" 1 tV (GP Ad.Grid)):o0 P w K mg base ae 6 f fd qf zt:=by
 have nd:=HF.nd
 refine F.ok HF (λvs H Q E h=> ?_) (λlm A outer s H vs Q E hr h=> ?_)
 .obtain⟨l,ps,rfl,_⟩:=h
  rfl
 .obtain⟨l,ps,rfl,hl,h7,k⟩:=h
  refine⟨_,(ga (pS 1 nd (sK nV (hr.mono (by decide)) (am (pv 0) bi)))
   (ga (aw (bw rE (FM (aW K rfl) (by rfl) T.aJ aZ (am (pv 1) bi)) nb (bx _)) (jp (pi (xL bi))) aD)
   (ga (pS 2 nd (sK mO (hr.mono (by decide)) (am (pv 1) bi)))
   (ga (pS 3 nd LK)
   (ga (ck br rfl (P7 K rfl (sK Ay (hr.mono (by decide)) (am (pv 2) bi))) (aF K rfl (n:=2) rfl (Da (aP 4 nd) (Da (aP 5 nd) aG)) rfl rfl) (jp (ck br rfl (P7 K rfl (sK yG (hr.mono (by decide)) (am (Do K rfl (pv 2) rfl) (am (pv 4) (am (pv 5) bi))))) (aP 6 nd) (jp (om (bU hr) (pv 3) (pv 6) acN rfl)))))
   (ga (pS 7 nd (Do K rfl (Do K rfl (pv 2) rfl) rfl))
   (jp (pi (ao rfl nd (P7 K rfl (FM (IK K rfl) (by rfl) T.gX kT (am (dJ (zK rfl) (by rfl) T.fE gZ (am (pv 3) bi)) bi))) (own:=[("start",8),("end",9)]) (Re rfl) (λ_ _ _ _ _=>(aF K rfl (n:=2) rfl (Da (xz 8 nd) (Da (xz 9 nd) aG)) rfl rfl)) (λ_ _ _ _ _=>T0) (λ_ _ _ _ _=>(WP (am (ul (Ev K rfl) (pv 7) (pv 8) (λ_ _=>rfl)) (am (ul (Ev K rfl) (pv 7) (pv 9) (λ_ _=>rfl)) bi))))))))))))),?_⟩
  refine aQ λR hR=> ?_
  walk_at "rd"
  refine⟨l,ps,rfl,hl,h7,λH1 q s1 hq hP=>hR _ _ ?_⟩
  clear hR
  obtain⟨us,wE,Wp⟩:=PL.lst hP
  refine aQ λR hR=> ?_
  walk_at "rd"
  refine⟨us,.inl (aa.of wE),cW (λh=> ?_) (λh=> ?_)⟩
  .have h:=of_decide_eq_true h
   refine⟨by decide,λr hr'=>k _ r (s1.trans (cr hr')) (s1.free hr') ?_⟩
   rw[Zz (by lia)]
   exact⟨[],bv,.nil⟩
  .have h:¬(us.length:Int)<2:=λq=>h (decide_eq_true q)
   refine hR _ _ ?_
   clear hR
   have fS:=nF ps
   have xe:=Jn ps
   have ye:=Jo ps
   cases hf:b9 ps with
   |nil=>
    rw[hf]at Wp
    have:us.length=0:=Wp
    lia
   |cons p0 others=>
    have bn:others≠[]:=λe=>by rw[hf,e]at Wp;simp at Wp;lia
    obtain⟨acG,E7⟩:=SJ h7 hf bn
    have bH:∀q∈p0::others,q∈gt (wn ps) (Db ps):=λq hq=>oi (gR.mp (by rw[hf];exact hq))
    rw[hf]at hP fS xe ye
    have h6:others.length<=6:=by simp at fS;lia
    have hx7:=EK h7
    have hy7:=EL h7
    have lf:(wn ps).Pairwise (·<·):=dM _
    have dE:(Db ps).Pairwise (·<·):=dM _
    refine aQ λR hR=> ?_
    walk_at "rd"
    refine⟨q,p0,others,rfl,hP,h6,bn,λH2 t g e j p s2 hF=>hR _ _ ?_⟩
    clear hR
    rw[xe,ye]at hF
    generalize wn ps=xs at*
    generalize Db ps=ys at*
    have h49:ys.length*xs.length<=7*7:=eh hy7 hx7
    obtain⟨hw0,PQ⟩:=aaw (gH (SC _) (ls (bH p0 (by simp))))
    have s12:=s1.trans s2
    walk_at "rd"
    intro fd0 hfd0
    have sd:=cr (o:=.dT []) hfd0
    have hHf:H fd0=none:=s12.free hfd0
    refine⟨t,xs,ys,p0,others,g,e,j,p,rfl,hF.same sd,hx7,hy7,h6,bn,bH,λH3 wq ws s3 hwq0 sy adG xp=>⟨wq,rfl,?_⟩⟩
    have hf3:=s3 _ _ (bv (H:=H2) (a:=fd0) (o:=.dT []))
    have sA:=s12.trans (sd.trans s3)
    have hF3:=hF.same (sd.trans s3)
    obtain⟨dx,fs,ht,lG,lR,lE,lW,lJ,lP,hG,hE⟩:=id hF3.bb
    obtain⟨dg,fg,ln,hg,lWg,lNg,hPn⟩:=id hG
    obtain⟨wv,xP,OI⟩:=TL.lst sy
    rw[dL]at OI
    have hgf:g≠fd0:=P8 hg hf3 (by intro z;cases z)
    have PJ:t≠fd0:=P8 ht hf3 (by intro z;cases z)
    have su:wq≠fd0:=P8 xP hf3 (by intro z;cases z)
    have hGo:∀{H'},Is fd0 H3 H'->eD Ad.Grid H' g xs ys:=λ{H'}o=>by
     obtain⟨zs,z1,z2,z3⟩:=hPn
     exact⟨dg,fg,ln,o _ _ hg hgf,lWg,lNg,zs,o _ _ z1 (P8 z1 hf3 (by intro z;cases z)),z2,λz hz=>o _ _ (z3 z hz) (P8 (z3 z hz) hf3 (by intro z;cases z))⟩
    have hlw:∀z∈ws,(dX xs.length z.1 z.2).length<=196:=λz hz=>by
     have:=E7 z ((xp z).mp hz)
     have:=XA hw0 this.1 this.2 PQ
     lia
    refine⟨⟨_,aa.of xP⟩,gU (xs:=wv) (λi σ H'=>∃v4 v5 v6 v7 v8 v9,σ=[some (.ref l),some (.ref q),some (.ref t),some (.ref fd0),v4,v5,v6,v7,v8,v9]/\Is fd0 H3 H'/\∃es,FD H' fd0 es/\es.length<=196*i/\∀y,y∈es↔∃z∈ws.take i,y∈dX xs.length z.1 z.2)
     ⟨_,_,_,_,_,_,rfl,λb o h _=>h,[],⟨[],hf3,rfl,.nil⟩,nn _,λy=>by simp⟩ (λi σ H' _⟨_,_,_,_,_,_,_,o,_⟩=>aa.of (o _ _ xP su)) ?_ ?_⟩
    .intro i x σ H' hi hWi;refine fV λdB=> ?_;obtain⟨v4,v5,v6,v7,v8,v9,rfl,hO,es,hFD,ac7,xm⟩:=hWi;refine dB ?_;clear dB
     have a_:=(P4.mp hi).1
     obtain⟨z,hz⟩:∃z,ws[i]? =some z:=⟨_,wS (by lia)⟩
     have c_:=Tk hz
     obtain⟨z1,z2⟩:=E7 z ((xp z).mp c_)
     obtain⟨b,rfl,hb⟩:=TL.at sy xP hi (ns:=GE z.1 z.2) (by rw[wP,hz];rfl)
     refine bB (hO _ _ hb (P8 hb hf3 (by intro z;cases z))) ?_
     walk_at "rd"
     refine⟨Ad.Table,dx,fs,hO _ _ ht PJ,ct.cl,ct.nG,_,lG,g,xs,ys,z.1,z.2,rfl,hGo hO,hx7,hy7,z1,z2,λH4 d s4 hd4 hD=>⟨d,rfl,?_⟩⟩
     obtain⟨dv,xD,d6⟩:=TL.lst hD
     rw[dL]at d6
     have hlz:=hlw z c_
     obtain⟨kv0,hk0,_,_⟩:=id hFD
     have hf4:=s4 _ _ hk0
     have Pe:d≠fd0:=P8 xD hf4 (by intro z;cases z)
     refine⟨⟨_,aa.of xD⟩,gU (xs:=dv) (λm σ H'=>∃v6 v7 v8 v9,σ=[some (.ref l),some (.ref q),some (.ref t),some (.ref fd0),some (.int (z.1:Int)),some (.int (z.2:Int)),v6,v7,v8,v9]/\Is fd0 H4 H'/\∃es',FD H' fd0 es'/\es'.length<=es.length+m/\∀y,y∈es'↔y∈es\/y∈(dX xs.length z.1 z.2).take m)
      ⟨_,_,_,_,rfl,λb o h _=>h,es,?_,nn _,λy=>by simp⟩ (λm σ H' _⟨_,_,_,_,_,o,_⟩=>aa.of (o _ _ xD Pe)) ?_ ?_⟩
     .obtain⟨kvs,a1,a2,a3⟩:=hFD
      exact⟨kvs,s4 _ _ a1,a2,a3⟩
     .intro m x σ H5 hm hWi;refine fV λdB=> ?_;obtain⟨v6,v7,v8,v9,rfl,hO5,es',hFD5,hl5,hm5⟩:=hWi;refine dB ?_;clear dB
      have ji:=(P4.mp hm).1
      obtain⟨y,hy⟩:∃y,(dX xs.length z.1 z.2)[m]? =some y:=⟨_,wS (by lia)⟩
      obtain⟨c,rfl,hc⟩:=TL.at hD xD hm (ns:=GE y.1 y.2) (by rw[wP,hy];rfl)
      have hc5:=hO5 _ _ hc (P8 hc hf4 (by intro z;cases z))
      obtain⟨kvs,k1,k2,es2,k3,k4,k5⟩:=hFD5.put (z:=y) (v:=.bl true)
      walk_at "rd"
      refine⟨_,.inr ⟨kvs,ff y,c,k1,rfl,by rw[Nr];exact hc5,Dv (by lia),rfl⟩,_,_,_,_,⟨rfl,rfl,rfl,rfl⟩,λb o hb bn=>by rw[gl bn];exact hO5 _ _ hb bn,es2,k3,by lia,λu=> ?_⟩
      rw[k4,hm5,take_snoc hy,NE,zn]
      constructor
      .rintro((h|h)|h)
       .exact .inl h
       .exact .inr (.inl h)
       .exact .inr (.inr h)
      .rintro(h|h|h)
       .exact .inl (.inl h)
       .exact .inl (.inr h)
       .exact .inr h
     .intro σ H5 hWi;refine fV λdB=> ?_;obtain⟨v6,v7,v8,v9,rfl,hO5,es',hFD5,hl5,hm5⟩:=hWi;refine dB ?_;clear dB
      refine⟨_,_,_,_,_,_,rfl,λb o hb bn=>hO5 _ _ (s4 _ _ (hO _ _ hb bn)) bn,es',hFD5,by lia,λy=> ?_⟩
      rw[hm5,d6,iK,xm,take_snoc hz]
      constructor
      .rintro(⟨x,hx,h⟩|h)
       .exact⟨x,pN _ hx,h⟩
       .exact⟨z,iD _ (zn.mpr rfl),h⟩
      .rintro⟨x,hx,h⟩
       rcases NE.mp hx with hx|hx
       .exact .inl ⟨x,hx,h⟩
       .cases zn.mp hx
        exact .inr h
    .intro σ H' hWi;refine fV λdB=> ?_;obtain⟨v4,v5,v6,v7,v8,v9,rfl,hO,es,hFD,ac7,xm⟩:=hWi;refine dB ?_;clear dB
     rw[OI,iK]at xm
     have sH:db H H':=λb o hb=>hO _ _ (sA _ _ hb) (wT hb hHf)
     obtain⟨dg',fg',ln',hg',lWg',lNg',hPn'⟩:=hGo hO
     obtain⟨kvs,k1,k2,k3⟩:=hFD
     walk_at "rd"
     refine⟨Ad.Table,dx,fs,hO _ _ ht PJ,ct.cl,ct.nG,_,lG,g,rfl,Ad.Grid,dg',fg',hg',cg.cl,cg.nN,_,lNg',fd0,kvs,rfl,k1,λqs r mm hr'=> ?_⟩
     obtain⟨zs,z1,z2,z3⟩:=JS mm k2
     rw[z1]
     have sr:=cr (o:=.lst (zs.map λz=>V.ref z.1)) hr'
     refine⟨r,zs,rfl,aa.of bv,λz hz=>⟨sr _ _ (z3 z hz).1,(z3 z hz).2⟩,λzz r2 jR cy hr2=> ?_⟩
     obtain⟨es',p1,p2,p3⟩:=V3 k3 ((jR.map _).trans (by rw[z2])) cy
     have sr2:=sr.trans (cr (o:=.lst (zz.map λz=>V.ref z.1)) hr2)
     have hT2:TL (upd (upd H' r (.lst (zs.map λz=>V.ref z.1))) r2 (.lst (zz.map λz=>V.ref z.1))) r2 (es'.map λz=>GE z.1 z.2):=⟨zz,bv,p2,λz hz=>sr2 _ _ (z3 z (jR.mem_iff.mp hz)).1⟩
     have hv2:upd (upd H' r (.lst (zs.map λz=>V.ref z.1))) r2 (.lst (zz.map λz=>V.ref z.1)) r2=some (.lst (zz.map λz=>V.ref z.1)):=bv
     generalize upd (upd H' r (.lst (zs.map λz=>V.ref z.1))) r2 (.lst (zz.map λz=>V.ref z.1))=H6 at*
     have Pa:es'=rk xs.length (ys.length*xs.length) (wI xs ys others (bp xs ys others) 6 (2 ^ others.length-1) (Fk xs ys p0)):=by
      refine Ly p3 (Gh _ (aaR _ _)) λy=> ?_
      rw[V8 E7,p1.mem_iff,xm]
      exact⟨λ⟨z,hz,h⟩=>⟨z,(xp z).mp hz,h⟩,λ⟨z,hz,h⟩=>⟨z,(xp z).mpr hz,h⟩⟩
     have acz:∀y∈es',y.1<ys.length*xs.length/\y.2<ys.length*xs.length:=λy hy=>by
      rw[Pa]at hy
      have:=D8.mp (dh.mp hy).1
      refine⟨this.1,?_⟩
      rcases this.2 with⟨a,b⟩|⟨a,b⟩
      .rw[a]
       obtain⟨rr,cc,PD,pq,e1⟩:=lb this.1
       rw[e1]at b⊢
       rw[(cell pq PD).2.1]at b
       exact(cell b PD).1
      .rw[a];exact b
     have hl6:(zz.map λz=>V.ref z.1).length=es'.length:=(TL.len hT2 hv2).trans (dL ..)
     have hPn6:PL H6 ln' (gt xs ys):=TL.same sr2 hPn'
     obtain⟨nv,xG,hnl⟩:=PL.lst hPn6
     refine⟨r2,rfl,⟨_,aa.of hv2⟩,qS es' (λ_=>true) (λe v H=>pd H (gD xs ys e) v) (λd v H H' k h=>h.kt k) hl6.symm ?_ (qX (aa.of hv2)) (λi x y H7 C N hx hy s7 hC hN=> ?_) λD H7 acc hD s7 IR hp=> ?_⟩
     .rw[hl6,p1.length_eq]
      exact Dv (by lia)
     .obtain⟨c,rfl,hc⟩:=TL.at hT2 hv2 hx (ns:=GE y.1 y.2) (by rw[wP,hy];rfl)
      obtain⟨y1,y2⟩:=acz y (Tk hy)
      obtain⟨b1,e1,f1⟩:=hPn6.get xG (eA xs ys y1)
      obtain⟨b2,e2,f2⟩:=hPn6.get xG (eA xs ys y2)
      refine bB (s7 _ _ hc) ⟨rfl,?_⟩
      walk_at "rd"
      refine Fa (s7 _ _ xG) (at_of rfl e1) (Fa (s7 _ _ xG) (at_of rfl e2) ⟨by decide,λu hu=>hC rfl _ _ (cr hu) ⟨u,b1,b2,rfl,bv,?_,?_⟩⟩)
      .show upd _ u _ b1=_
       rw[gl (wT (s7 _ _ f1) hu),s7 _ _ f1]
       unfold gD
       rw[eu y1]
      .show upd _ u _ b2=_
       rw[gl (wT (s7 _ _ f2) hu),s7 _ _ f2]
       unfold gD
       rw[eu y2]
     .rw[kP]at hp
      refine k H7 D ((sH.trans sr2).trans s7) ((sH.trans sr2).free hD) ⟨acc,IR,?_⟩
      rw[acG,<-Pa]
      exact IV hp
end
end Sq
end
section
namespace Sq
open PySem PySem.Spec PyProof.Rows L2
open Vbpcar (Pt)
noncomputable def bW(p:Pt):List Key:=[EQ p.x,EQ p.y]
theorem Z_{a b:Pt}(h:bW a=bW b):a=b:=by
 unfold bW at h
 simp only[jy,Sum.inl.injEq,and_true]at h
 cases a;cases b;simp_all
def CN(H:Hp)(d:ac)(cnt:Pt->Nat)(ks:List Pt):Prop:=∃kvs:List (List Key×V),H d=some (.dT kvs)/\kvs.map (·.1)=ks.map bW/\ks.Nodup/\(∀p,p∈ks↔cnt p≠0)/\∀p,On kvs (bW p)=if cnt p=0 then none else some (.int (cnt p:Int))
theorem CN.same{H H':Hp}{d:ac}{cnt:Pt->Nat}{ks:List Pt}(s:db H H')(h:CN H d cnt ks):CN H' d cnt ks:=by
 obtain⟨kvs,h1,h2⟩:=h
 exact⟨kvs,s _ _ h1,h2⟩
theorem CN.put{H:Hp}{d:ac}{cnt:Pt->Nat}{ks:List Pt}(p:Pt)(h:CN H d cnt ks):∃kvs,H d=some (.dT kvs)/\kvs.length=ks.length/\(On kvs (bW p)).getD (.int 0)=.int (cnt p:Int)/\
 ∃ks',CN (upd H d (.dT (putK kvs (bW p) (.int ((cnt p:Int)+1))))) d (λq=>if q=p then cnt p+1 else cnt q) ks'/\ks'.length<=ks.length+1:=by
 obtain⟨kvs,h1,h2,h3,h4,h5⟩:=h
 have hl:kvs.length=ks.length:=by have:=congrArg dm h2;simpa using this
 have OH:∀q,On (putK kvs (bW p) (.int ((cnt p:Int)+1))) (bW q)=if(if q=p then cnt p+1 else cnt q)=0 then none else some (.int (((if q=p then cnt p+1 else cnt q:Nat)):Int)):=λq=>by
  rw[C8]
  by_cases e:q=p
  .subst e
   rw[if_pos rfl,if_pos rfl,if_neg (by lia)]
   rfl
  .rw[if_neg (λz=>e (Z_ z)),if_neg e,h5 q]
 refine⟨kvs,h1,hl,?_,?_⟩
 .rw[h5 p]
  by_cases e:cnt p=0
  .rw[if_pos e,e];rfl
  .rw[if_neg e];rfl
 .by_cases hp:p∈ks
  .refine⟨ks,⟨_,bv,?_,h3,λq=> ?_,OH⟩,by lia⟩
   .have hs:(kvs.any λkv=>decide (kv.1=bW p))=true:=by
     have:bW p∈kvs.map (·.1):=by rw[h2];exact nw.mpr ⟨p,hp,rfl⟩
     obtain⟨x,hx,e⟩:=nw.mp this
     exact mR.mpr ⟨x,hx,decide_eq_true e⟩
    unfold putK
    rw[if_pos hs,P6,<-h2]
    refine fY λkv _=> ?_
    show(if kv.1=bW p then(kv.1,_)else kv).1=kv.1
    split<;>rfl
   .rw[h4 q]
    dsimp only
    by_cases e:q=p
    .subst e
     rw[if_pos rfl]
     exact⟨λ_=>by lia,λ_=>(h4 q).mp hp⟩
    .rw[if_neg e]
  .have hn:On kvs (bW p)=none:=by
    rw[h5 p,if_pos]
    by_cases e:cnt p=0
    .exact e
    .exact absurd ((h4 p).mpr e) hp
   refine⟨ks++[p],⟨_,bv,?_,?_,λq=> ?_,OH⟩,by simp⟩
   .rw[CV _ hn,GM,GM,h2];rfl
   .exact Yj.mpr ⟨h3,by simp,λa ha b hb=>by cases zn.mp hb;exact λe=>hp (e▸ha)⟩
   .rw[NE,zn,h4 q]
    dsimp only
    by_cases e:q=p
    .subst e
     rw[if_pos rfl]
     exact⟨λ_=>by lia,λ_=>.inr rfl⟩
    .rw[if_neg e]
     exact⟨λh=>h.elim id λz=>absurd z e,.inl⟩
noncomputable def l7(ax:Nat)(e:Pt×Pt):Bool:=if ax=0 then decide (e.1.x=e.2.x)else decide (e.1.y=e.2.y)
noncomputable def IN(ax:Nat):List (Pt×Pt)->Pt->Nat
 |[],_=>0
 |e::es,p=>(if l7 ax e=true then(if e.1=p then 1 else 0)+(if e.2=p then 1 else 0)else 0)+IN ax es p
theorem B3(ax:Nat)(e:Pt×Pt)(p:Pt):∀es:List (Pt×Pt),IN ax (es++[e]) p=IN ax es p+(if l7 ax e=true then(if e.1=p then 1 else 0)+(if e.2=p then 1 else 0)else 0)
 |[]=>by simp[IN]
 |x::es=>by
  rw[ui]
  show _+IN ax (es++[e]) p=_+IN ax es p+_
  rw[B3 ax e p es]
  lia
section
variable{P:lw}{w:li}{K:ge}{mg:Str->Option al}{base:io}{Ad:aV}
def Ji:Sp:=λvs H Q _=>∃l es ax,vs=[.ref l,.int (ax:Nat)]/\LN H l es/\es.length<=1000/\ax<2/\∀H' q ks,db H H'->H q=none->CN H' q (IN ax es) ks->ks.length<=2*es.length->Q (.ref q) H'
theorem U3{f:ac}{fd:on}(F:re K "lines_at" "lines_at" BH f fd)(T:Txt mg Ad):o0 P w K mg base ae 1 f fd vg Ji:=by
 have nd:=Jf.nd
 refine F.ok Jf (λvs H Q E h=> ?_) (λlm A outer s H vs Q E hr h=> ?_)
 .obtain⟨l,es,ax,rfl,_⟩:=h
  rfl
 .obtain⟨l,es,ax,rfl,hL,hl1000,hax,k⟩:=h
  obtain⟨xs,lf,_⟩:=id hL
  have hlen:=hL.len lf
  refine⟨_,(ga (pS 2 nd LK)
   (ga (ck br rfl (P7 K rfl (pv 0)) (aP 3 nd) (jp (aw (bw h_ (ul (bf K rfl) (ul (bf K rfl) (pv 3) nb (λ_ _=>rfl)) (pv 1) (λ_ _=>rfl)) (ul (bf K rfl) (ul (bf K rfl) (pv 3) nb (λ_ _=>rfl)) (pv 1) (λ_ _=>rfl)) (bx _)) (jp (ck br rfl (MM K rfl (pv 3)) (aP 4 nd) (jp (om (bU hr) (pv 2) (pv 4) (wp bz (CQ (bU hr) (pv 2) (pv 4) nb ⟨rfl,rfl,rfl,rfl⟩) nb) rfl)))) aD)))
   (jp (pi (pv 2))))),?_⟩
  walk_at "rd"
  intro d hd
  have s0:=cr (o:=.dT []) hd
  refine⟨⟨_,aa.of (s0 _ _ lf)⟩,gU (xs:=xs) (λi σ H'=>∃v3 v4,σ=[some (.ref l),some (.int (ax:Int)),some (.ref d),v3,v4]/\db H H'/\∃ks,CN H' d (IN ax (es.take i)) ks/\ks.length<=2*i)
   ⟨_,_,rfl,s0,[],⟨[],bv,rfl,.nil,λp=>by simp[IN],λp=>rfl⟩,nn _⟩ (λi σ H' _⟨_,_,_,s',_⟩=>aa.of (s' _ _ lf)) ?_ ?_⟩
  .rintro i x σ H' hi ⟨v3,v4,rfl,s',ks,hC,Pp⟩
   have a_:i<xs.length:=(P4.mp hi).1
   obtain⟨e,he⟩:∃e,es[i]? =some e:=⟨_,wS (by lia)⟩
   obtain⟨b,a1,a2,rfl,hb,h1,h2⟩:=hL.at lf hi he
   have hb':=s' _ _ hb
   have h1':=s' _ _ h1
   have h2':=s' _ _ h2
   walk_at "rd"
   have O7:∀p:Pt,e9 [V.int p.x,V.int p.y] (ax:Int)=some (.int (if ax=0 then p.x else p.y)):=λp=>by
    rcases(show ax=0\/ax=1 by lia)with rfl|rfl<;>rfl
   refine aO hb' rfl (aO h1' (O7 e.1) (aO hb' rfl (aO h2' (O7 e.2) ⟨rfl,_,rfl,cW (λh=> ?_) (λh=> ?_)⟩)))
   .have EZ:l7 ax e=true:=by
     have:=V.int.inj (of_decide_eq_true h)
     unfold l7
     rcases(show ax=0\/ax=1 by lia)with rfl|rfl
     .exact decide_eq_true this
     .exact decide_eq_true this
    have hdk:∃kv0,H' d=some (.dT kv0):=let⟨kv0,q,_⟩:=hC;⟨kv0,q⟩
    obtain⟨kv0,hk0⟩:=hdk
    have hbd:b≠d:=P8 hb' hk0 (by intro z;cases z)
    refine⟨⟨_,P3.of hb'⟩,Lp (xs:=[.ref a1,.ref a2]) (λm σ H2=>∃v4,σ=[some (.ref l),some (.int (ax:Int)),some (.ref d),some (.ref b),v4]/\Is d H' H2/\∃ks',CN H2 d (λp=>IN ax (es.take i) p+((if 0<m/\e.1=p then 1 else 0)+(if 1<m/\e.2=p then 1 else 0))) ks'/\ks'.length<=ks.length+m)
     ⟨_,rfl,λc o h _=>h,ks,by simpa using hC,nn _⟩ (λm σ H2 _⟨_,_,o,_⟩=>P3.of (o _ _ hb' hbd)) ?_ ?_⟩
    .rintro m x σ H2 hm ⟨v4,rfl,hO2,ks2,hC2,hl2⟩
     obtain⟨c,p,rfl,Pd,acF⟩:∃(c:ac)(p:Pt),x=.ref c/\H' c=some (.tup [.int p.x,.int p.y])/\∀q,(if 0<m+1/\e.1=q then 1 else 0)+(if 1<m+1/\e.2=q then 1 else 0)=(if 0<m/\e.1=q then 1 else 0)+(if 1<m/\e.2=q then 1 else 0)+(if q=p then(1:Nat)else 0):=by
      match m,hm with
      |0,hm=>
       cases hm
       refine⟨a1,e.1,rfl,h1',λq=> ?_⟩
       by_cases z:e.1=q
       .simp[z]
       .have z':¬q=e.1:=λy=>z y.symm
        simp[z,z']
      |1,hm=>
       cases hm
       refine⟨a2,e.2,rfl,h2',λq=> ?_⟩
       by_cases z:e.2=q
       .by_cases z1:e.1=q
        .simp[z,z1]
        .simp[z,z1]
       .have z':¬q=e.2:=λy=>z y.symm
        by_cases z1:e.1=q
        .simp[z,z1,z']
        .simp[z,z1,z']
      |m+2,hm=>cases hm
     have hc2:=hO2 _ _ Pd (P8 Pd hk0 (by intro z;cases z))
     obtain⟨kvs,k1,k2,k3,ks3,k4,k5⟩:=hC2.put p
     walk_at "rd"
     refine⟨.inr ⟨kvs,.inl k1⟩,_,.inr ⟨kvs,bW p,c,.inl k1,rfl,hc2,rfl⟩,?_⟩
     rw[k3]
     refine⟨_,rfl,?_⟩
     have ji:m<=1:=by
      have:=(P4.mp hm).1
      simp at this;lia
     refine⟨_,.inr ⟨kvs,bW p,c,k1,rfl,hc2,Dv (by lia),rfl⟩,λc' o hc' bn=>by rw[gl bn];exact hO2 _ _ hc' bn,ks3,?_,by lia⟩
     have rM:(λq=>IN ax (es.take i) q+((if 0<m+1/\e.1=q then 1 else 0)+(if 1<m+1/\e.2=q then 1 else 0)))=λq=>if q=p then(IN ax (es.take i) p+((if 0<m/\e.1=p then 1 else 0)+(if 1<m/\e.2=p then 1 else 0)))+1 else IN ax (es.take i) q+((if 0<m/\e.1=q then 1 else 0)+(if 1<m/\e.2=q then 1 else 0)):=by
      funext q
      rw[acF q]
      by_cases z:q=p
      .subst z;rw[if_pos rfl,if_pos rfl];lia
      .rw[if_neg z,if_neg z,ft]
     rw[rM]
     exact k4
    .rintro σ H2 ⟨v4,rfl,hO2,ks2,hC2,hl2⟩
     refine⟨_,_,rfl,λc o hc=>hO2 _ _ (s' _ _ hc) (wT hc hd),ks2,?_,by simp at hl2;lia⟩
     have rM:(λp=>IN ax (es.take i) p+((if 0<[V.ref a1,V.ref a2].length/\e.1=p then 1 else 0)+(if 1<[V.ref a1,V.ref a2].length/\e.2=p then 1 else 0)))=IN ax (es.take (i+1)):=by
      funext p
      rw[take_snoc he,B3,if_pos EZ]
      simp
     rw[rM]at hC2
     exact hC2
   .have EZ:¬l7 ax e=true:=λq=>h (decide_eq_true (congrArg V.int (by
     unfold l7 at q
     rcases(show ax=0\/ax=1 by lia)with rfl|rfl
     .exact of_decide_eq_true q
     .exact of_decide_eq_true q)))
    refine⟨_,_,⟨rfl,rfl⟩,s',ks,?_,by lia⟩
    have rM:IN ax (es.take (i+1))=IN ax (es.take i):=by
     funext p
     rw[take_snoc he,B3,if_neg EZ,ft]
    rw[rM]
    exact hC
  .rintro σ H' ⟨v3,v4,rfl,s',ks,hC,Pp⟩
   walk_at "rd"
   rw[hlen,iK]at hC
   exact k H' d ks s' hd hC (by lia)
end
end Sq
end
section
namespace Sq
open Vbpcar (Pt)
def yx(p q:Pt):Prop:=p.y<q.y\/(p.y=q.y/\p.x<q.x)
theorem NO(p:Pt):¬yx p p:=λh=>by unfold yx at h;lia
theorem NN{l m:List Pt}(hl:l.Pairwise yx)(hm:m.Pairwise yx)(h:∀p,p∈l↔p∈m):l=m:=by
 have nd:∀{l:List Pt},l.Pairwise yx->l.Nodup:=λ{l}h=>h.imp λ{a b}cx e=>by subst e;exact NO _ cx
 refine List.Perm.eq_of_pairwise (le:=yx) (λa b _ _ h1 h2=> ?_) hl hm ((RT (nd hl) (nd hm)).mpr h)
 unfold yx at h1 h2
 lia
theorem Cc{l:List Pt}{p:Pt}:p∈f_ l↔p.x∈wn l/\p.y∈Db l:=by
 unfold f_
 rw[mT]
 constructor
 .rintro⟨y,hy,hp⟩
  obtain⟨x,hx,rfl⟩:=nw.mp hp
  exact⟨hx,hy⟩
 .rintro⟨hx,hy⟩
  exact⟨p.y,hy,nw.mpr ⟨p.x,hx,rfl⟩⟩
theorem LG(l:List Pt):(f_ l).Pairwise yx:=by
 unfold f_
 rw[Vk]
 refine⟨λy _=> ?_,?_⟩
 .rw[ee]
  exact(dM _).imp λ{a b}h=>.inr ⟨rfl,h⟩
 .refine(dM _).imp λ{a b}h p hp q hq=> ?_
  obtain⟨x,_,rfl⟩:=nw.mp hp
  obtain⟨x',_,rfl⟩:=nw.mp hq
  exact .inl h
def oS(l:List Pt)(e:Pt×Pt):Prop:=e.1∈f_ l/\e.2∈f_ l/\((e.1.y=e.2.y/\e.1.x<e.2.x)\/(e.1.x=e.2.x/\e.1.y<e.2.y))
theorem YW{l:List Pt}{e:Pt×Pt}(h:e∈qt l):oS l e:=by
 unfold qt at h
 obtain⟨p,hp,he⟩:=mT.mp h
 have hn:=Cc.mp hp
 rcases NE.mp he with he|he
 .cases hf:(wn l).find? (λx=>decide (p.x<x))with
  |none=>rw[hf]at he;cases he
  |some x=>
   rw[hf]at he
   cases zn.mp he
   have h1:=SO hf
   have h2:p.x<x:=of_decide_eq_true (List.find?_some (p:=λx=>decide (p.x<x)) hf)
   exact⟨hp,Cc.mpr ⟨h1,hn.2⟩,.inl ⟨rfl,h2⟩⟩
 .cases hf:(Db l).find? (λy=>decide (p.y<y))with
  |none=>rw[hf]at he;cases he
  |some y=>
   rw[hf]at he
   cases zn.mp he
   have h1:=SO hf
   have h2:p.y<y:=of_decide_eq_true (List.find?_some (p:=λy=>decide (p.y<y)) hf)
   exact⟨hp,Cc.mpr ⟨hn.1,h1⟩,.inr ⟨rfl,h2⟩⟩
theorem eC{l:List Pt}:∀e∈SB l,oS l e:=λe he=>YW (dh.mp he).1
theorem CC{l:List Pt}(p:Pt):∀{es:List (Pt×Pt)},(∀e∈es,oS l e)->
 IN 1 es p=((gd es p).filter λe=>decide (e.1.y=e.2.y)).length/\IN 0 es p=((gd es p).filter λe=> !decide (e.1.y=e.2.y)).length
 |[],_=>⟨rfl,rfl⟩
 |e::es,h=>by
  obtain⟨i1,i2⟩:=CC p (es:=es) λe' he'=>h e' (AT _ he')
  obtain⟨_,_,hk⟩:=h e Go
  have e12:e.1≠e.2:=λz=>by
   rcases hk with⟨_,q⟩|⟨_,q⟩<;>rw[z]at q<;>lia
  have adh:(if e.1=p then 1 else 0)+(if e.2=p then 1 else 0)=if e.1=p\/e.2=p then 1 else 0:=by
   by_cases z1:e.1=p
   .have z2:¬e.2=p:=λz=>e12 (z1.trans z.symm)
    simp[z1,z2]
   .by_cases z2:e.2=p<;>simp[z1,z2]
  unfold IN
  rw[i1,i2,adh]
  have acy:gd (e::es) p=if e.1=p\/e.2=p then e::gd es p else gd es p:=by
   unfold gd
   rw[eK]
   by_cases z:e.1=p\/e.2=p<;>simp[z]
  rw[acy]
  unfold l7
  rcases hk with⟨q1,q2⟩|⟨q1,q2⟩
  .have q3:¬e.1.x=e.2.x:=by lia
   by_cases z:e.1=p\/e.2=p
   .rw[if_pos z,if_pos z,eK,eK]
    simp[q1,q3];lia
   .rw[if_neg z,if_neg z]
    simp
  .have q3:¬e.1.y=e.2.y:=by lia
   by_cases z:e.1=p\/e.2=p
   .rw[if_pos z,if_pos z,eK,eK]
    simp[q1,q3];lia
   .rw[if_neg z,if_neg z]
    simp
theorem CF{α:Type}(f:α->Bool):∀l:List α,(l.filter f).length+(l.filter λx=> !f x).length=l.length
 |[]=>rfl
 |x::l=>by
  have:=CF f l
  rw[eK,eK]
  cases f x<;>simp<;>lia
theorem YF{l:List Pt}(p:Pt){es:List (Pt×Pt)}(h:∀e∈es,oS l e):(gd es p).length=IN 1 es p+IN 0 es p:=by
 obtain⟨h1,h2⟩:=CC p h
 rw[h1,h2]
 exact(CF _ _).symm
theorem Xj{l:List Pt}(p:Pt){es:List (Pt×Pt)}(h:∀e∈es,oS l e):
 (match gd es p with|[a,b]=>decide ((a.1.y=a.2.y)≠(b.1.y=b.2.y))|_=>false)=(decide (IN 1 es p=1)&&decide (IN 0 es p=1)):=by
 obtain⟨h1,h2⟩:=CC p h
 rw[h1,h2]
 have hs:=CF (λe:Pt×Pt=>decide (e.1.y=e.2.y)) (gd es p)
 generalize gd es p=L at*
 match L,hs with
 |[],_=>simp
 |[a],hs=>
  simp only[Os,mX]at hs
  rw[kF,cQ,decide_eq_true_iff,decide_eq_true_iff]
  constructor
  .intro z;cases z
  .rintro⟨z1,z2⟩;lia
 |[a,b],_=>
  by_cases za:a.1.y=a.2.y<;>by_cases zb:b.1.y=b.2.y<;>simp[za,zb,eK]
 |a::b::c::r,hs=>
  simp only[Os]at hs
  rw[kF,cQ,decide_eq_true_iff,decide_eq_true_iff]
  constructor
  .intro z;cases z
  .rintro⟨z1,z2⟩;lia
theorem eP{l:List Pt}{p:Pt}{ax:Nat}:∀{es:List (Pt×Pt)},(∀e∈es,oS l e)->IN ax es p≠0->p∈f_ l
 |[],_,h=>absurd rfl h
 |e::es,ho,h=>by
  by_cases z:IN ax es p=0
  .obtain⟨n1,n2,_⟩:=ho e Go
   unfold IN at h
   rw[z]at h
   by_cases z1:e.1=p
   .exact z1▸n1
   .by_cases z2:e.2=p
    .exact z2▸n2
    .exact absurd (by simp[z1,z2]) h
  .exact eP (λe' he'=>ho e' (AT _ he')) z
structure lz (l:List Pt) (ns:List Pt):Prop where
 ord:ns.Pairwise yx
 mem:∀p,p∈ns↔(IN 0 (SB l) p≠0\/IN 1 (SB l) p≠0)/\p∉l
theorem lz.joints{l ns:List Pt}(h:lz l ns):ns.filter (λp=>decide (3<=IN 1 (SB l) p+IN 0 (SB l) p))=nh l:=by
 refine NN (h.ord.filter _) ((LG l).filter _) λp=> ?_
 rw[dh,show p∈nh l↔p∈f_ l/\(decide (p∉l)&&decide (3<=(gd (SB l) p).length))=true from dh,h.mem,cQ,decide_eq_true_iff,decide_eq_true_iff,decide_eq_true_iff,YF p eC]
 constructor
 .rintro⟨⟨h1,h2⟩,h3⟩
  refine⟨?_,h2,h3⟩
  rcases h1 with h1|h1
  .exact eP eC h1
  .exact eP eC h1
 .rintro⟨_,h2,h3⟩
  exact⟨⟨by lia,h2⟩,h3⟩
theorem lz.bends{l ns:List Pt}(h:lz l ns):ns.filter (λp=>decide (IN 1 (SB l) p=1)&&decide (IN 0 (SB l) p=1))=ny l:=by
 refine NN (h.ord.filter _) ((LG l).filter _) λp=> ?_
 rw[dh,show p∈ny l↔p∈f_ l/\(decide (p∉l)&&(match gd (SB l) p with|[a,b]=>decide ((a.1.y=a.2.y)≠(b.1.y=b.2.y))|_=>false))=true from dh,h.mem,Xj p eC,cQ (decide (p∉l)),decide_eq_true_iff]
 constructor
 .rintro⟨⟨h1,h2⟩,h3⟩
  refine⟨?_,h2,h3⟩
  rcases h1 with h1|h1
  .exact eP eC h1
  .exact eP eC h1
 .rintro⟨_,h2,h3⟩
  refine⟨⟨?_,h2⟩,h3⟩
  rw[cQ,decide_eq_true_iff,decide_eq_true_iff]at h3
  lia
end Sq
end
section
namespace L2
open PySem PySem.Spec PyProof.Rows
section
variable{X:Cx}{pins:List (ac×Obj)}{σ:St}{H:Hp}{s:ap}
theorem Xx{Q:al->ap->Prop}{Pt:ac}{pos:Pos}{q:Str}{params:qY}{body:lv}{scope:aK}(I:Inv X pins σ H s)(aL:H Pt=some (.lam pos q))(hq:X.env.qual++"<lambda>"=q)(rP:defaultsOf params X.env=([],[]))
 (bG:closureFor scope X.env=pure [])(mf:X.env.globals=mainGlobals)(hC:∃c0,X.env.code=.ref c0/\m6 X.base c0 Pt)(hB:X.base.BuiltinsAt X.mg Pt)
 (h:∀(F c:ac)(pm ct:al)(H':Hp)(s':ap),Inv X pins σ H' s'->(∀b o,H b=some o->H' b=some o)->H F=none->H' F=some (FO F (gI "<lambda>" q params body scope [] pm c ct))->
   (∃ps:Array al,s'.heap.get? Pt=some {cls:=.none,data:=.fields ps}/\codeAmong pos ps.toList=some (.ref c))->Q (.ref F) s'):
 wpAny (model X.prog X.w) X.A (eval (.Lambda params body scope pos) X.env) Q X.xe s:=by
 obtain⟨ps,hP,tr,hc⟩:=I.ab Pt _ aL
 obtain⟨c0,NU,hd0⟩:=hC
 have hd:m6 s.heap c0 Pt:=by
  obtain⟨o,vs,file,tf,flags,tg,inF,text,tt,e1,e2⟩:=hd0
  exact⟨o,vs,file,tf,flags,tg,inF,text,tt,I.bk _ _ e1,e2⟩
 have hB':=hB.keeps I.bk
 have hgP:mainGlobals≠Pt:=λe=>by
  obtain⟨o,es,ep,e1,e2,_⟩:=I.mod.glob.keeps I.bk
  rw[e,hP]at e1
  cases e1
  cases e2
 refine PySem.W.kla_eval rP ?_
 rw[hq]
 have hg:s.heap.Ns mainGlobals X.mg:=I.mod.glob.keeps I.bk
 rcases hc with hc|⟨c,hc,xo,OC⟩
 .refine PySem.W.kla_makeFunction bG mf hg NU hd hP tr hc hgP hB' λc' gu h' tk ext hle rc hcr hP'=> ?_
  have hPn:∀b,H b=none->b≠Pt:=λb e z=>by rw[z,aL]at e;cases e
  have dB:H c'=none:=I.ab.fresh hle
  have hFn:H h'.objs.size=none:=I.ab.fresh (Ch hle (TW rc))
  have hcF:c'≠h'.objs.size:=Ps rc
  have H'at:∀b o,H b=some o->upd (upd H c' (.own Pt)) h'.objs.size (FO h'.objs.size (gI "<lambda>" q params body scope [] ((X.mg "__name__").getD .none) c' gu)) b=some o:=λb o e=>by
   rw[gl (wT e hFn),gl (wT e dB)];exact e
  have kept:∀b o,b≠Pt->s.heap.get? b=some o->(h'.push (gI "<lambda>" q params body scope [] ((X.mg "__name__").getD .none) c' gu)).get? b=some o:=λb o hb e=>P5 _ (ext b o hb e)
  have hPg:(h'.push (gI "<lambda>" q params body scope [] ((X.mg "__name__").getD .none) c' gu)).get? Pt=some {cls:=.none,data:=.fields (ps++ #[rawInt pos.line,rawInt pos.col,.ref c'])}:=P5 _ hP'
  have hFg:(h'.push (gI "<lambda>" q params body scope [] ((X.mg "__name__").getD .none) c' gu)).get? h'.objs.size=some (gI "<lambda>" q params body scope [] ((X.mg "__name__").getD .none) c' gu):=Tl _ rfl
  generalize acA:h'.push (gI "<lambda>" q params body scope [] ((X.mg "__name__").getD .none) c' gu)=g at kept hPg hFg
  have Ow:g.CodeRec (.ref c') q:=by
   obtain⟨c1,o1,vs1,t1,e1,e2,e3⟩:=hcr
   exact⟨c1,o1,vs1,t1,e1,by rw[<-acA];exact P5 _ e2,e3⟩
  have rO:codeAmong pos (ps++ #[rawInt pos.line,rawInt pos.col,im c']).toList=some (.ref c'):=by
   rw[Vn]
   exact codeAmong_snoc _ tr hc
  refine h _ c' _ gu (upd (upd H c' (.own Pt)) h'.objs.size (FO h'.objs.size (gI "<lambda>" q params body scope [] ((X.mg "__name__").getD .none) c' gu))) {s with heap:=g,toks:=tk} (I.un ?_ ?_) H'at hFn bv ⟨_,hPg,rO⟩
  .refine⟨λb o e n _ _=>kept b o (hPn b n) e,λb o e n _ _=>⟨o.slots,kept b o (hPn b n) e⟩,λb o e n _=> ?_,λb o e _=> ?_,λb xs e=>H'at b _ e,λb o u e=>H'at b _ e,λb ps e=>⟨#[],by rw[Array.append_empty];exact H'at b _ e⟩⟩
   .have hb:=FB e
    rw[gl (Ps (b7 hb (Ch hle (TW rc)))),gl (Ps (b7 hb hle))]
    exact n
   .by_cases z:b=Pt
    .exact⟨_,z▸hPg⟩
    .exact⟨o,kept b o z e⟩
  .intro b o e
   by_cases z1:b=h'.objs.size
   .rw[z1,bv]at e
    cases e
    rw[z1]
    exact Ep hFg
   .rw[gl z1]at e
    by_cases z2:b=c'
    .rw[z2,bv]at e
     cases e
     rw[z2]
     obtain⟨c1,o1,vs1,t1,e1,e2,e3⟩:=Ow
     cases e1
     exact⟨o1,e2⟩
    .rw[gl z2]at e
     by_cases z3:b=Pt
     .rw[z3,aL]at e
      cases e
      rw[z3]
      refine⟨_,hPg,by rw[Vn];exact T8 _ tr,.inr ⟨c',rO,?_,Ow⟩⟩
      rw[gl hcF,bv]
     .refine(I.ab b o e).gq (λb' u hb' q=>kept b' u ?_ q) (λb' q=>H'at b' _ q) λb' xs q=>H'at b' _ q
      rcases hb' with z|z
      .rw[z];exact z3
      .intro z4
       rw[z4,aL]at z
       cases z
 .refine PySem.W.kla_makeFunctionHit bG mf hg NU hd hP tr hc hB' λgu h' tk kp hle=> ?_
  have kp2:∀b o,s.heap.get? b=some o->(h'.push (gI "<lambda>" q params body scope [] ((X.mg "__name__").getD .none) c gu)).get? b=some o:=λb o e=>P5 _ (kp b o e)
  have hFn:H h'.objs.size=none:=I.ab.fresh hle
  exact h _ c _ gu _ _ (D6 (t':=tk) I kp2 hle (Tl _ rfl)) (λb o e=>by rw[gl (wT e hFn)];exact e) hFn bv ⟨ps,kp2 _ _ hP,hc⟩
end
section
variable{X:Cx}
theorem U6{k:Nat}{KeyOf:Hp->ac->List Int->Prop}{Pt:ac}{e:lv}{te:TE}{np pos fJ kp:Pos}{q:Str}{params:qY}{body:lv}{scope:aK}{N ps:List Str}(hg:Gl X "sorted")(hm:X.mg "sorted"=none)(he:PE X e te)
 (hr:UF (k+3) X.A)(S:ut N ps scope)(hp1:ps.length=1)(hq:X.env.qual++"<lambda>"=q)(rP:defaultsOf params X.env=([],[]))(bG:closureFor scope X.env=pure [])(mf:X.env.globals=mainGlobals)
 (hC:∃c0,X.env.code=.ref c0/\m6 X.base c0 Pt)(hB:X.base.BuiltinsAt X.mg Pt)
 (rA:∀(pm lm ct u:al),bindArgs (Jt "<lambda>" q params body scope [] pm lm ct) ⟨[u],[]⟩=pure (ps.zip [u]))
 (i8:∀(A:ww)(s:ap)(H:Hp)(F:ac)(cd:al),∃t,PE (ia ae X.prog X.w X.K X.mg X.base N q scope F cd A X.stack s H E0) body t/\
   ∀(z:ac)(key:List Int)(Q:VK),KeyOf H z key->(∀p H',fG H H'->H' p=some (.tup (key.map V.int))->Q (.ref p) H')->t (start N [.ref z]) H Q)
 (hk1:∀(H H':Hp)(z:ac)(key:List Int),KeyOf H z key->(∀b xs,H b=some (.tup xs)->H' b=some (.tup xs))->KeyOf H' z key)
 (ay:starEach [e] X.env=[(false,eval e X.env)]:=by rfl)
 (hb:bootBuiltins "sorted"=some (.builtin "sorted"):=by decide+kernel):
 PE X (.Call (.Name "sorted" np) [e] [⟨some (kO "key"),.Lambda params body scope fJ,kp⟩] pos) (L0 X.K KeyOf Pt fJ q te):=by
 intro pins s σ H Q I h
 refine mL (i7 I hg hm hb ?_ (by decide) (by decide))
 refine callWith_kw ?_ (by rw[ay];rfl) (by rw[ay];rfl) rfl rfl
 rw[ay]
 show wpAny _ _ (spliced ((false,eval e X.env)::backTo pos [])) _ _ s
 refine yW (rs (he pins s σ H _ I h) λu s1⟨v,H1,I1,rv,a,zs,ev,hs,hz,aL,hlen,k⟩=> ?_)
 subst ev
 cases rv
 refine Iz ?_
 refine kws_cons ?_
 refine Xx I1 aL hq rP bG mf hC hB λF c pm ct H2 s2 I2 sm hFn hF UV=> ?_
 refine kws_nil ?_
 obtain⟨pt,hpt,rO⟩:=UV
 have hlam2:=sm _ _ aL
 obtain⟨od,I3⟩:=I2.lock hlam2 trivial
 have gA:od={cls:=.none,data:=.fields pt}:=by
  obtain⟨e1,_⟩:=I3.ab Pt _ bv
  rw[hpt]at e1
  exact(TD e1).symm
 subst gA
 have hnf:=I2.acL hlam2 trivial
 have hFP:F≠Pt:=λz=>by rw[z,aL]at hFn;cases hFn
 have t12:∀b xs,H1 b=some (.tup xs)->upd H2 Pt (.ai {cls:=.none,data:=.fields pt} (.lam fJ q)) b=some (.tup xs):=λb xs e=>by
  rw[gl (λz=>by rw[z,aL]at e;cases e)];exact sm _ _ e
 have hs3:aa X.K (upd H2 Pt (.ai {cls:=.none,data:=.fields pt} (.lam fJ q))) a (zs.map λz=>V.ref z.1):=by
  rcases hs with(h|⟨o,h⟩)|h
  .exact .inl (.inl (by rw[gl (λz=>by rw[z,aL]at h;cases h)];exact sm _ _ h))
  .exact .inl (.inr ⟨o,by rw[gl (λz=>by rw[z,aL]at h;cases h)];exact sm _ _ h⟩)
  .exact .inr h
 obtain⟨ci,rv,hl,hz0⟩:=I3.list hs3
 have ei:=kZ rv
 subst ei
 have acH:wb X pins σ X.A.in1.in1 (upd H2 Pt (.ai {cls:=.none,data:=.fields pt} (.lam fJ q))) F zs:=by
  intro z c_ H4 s4 I4 sm4
  have hF4:H4 F=some (FO F (gI "<lambda>" q params body scope [] pm c ct)):=sm4 _ _ (by rw[gl hFP];exact hF)
  obtain⟨g1,ps',g2,g3,g4⟩:=I4.ab Pt _ (sm4 _ _ bv)
  have eps:ps'=pt:=by
   rw[g1]at g2
   cases g2
   rfl
  subst eps
  have OC:s4.heap.CodeRec (.ref c) q:=by
   rcases g4 with g4|⟨c2,g5,g6,g7⟩
   .rw[rO]at g4;cases g4
   .rw[rO]at g5;cases g5;exact g7
  obtain⟨t,ht,hq4⟩:=i8 X.A.in1.in1 s4 H4 F (.ref c)
  have rS:=hk1 _ H4 _ _ (hz z c_).1 λb xs e=>sm4 _ _ (t12 b xs e)
  refine cE (aad (Q:=λv H'=>∃p,v=.ref p/\fG H4 H'/\PP H' (p,z.2)) (vs:=[.ref z.1]) (us:=[.ref z.1]) S hr.in1.in1 rfl I4 (lC I4 hF4) OC (rA _ _ _ _) (by rw[hp1];rfl) (.cons rfl .nil) ht (hq4 z.1 z.2 _ rS λp H' e1 e2=>⟨p,rfl,e1,e2⟩)) (λu s5 hu=> ?_) (λ_ _ e=>e)
  obtain⟨v,H5,I5,rv5,p,rfl,e1,e2⟩:=hu
  cases rv5
  exact⟨p,H5,rfl,I5,e1,e2⟩
 refine Xw I3 hl.isList (λz c_=>(hz z c_).2) hlen acH λys H4 s4 c4 p i1 i2 i3 i4 i5 i6=> ?_
 have hp4:H4 Pt=some (.ai {cls:=.none,data:=.fields pt} (.lam fJ q)):=i4 _ _ bv
 have I5:=i3.unlock hp4 hnf
 have hpP:p≠Pt:=λz=>by rw[z,bv]at i5;cases i5
 have hp2:H2 p=none:=by rw[gl hpP]at i5;exact i5
 have hp1':H1 p=none:=by
  cases e:H1 p with
  |none=>rfl
  |some o=>rw[sm _ _ e]at hp2;cases hp2
 have h6:upd H4 Pt (.lam fJ q) p=some (FO p (seqObj "list" (ys.map λz=>im z.1).toArray c4)):=by rw[gl hpP];exact i6
 have g6:=lC I5 h6
 have iy:ys.length<=100:=by rw[i1.length_eq];exact hlen
 have I6:=I5.write (x:=p) (e:=p) (o:=.lst (ys.map λz=>V.ref z.1)) (t':=s4.toks) (h':=s4.heap) (by rw[h6];trivial) (.inl rfl) (λb u _ e=>e) ⟨_,g6⟩ ⟨by rw[dL,bu];lia,_,c4,vK ys,g6⟩
 refine⟨.ref p,_,I6,rfl,k ys _ p i1 i2 (λb o e=> ?_) hp1' bv⟩
 rw[gl (wT e hp1')]
 by_cases z:b=Pt
 .rw[z,aL]at e
  cases e
  rw[z,bv]
 .rw[gl z]
  exact i4 _ _ (by rw[gl z];exact sm _ _ e)
end
end L2
namespace L2
open PySem PySem.Spec PyProof.Rows
section
variable{X:Cx}
theorem U7(K:ge)(hK:X.K=K){k:Nat}{KeyOf:Hp->ac->List Int->Prop}{Pt:ac}{e:lv}{te:TE}{np pos fJ kp:Pos}{q:Str}{params:qY}{body:lv}{scope:aK}{N ps:List Str}(hg:Gl X "sorted")(hm:X.mg "sorted"=none)(he:PE X e te)
 (hr:UF (k+3) X.A)(S:ut N ps scope)(hp1:ps.length=1)(hq:X.env.qual++"<lambda>"=q)(rP:defaultsOf params X.env=([],[]))(bG:closureFor scope X.env=pure [])(mf:X.env.globals=mainGlobals)
 (hC:∃c0,X.env.code=.ref c0/\m6 X.base c0 Pt)(hB:X.base.BuiltinsAt X.mg Pt)
 (rA:∀(pm lm ct u:al),bindArgs (Jt "<lambda>" q params body scope [] pm lm ct) ⟨[u],[]⟩=pure (ps.zip [u]))
 (i8:∀(A:ww)(s:ap)(H:Hp)(F:ac)(cd:al),∃t,PE (ia ae X.prog X.w X.K X.mg X.base N q scope F cd A X.stack s H E0) body t/\
   ∀(z:ac)(key:List Int)(Q:VK),KeyOf H z key->(∀p H',fG H H'->H' p=some (.tup (key.map V.int))->Q (.ref p) H')->t (start N [.ref z]) H Q)
 (hk1:∀(H H':Hp)(z:ac)(key:List Int),KeyOf H z key->(∀b xs,H b=some (.tup xs)->H' b=some (.tup xs))->KeyOf H' z key)
 (ay:starEach [e] X.env=[(false,eval e X.env)]:=by rfl)
 (hb:bootBuiltins "sorted"=some (.builtin "sorted"):=by decide+kernel):
 PE X (.Call (.Name "sorted" np) [e] [⟨some (kO "key"),.Lambda params body scope fJ,kp⟩] pos) (L0 K KeyOf Pt fJ q te):=by
 subst hK
 exact U6 hg hm he hr S hp1 hq rP bG mf hC hB rA i8 hk1 ay hb
end
theorem re.okL{P:lw}{w:li}{K:ge}{mg:Str->Option al}{base:io}{x qual:Str}{st:nl}{f:ac}{fd:on}{N ps:List Str}{k:Nat}{sp:Sp}(F:re K x qual st f fd)(S:ut N ps (sn st))(len:∀vs H Q E,sp vs H Q E->vs.length=ps.length)
 (i8:∀(A:ww)(outer:List Env)(s:ap)(H:Hp)(vs:List V)(Q:VK)(E:XK),UF k (A.deeper (envOfC qual (sn st) s.heap.objs.size f fd.code))->sp vs H Q E->
   ∃t,eF (ia ae P w K mg base N qual (sn st) f fd.code A outer s H E).pG (g8 st) t/\t {nx:=λ_ H'=>Q .ag H',rt:=Q} (start N vs) H):o0 P w K mg base ae (k+1) f fd ps sp:=by
 obtain⟨oc,od,kV,doc,pm,an,lm,ct,da,rfl,lk,d5⟩:=F.ex
 refine NT lk d5 S len λA outer s H vs Q E hr c6=> ?_
 obtain⟨t,h,q⟩:=i8 A outer s H vs Q E hr c6
 exact⟨t,h.pG,q⟩
end L2
end
section
namespace Sq
open PySem PySem.Spec PyProof.Rows L2
open Vbpcar (Pt)
noncomputable def lQ:HO:=.lam ⟨279,31,279,71⟩ "free_nodes.<locals>.<lambda>"
def Em(H:Hp)(z:ac)(key:List Int):Prop:=∃n a b x y,H z=some (.tup [.ref n,.int a,.int b])/\H n=some (.tup [.int x,.int y])/\key=[y,x]
theorem YQ:∀(H H':Hp)(z:ac)(key:List Int),Em H z key->(∀b xs,H b=some (.tup xs)->H' b=some (.tup xs))->Em H' z key:=by
 rintro H H' z key ⟨n,a,b,x,y,h1,h2,h3⟩ k
 exact⟨n,a,b,x,y,k _ _ h1,k _ _ h2,h3⟩
local macro_rules | `(tactic| walk_at "lam") => `(tactic| (intro A' s' H' F' cd; refine ⟨_, WP (am (ul rf (ul rf (pv 0) nb (fun _ _ => rfl)) nb (fun _ _ => rfl)) (am (ul rf (ul rf (pv 0) nb (fun _ _ => rfl)) nb (fun _ _ => rfl)) bi)), ?_⟩; intro z key Q' rS k'; obtain ⟨n, a, b, x, y, h1, h2, h3⟩ := rS; subst h3; walk_at "rd"; refine aO h1 rfl (aO h2 rfl (aO h1 rfl (aO h2 rfl ?_))); walk_at "rd"; exact ⟨by decide, fun p hp => k' p _ (cr hp) bv⟩))
def oQ(H:Hp)(es:List (Pt×Pt))(p:Pt)(v:V):Prop:=∃b n,v=.ref b/\H b=some (.tup [.ref n,.int (IN 1 es p:Nat),.int (IN 0 es p:Nat)])/\H n=some (.tup [.int p.x,.int p.y])
def FNL(H:Hp)(l:ac)(es:List (Pt×Pt))(ns:List Pt):Prop:=∃vs:List V,H l=some (.lst vs)/\Paired (λp v=>oQ H es p v) ns vs
def zq(L:ac):Sp:=λvs H Q _=>∃l ps,vs=[.ref l]/\PL H l ps/\ps.length<=7/\H L=some lQ/\∀H' q ns,db H H'->H q=none->lz ps ns->FNL H' q (SB ps) ns->Q (.ref q) H'
theorem Ds{H:Hp}:∀{kvs:List (List Key×V)}{qs:List ac}{ks:List Pt},Paired (λ(z:List Key×V)(q:ac)=>H q=some (.tup (z.1.map kV))) kvs qs->kvs.map (·.1)=ks.map bW->
 ∃zs:List (ac×List Int),zs.map (·.1)=qs/\zs.map (·.2)=KB ks/\∀z∈zs,PP H z
 |_,_,[],.nil,_=>⟨[],rfl,rfl,λz hz=>(nomatch hz)⟩
 |_,_,p::ks,.nil,e=>nomatch e
 |_,_,[],.cons _ _,e=>nomatch e
 |z::kvs,q::qs,p::ks,.cons h t,e=>by
  simp only[FS,jy]at e
  obtain⟨zs,e1,e2,e3⟩:=Ds t e.2
  refine⟨(q,[p.x,p.y])::zs,by rw[FS,e1],by rw[FS,e2];rfl,λy hy=> ?_⟩
  rcases wl.mp hy with rfl|hy
  .show H q=some (.tup [.int p.x,.int p.y])
   rw[h,e.1];rfl
  .exact e3 y hy
theorem MR{zs:List (ac×List Int)}{qs:List ac}(h:zs.map (·.1)=qs):qs.map V.ref=zs.map λz=>V.ref z.1:=by
 rw[<-h,P6];rfl
theorem Eb:∀{l:List (List Int)},(∀c∈l,∃p:Pt,c=[p.x,p.y])->∃ps,l=KB ps
 |[],_=>⟨[],rfl⟩
 |c::l,h=>by
  obtain⟨p,e⟩:=h c Go
  obtain⟨ps,e2⟩:=Eb (l:=l) λc' hc'=>h c' (AT _ hc')
  exact⟨p::ps,by rw[e,e2];rfl⟩
theorem XX{l:List Pt}(h:(KB l).Nodup):l.Nodup:=by
 unfold KB at h
 exact(ee.mp h).imp λ{a b}cx e=>cx (by rw[e])
theorem wo{H:Hp}{es:List (Pt×Pt)}:∀{ns:List Pt}{vs:List V},Paired (λp v=>oQ H es p v) ns vs->∃ts:List (ac×Pt),vs=ts.map (λt=>V.ref t.1)/\ns=ts.map (·.2)/\∀t∈ts,oQ H es t.2 (.ref t.1)
 |_,_,.nil=>⟨[],rfl,rfl,λz hz=>(nomatch hz)⟩
 |_,_,.cons (a:=p) h t=>by
  obtain⟨ts,e1,e2,e3⟩:=wo t
  obtain⟨b,n,rfl,h1,h2⟩:=h
  refine⟨(b,p)::ts,by rw[FS,e1],by rw[FS,e2],λy hy=> ?_⟩
  rcases wl.mp hy with rfl|hy
  .exact⟨b,n,rfl,h1,h2⟩
  .exact e3 y hy
theorem MF{H:Hp}{es:List (Pt×Pt)}:∀{ts:List (ac×Pt)},(∀t∈ts,oQ H es t.2 (.ref t.1))->Paired (λp v=>oQ H es p v) (ts.map (·.2)) (ts.map λt=>V.ref t.1)
 |[],_=>.nil
 |t::ts,h=>.cons (h t Go) (MF λt' ht'=>h t' (AT _ ht'))
theorem abr{p q:Pt}(h:HT.lexLt [q.y,q.x] [p.y,p.x]=false)(bn:p≠q):yx p q:=by
 rw[HT.dq,HT.dq]at h
 unfold yx
 by_cases e:q.y=p.y
 .rw[if_pos e]at h
  by_cases e2:q.x=p.x
  .exact absurd (by cases p;cases q;simp_all) bn
  .rw[if_neg e2,decide_eq_false_iff_not]at h
   right;lia
 .rw[if_neg e,decide_eq_false_iff_not]at h
  left;lia
instance:DecidableEq Pt:=inferInstance
section
variable{P:lw}{w:li}{K:ge}{mg:Str->Option al}{base:io}{Ad:aV}
theorem SA{f L:ac}{fd:on}(F:re K "free_nodes" "free_nodes" z8 f fd)(T:Txt mg Ad)(hC:∃c0,fd.code=.ref c0/\m6 base c0 L)(hB:base.BuiltinsAt mg L)
 (m_:Def P w K mg base "tree_lines" 6 qf zt)(u6:Def P w K mg base "lines_at" 1 vg Ji):o0 P w K mg base ae 7 f fd qe (zq L):=by
 have nd:=HB.nd
 refine F.okL HB (λvs H Q E h=> ?_) (λA outer s H vs Q E hr h=> ?_)
 .obtain⟨l,ps,rfl,_⟩:=h
  rfl
 .obtain⟨l,ps,rfl,hl,h7,aL,k⟩:=h
  refine⟨_,(ga (pS 1 nd (sK m_ (hr.mono (by decide)) (am (pv 0) bi)))
   (ga (pS 2 nd (sK u6 (hr.mono (by decide)) (am (pv 1) (am nb bi))))
   (ga (pS 3 nd (sK u6 (hr.mono (by decide)) (am (pv 1) (am nb bi))))
   (ga (pS 4 nd (FM (Uy rfl) (by rfl) T.gX kT (am (wp (aav rfl (g_ hr)) (dJ (G0 K rfl rfl (Nk hr)) (by rfl) T.lF q_ (am (wp gj (dJ (zK rfl) (by rfl) T.fE gZ (am (pv 2) bi)) (dJ (zK rfl) (by rfl) T.fE gZ (am (pv 3) bi))) bi)) (dJ (G0 K rfl rfl (Nk hr)) (by rfl) T.lF q_ (am (pv 0) bi))) bi)))
   (ga (jK (i:=5) rfl nd rfl rfl (jN rfl rfl rfl rfl) (P7 K rfl (pv 4)) (own:=[("node",6)]) (Re rfl) (λ_ _ _ _ _=>(xz 6 nd)) (λ_ _ _ _ _=>T0) (λ_ _ _ _ _=>(WP (am (pv 6) (am (CQ (bU hr) (pv 3) (pv 6) nb ⟨rfl,rfl,rfl,rfl⟩) (am (CQ (bU hr) (pv 2) (pv 6) nb ⟨rfl,rfl,rfl,rfl⟩) bi))))))
   (jp (pi (U7 K rfl (k:=0) (KeyOf:=Em) (N:=["entry"]) (ps:=["entry"]) (q:="free_nodes.<locals>.<lambda>") (by rfl) T.gX (pv 5) (hr.mono (by decide)) (by exact⟨rfl,rfl,rfl,by decide+kernel,rfl,by decide+kernel,by decide+kernel⟩) rfl (by rfl) (by rfl) (by rfl) (by rfl) hC hB (by intros;rfl) (by walk_at "lam") YQ)))))))),?_⟩
  refine aQ λR hR=> ?_
  walk_at "rd"
  have ht98:(SB ps).length<=98:=C7 h7
  refine⟨l,ps,rfl,hl,h7,λH1 q1 s1 n1 hLN=>hR _ _ ?_⟩
  clear hR
  refine aQ λR hR=> ?_
  walk_at "rd"
  refine⟨q1,SB ps,0,rfl,hLN,by lia,by lia,λH2 d0 ks0 s2 n2 hC0 _=>hR _ _ ?_⟩
  clear hR
  refine aQ λR hR=> ?_
  walk_at "rd"
  refine⟨q1,SB ps,1,rfl,LN.same s2 hLN,by lia,by lia,λH3 d1 ks1 s3 n3 hC1 _=>hR _ _ ?_⟩
  clear hR
  refine aQ λR hR=> ?_
  walk_at "rd"
  have s03:db H H3:=(s1.trans s2).trans s3
  obtain⟨kv0,g0,k0,nd0,m0,v0⟩:=CN.same s3 hC0
  obtain⟨kv1,g1,k1,nd1,m1,v1⟩:=hC1
  have b0:ks0.length<=49:=Ch (k7 nd0 λp hp=>eP eC ((m0 p).mp hp)) (gW h7)
  have b1:ks1.length<=49:=Ch (k7 nd1 λp hp=>eP eC ((m1 p).mp hp)) (gW h7)
  refine⟨d0,kv0,rfl,g0,λqs0 p0 pr0 np0=> ?_⟩
  have s4:=cr (o:=.lst (qs0.map V.ref)) np0
  have l0:upd H3 p0 (.lst (qs0.map V.ref)) p0=_:=bv
  generalize upd H3 p0 (.lst (qs0.map V.ref))=H4 at*
  refine⟨d1,kv1,rfl,s4 _ _ g1,λqs1 p1 pr1 np1=> ?_⟩
  obtain⟨z0,e0,f0,t0⟩:=Ds pr0 k0
  obtain⟨z1,e1,f1,t1⟩:=Ds pr1 k1
  have s5:=cr (o:=.lst (qs1.map V.ref)) np1
  have l1:upd H4 p1 (.lst (qs1.map V.ref)) p1=_:=bv
  generalize upd H4 p1 (.lst (qs1.map V.ref))=H5 at*
  have c0:z0.length=ks0.length:=by have:=congrArg dm f0;simpa[KB]using this
  have c1:z1.length=ks1.length:=by have:=congrArg dm f1;simpa[KB]using this
  have q0:qs0.length=z0.length:=by rw[<-e0,dL]
  have q1':qs1.length=z1.length:=by rw[<-e1,dL]
  refine⟨p0,p1,_,_,rfl,rfl,s5 _ _ l0,l1,by rw[dL,dL,bu];lia,λp2 np2=> ?_⟩
  have s6:=cr (o:=.lst (qs0.map V.ref++qs1.map V.ref)) np2
  have l2:upd H5 p2 (.lst (qs0.map V.ref++qs1.map V.ref)) p2=some (.lst ((z0++z1).map λz=>V.ref z.1)):=by
   rw[bv,MR e0,MR e1,GM]
  generalize upd H5 p2 (.lst (qs0.map V.ref++qs1.map V.ref))=H6 at*
  have s36:db H3 H6:=(s4.trans s5).trans s6
  have tz:∀z∈z0++z1,PP H6 z:=λz hz=>by
   rcases NE.mp hz with hz|hz
   .exact s36 _ _ (t0 z hz)
   .exact(s5.trans s6) _ _ (t1 z hz)
  refine⟨p2,z0++z1,rfl,aa.of l2,tz,by rw[Rs];lia,λp3 ys np3 sub3 cont3 nod3=> ?_⟩
  have s7:=cr (o:=bg P w p3 ys) np3
  have l3:upd H6 p3 (bg P w p3 ys) p3=some (bg P w p3 ys):=bv
  change ED K P w [V.ref l] (upd H6 p3 (bg P w p3 ys)) _
  generalize upd H6 p3 (bg P w p3 ys)=H7 at*
  obtain⟨zp,FU,PU,iz⟩:=TL.same ((s03.trans s36).trans s7) hl
  have adH:zp.length=ps.length:=by have:=congrArg dm PU;simpa[KB]using this
  refine⟨l,zp,rfl,aa.of FU,iz,by lia,λp4 yb np4 sub4 cont4 nod4=> ?_⟩
  have s8:=cr (o:=bg P w p4 yb) np4
  have l4:upd H7 p4 (bg P w p4 yb) p4=some (bg P w p4 yb):=bv
  change N7 P w (V.ref p3) (V.ref p4) (upd H7 p4 (bg P w p4 yb)) _
  generalize upd H7 p4 (bg P w p4 yb)=H8 at*
  have ty:∀z∈ys,PP H8 z:=λz hz=>(s7.trans s8) _ _ (tz z (sub3 z hz))
  refine⟨p3,p4,ys,yb,rfl,rfl,s8 _ _ l3,l4,ty,λz hz=>s8 _ _ (iz z (sub4 z hz)),λp5 yr np5 sub5 cont5 nod5=> ?_⟩
  have s9:=cr (o:=bg P w p5 yr) np5
  have l5:upd H8 p5 (bg P w p5 yr) p5=some (bg P w p5 yr):=bv
  change KH P w [V.ref p5] (upd H8 p5 (bg P w p5 yr)) _
  generalize upd H8 p5 (bg P w p5 yr)=H9 at*
  have cz:∀c,c∈yr.map (·.2)↔(c∈KB ks0\/c∈KB ks1)/\c∉KB ps:=λc=>by
   rw[cont5,cont3,cont4,PU,GM,f0,f1,NE]
  obtain⟨dr,O_⟩:∃dr,yr.map (·.2)=KB dr:=Eb λc hc=>by
   rcases((cz c).mp hc).1 with h|h<;>(unfold KB at h;obtain⟨p,_,rfl⟩:=nw.mp h;exact⟨p,rfl⟩)
  have Qi:∀z∈yr,PP H9 z/\z.2≠[]:=λz hz=>by
   refine⟨s9 _ _ (ty z (sub5 z hz)),?_⟩
   have:z.2∈KB dr:=by rw[<-O_];exact nw.mpr ⟨z,hz,rfl⟩
   unfold KB at this
   obtain⟨p,_,e⟩:=nw.mp this
   rw[<-e];exact List.cons_ne_nil _ _
  refine⟨p5,yr,rfl,l5,Qi,λyn p6 perm6 _ np6=>hR _ _ ?_⟩
  clear hR
  have s10:=cr (o:=.lst (yn.map λz=>V.ref z.1)) np6
  have l6:upd H9 p6 (.lst (yn.map λz=>V.ref z.1)) p6=some (.lst (yn.map λz=>V.ref z.1)):=bv
  generalize upd H9 p6 (.lst (yn.map λz=>V.ref z.1))=H10 at*
  have s3a:db H3 H10:=(((s36.trans s7).trans s8).trans s9).trans s10
  obtain⟨dn,xA⟩:∃dn,yn.map (·.2)=KB dn:=Eb λc hc=>by
   have:c∈KB dr:=by rw[<-O_];exact(perm6.map (·.2)).mem_iff.mp hc
   unfold KB at this
   obtain⟨p,_,rfl⟩:=nw.mp this
   exact⟨p,rfl⟩
  have Fz:∀p,p∈dn↔(IN 0 (SB ps) p≠0\/IN 1 (SB ps) p≠0)/\p∉ps:=λp=>by
   rw[<-qT,<-xA,(perm6.map (·.2)).mem_iff,cz,qT,qT,qT,m0,m1]
  have FX:dn.Nodup:=XX (by rw[<-xA];exact(perm6.map (·.2)).nodup_iff.mpr nod5)
  have bdn:dn.length<=49:=Ch (k7 FX λp hp=>by
   rcases((Fz p).mp hp).1 with h|h
   .exact eP eC h
   .exact eP eC h) (gW h7)
  have ldn:dn.length=(yn.map λz=>V.ref z.1).length:=by
   have:=congrArg dm xA
   unfold KB at this
   rw[dL,dL]at this
   rw[dL];exact this.symm
  have tyn:∀z∈yn,PP H10 z:=λz hz=>s10 _ _ (Qi z (perm6.mem_iff.mp hz)).1
  walk_at "rd"
  refine⟨⟨_,aa.of l6⟩,λD hD=>ou dn (λ_=>true) (λp v H=>oQ H (SB ps) p v) (λ_ _ _ _ k r=> ?_) ldn (by rw[<-ldn,bu];lia) hD (aa.of l6) (λi x p H' C N hx hp s' hC hN=> ?_) λH11 acc s11 IR iw=> ?_⟩
  .obtain⟨b,n,h1,h2,h3⟩:=r
   exact⟨b,n,h1,k _ _ h2,k _ _ h3⟩
  .rw[wP]at hx
   obtain⟨z,hz,rfl⟩:=kh.mp hx
   have xq:=s' _ _ (tyn z (Tk hz))
   have ez:z.2=[p.x,p.y]:=by
    have h1:(yn.map (·.2))[i]? =some z.2:=by rw[wP,hz];rfl
    have h2:(KB dn)[i]? =some [p.x,p.y]:=by unfold KB;rw[wP,hp];rfl
    rw[xA,h2]at h1
    exact(TD h1).symm
   rw[ez]at xq
   have g0':=(s3a.trans s') _ _ g0
   have g1':=(s3a.trans s') _ _ g1
   have x0:(On kv0 (bW p)).getD (V.int 0)=.int (IN 0 (SB ps) p:Nat):=by
    rw[v0];split
    .rename_i h;rw[h];rfl
    .rfl
   have x1:(On kv1 (bW p)).getD (V.int 0)=.int (IN 1 (SB ps) p:Nat):=by
    rw[v1];split
    .rename_i h;rw[h];rfl
    .rfl
   walk_at "rd"
   refine⟨.inr ⟨kv1,.inl g1'⟩,_,.inr ⟨kv1,bW p,z.1,.inl g1',rfl,xq,rfl⟩,.inr ⟨kv0,.inl g0'⟩,_,.inr ⟨kv0,bW p,z.1,.inl g0',rfl,xq,rfl⟩,by decide,λb hb=> ?_⟩
   rw[x0,x1]
   exact hC rfl _ _ (cr hb) ⟨b,z.1,rfl,bv,(cr hb) _ _ xq⟩
  .rw[kP]at iw
   obtain⟨ts,w1,w2,w3⟩:=wo iw
   subst w1
   walk_at "rd"
   have Ew:ts.length=dn.length:=by rw[w2,dL]
   refine⟨.ref D,rfl,D,ts.map (λt=>(t.1,[t.2.y,t.2.x])),rfl,aa.of ?_,λz hz=> ?_,((s03.trans s3a).trans s11) _ _ aL,by rw[dL,Ew];lia,λyf H12 p7 perm7 pw7 sm7 np7 hp7=> ?_⟩
   .rw[IR,P6];try rfl
   .obtain⟨t,ht,rfl⟩:=nw.mp hz
    obtain⟨b,n,h1,h2,h3⟩:=w3 t ht
    cases h1
    exact⟨⟨n,_,_,t.2.x,t.2.y,h2,h3,rfl⟩,List.cons_ne_nil _ _⟩
   .obtain⟨tf,q1,q2⟩:=gL perm7 rfl
    subst q2
    have s12:db H11 H12:=sm7
    have sAll:db H H12:=((s03.trans s3a).trans s11).trans s12
    refine k H12 p7 (tf.map (·.2)) sAll (((s03.trans s3a).trans s11).free np7) ⟨?_,λp=> ?_⟩ ⟨_,by rw[hp7,P6],?_⟩
    .have nd2:(tf.map (·.2)).Nodup:=by
      rw[w2]at FX
      exact(q1.map (·.2)).nodup_iff.mpr FX
     rw[ee]at pw7
     rw[ee]
     rw[List.Nodup,ee]at nd2
     exact(pw7.and nd2).imp λ{a b}h=>abr h.1 h.2
    .rw[(q1.map (·.2)).mem_iff,<-w2];exact Fz p
    .exact MF λt ht=>by
      obtain⟨b,n,h1,h2,h3⟩:=w3 t (q1.mem_iff.mp ht)
      exact⟨b,n,h1,s12 _ _ h2,s12 _ _ h3⟩
theorem lz.nd{l ns:List Pt}(h:lz l ns):ns.Nodup:=h.ord.imp λ{a b}cx e=>by subst e;exact NO _ cx
def He(L:ac):Sp:=λvs H Q _=>∃l ps,vs=[.ref l]/\PL H l ps/\ps.length<=7/\H L=some lQ/\∀H' q,db H H'->H q=none->PL H' q (nh ps)->Q (.ref q) H'
def HN(L:ac):Sp:=λvs H Q _=>∃l ps,vs=[.ref l]/\PL H l ps/\ps.length<=7/\H L=some lQ/\∀H' q,db H H'->H q=none->PL H' q (ny ps)->Q (.ref q) H'
theorem N5{H:Hp}{l:ac}{vs:List V}:∀{ns:List Pt},H l=some (.lst vs)->Paired (λp v=>∃b,v=V.ref b/\H b=some (.tup [.int p.x,.int p.y])) ns vs->PL H l ns:=λ{ns}h hp=>by
 obtain⟨zs,e1,e2,e3⟩:=qo (F:=λp:Pt=>[p.x,p.y]) hp
 exact⟨zs,by rw[h,e1],e2,e3⟩
theorem RO{f L:ac}{fd:on}(F:re K "tree_joints" "tree_joints" zm f fd)(T:Txt mg Ad)(m9:Def P w K mg base "free_nodes" 7 qe (zq L)):o0 P w K mg base ae 8 f fd uh (He L):=by
 have nd:=G'.nd
 refine F.ok G' (λvs H Q E h=> ?_) (λlm A outer s H vs Q E hr h=> ?_)
 .obtain⟨l,ps,rfl,_⟩:=h
  rfl
 .obtain⟨l,ps,rfl,hl,h7,aL,k⟩:=h
  refine⟨_,(jp (pi (ao rfl nd (P7 K rfl (sK m9 (hr.mono (by decide)) (am (pv 0) bi))) (own:=[("node",1),("level",2),("upright",3)]) (Re rfl) (λ_ _ _ _ _=>(aF K rfl (n:=3) rfl (Da (xz 1 nd) (Da (xz 2 nd) (Da (xz 3 nd) aG))) rfl rfl)) (λ_ _ _ _ _=>(qV (bw acM (wp bz (pv 2) (pv 3)) nb (bx _)))) (λ_ _ _ _ _=>(pv 1))))),?_⟩
  walk_at "rd"
  refine⟨l,ps,rfl,hl,h7,aL,λH1 q ns s1 n1 hF hN=> ?_⟩
  obtain⟨vs,hv,iw⟩:=hN
  obtain⟨ts,w1,w2,w3⟩:=wo iw
  subst w1
  have gz:ns.length=(ts.map λt=>V.ref t.1).length:=by rw[w2,dL,dL]
  have FY:ns.Nodup:=hF.nd
  have bns:ns.length<=49:=Ch (k7 FY λp hp=>by
   rcases((hF.mem p).mp hp).1 with h|h
   .exact eP eC h
   .exact eP eC h) (gW h7)
  refine⟨q,rfl,⟨_,aa.of hv⟩,λD hD=>ou ns (λp=>decide (3<=IN 1 (SB ps) p+IN 0 (SB ps) p)) (λp v H=>∃b,v=V.ref b/\H b=some (.tup [.int p.x,.int p.y])) (λ_ _ _ _ k r=> ?_) gz (by rw[<-gz,bu];lia) hD (aa.of hv) (λi x p H' C N hx hp s' hC hN=> ?_) λH2 acc s2 IR hpr2=> ?_⟩
  .obtain⟨b,h1,h2⟩:=r
   exact⟨b,h1,k _ _ h2⟩
  .rw[wP]at hx
   obtain⟨t,ht,rfl⟩:=kh.mp hx
   have ep:t.2=p:=by
    rw[w2,wP,ht]at hp
    exact TD hp
   obtain⟨b,n,h1,h2,h3⟩:=w3 t (Tk ht)
   cases h1
   rw[ep]at h2 h3
   have h2':=s' _ _ h2
   have h3':=s' _ _ h3
   refine oh h2' ?_
   walk_at "rd"
   by_cases hk:3<=IN 1 (SB ps) p+IN 0 (SB ps) p
   .rw[if_pos (decide_eq_true (by lia))]
    exact hC (decide_eq_true hk) _ _ (db.refl _) ⟨n,rfl,h3'⟩
   .rw[if_neg (λq=>hk (by have:=of_decide_eq_true q;lia))]
    exact hN (decide_eq_false hk) _ (db.refl _)
  .rw[hF.joints]at hpr2
   exact k H2 D (s1.trans s2) (s1.free hD) (N5 IR hpr2)
theorem SF{f L:ac}{fd:on}(F:re K "tree_bends" "tree_bends" Aa f fd)(T:Txt mg Ad)(m9:Def P w K mg base "free_nodes" 7 qe (zq L)):o0 P w K mg base ae 8 f fd uJ (HN L):=by
 have nd:=HE.nd
 refine F.ok HE (λvs H Q E h=> ?_) (λlm A outer s H vs Q E hr h=> ?_)
 .obtain⟨l,ps,rfl,_⟩:=h
  rfl
 .obtain⟨l,ps,rfl,hl,h7,aL,k⟩:=h
  refine⟨_,(jp (pi (ao rfl nd (P7 K rfl (sK m9 (hr.mono (by decide)) (am (pv 0) bi))) (own:=[("node",1),("level",2),("upright",3)]) (Re rfl) (λ_ _ _ _ _=>(aF K rfl (n:=3) rfl (Da (xz 1 nd) (Da (xz 2 nd) (Da (xz 3 nd) aG))) rfl rfl)) (λ_ _ _ _ _=>(qV (PW.pt (Ed (bw h_ (pv 2) nb (bx _)) (DJ (bw h_ (pv 3) nb (bx _))))))) (λ_ _ _ _ _=>(pv 1))))),?_⟩
  walk_at "rd"
  refine⟨l,ps,rfl,hl,h7,aL,λH1 q ns s1 n1 hF hN=> ?_⟩
  obtain⟨vs,hv,iw⟩:=hN
  obtain⟨ts,w1,w2,w3⟩:=wo iw
  subst w1
  have gz:ns.length=(ts.map λt=>V.ref t.1).length:=by rw[w2,dL,dL]
  have FY:ns.Nodup:=hF.nd
  have bns:ns.length<=49:=Ch (k7 FY λp hp=>by
   rcases((hF.mem p).mp hp).1 with h|h
   .exact eP eC h
   .exact eP eC h) (gW h7)
  refine⟨q,rfl,⟨_,aa.of hv⟩,λD hD=>ou ns (λp=>decide (IN 1 (SB ps) p=1)&&decide (IN 0 (SB ps) p=1)) (λp v H=>∃b,v=V.ref b/\H b=some (.tup [.int p.x,.int p.y])) (λ_ _ _ _ k r=> ?_) gz (by rw[<-gz,bu];lia) hD (aa.of hv) (λi x p H' C N hx hp s' hC hN=> ?_) λH2 acc s2 IR hpr2=> ?_⟩
  .obtain⟨b,h1,h2⟩:=r
   exact⟨b,h1,k _ _ h2⟩
  .rw[wP]at hx
   obtain⟨t,ht,rfl⟩:=kh.mp hx
   have ep:t.2=p:=by
    rw[w2,wP,ht]at hp
    exact TD hp
   obtain⟨b,n,h1,h2,h3⟩:=w3 t (Tk ht)
   cases h1
   rw[ep]at h2 h3
   have h2':=s' _ _ h2
   have h3':=s' _ _ h3
   refine oh h2' ?_
   walk_at "rd"
   refine⟨rfl,_,rfl,?_⟩
   by_cases h1:IN 1 (SB ps) p=1
   .rw[if_pos (decide_eq_true (by rw[h1];rfl))]
    refine⟨rfl,_,rfl,?_⟩
    by_cases h0:IN 0 (SB ps) p=1
    .rw[if_pos (decide_eq_true (by rw[h0];rfl))]
     exact hC (by rw[h1,h0];rfl) _ _ (db.refl _) ⟨n,rfl,h3'⟩
    .rw[if_neg (λq=>h0 (by have:=V.int.inj (of_decide_eq_true q);lia))]
     exact hN (by rw[decide_eq_false h0,J_]) _ (db.refl _)
   .rw[if_neg (λq=>h1 (by have:=V.int.inj (of_decide_eq_true q);lia)),if_neg (by decide)]
    exact hN (by rw[decide_eq_false h1,Ka]) _ (db.refl _)
  .rw[hF.bends]at hpr2
   exact k H2 D (s1.trans s2) (s1.free hD) (N5 IR hpr2)
def rW(L:ac)(j:Int):Sp:=λvs H Q E=>H L=some lQ/\dF j vs H Q E
end
end Sq
end
section
namespace Sq
open PySem PySem.Spec PyProof.Rows L2
open Vbpcar (Pt)
open VbpcarNeutral (callOf)
section
variable{ns:List Int}{c:gc}
theorem aa2(h:callOf [13::ns]=some c):ns=[]/\c=.steiner:=by
 rcases ns with _|⟨x,_|⟨y,_|⟨z,_|⟨u,r⟩⟩⟩⟩<;>first|(cases h;exact⟨rfl,rfl⟩)|cases h
theorem aa3(h:callOf [14::ns]=some c):ns=[]/\c=.tree:=by
 rcases ns with _|⟨x,_|⟨y,_|⟨z,_|⟨u,r⟩⟩⟩⟩<;>first|(cases h;exact⟨rfl,rfl⟩)|cases h
theorem aa4(h:callOf [15::ns]=some c):ns=[]/\c=.joints:=by
 rcases ns with _|⟨x,_|⟨y,_|⟨z,_|⟨u,r⟩⟩⟩⟩<;>first|(cases h;exact⟨rfl,rfl⟩)|cases h
theorem aa5(h:callOf [16::ns]=some c):ns=[]/\c=.bends:=by
 rcases ns with _|⟨x,_|⟨y,_|⟨z,_|⟨u,r⟩⟩⟩⟩<;>first|(cases h;exact⟨rfl,rfl⟩)|cases h
theorem aa6(h:callOf [17::ns]=some c):∃x y,ns=[x,y]/\c=.with_ x y:=by
 rcases ns with _|⟨x,_|⟨y,_|⟨z,_|⟨u,r⟩⟩⟩⟩<;>first|(cases h;exact⟨_,_,rfl,rfl⟩)|cases h
theorem aa7(h:callOf [18::ns]=some c):∃i,ns=[i]/\c=.without i:=by
 rcases ns with _|⟨x,_|⟨y,_|⟨z,_|⟨u,r⟩⟩⟩⟩<;>first|(cases h;exact⟨_,rfl,rfl⟩)|cases h
theorem aa8(h:callOf [19::ns]=some c):ns=[]/\c=.ratio:=by
 rcases ns with _|⟨x,_|⟨y,_|⟨z,_|⟨u,r⟩⟩⟩⟩<;>first|(cases h;exact⟨rfl,rfl⟩)|cases h
theorem aa9(h:callOf [20::ns]=some c):ns=[]/\c=.median:=by
 rcases ns with _|⟨x,_|⟨y,_|⟨z,_|⟨u,r⟩⟩⟩⟩<;>first|(cases h;exact⟨rfl,rfl⟩)|cases h
theorem aa_(h:callOf [21::ns]=some c):∃x y,ns=[x,y]/\c=.star x y:=by
 rcases ns with _|⟨x,_|⟨y,_|⟨z,_|⟨u,r⟩⟩⟩⟩<;>first|(cases h;exact⟨_,_,rfl,rfl⟩)|cases h
theorem aa'(h:callOf [22::ns]=some c):∃d,ns=[d]/\c=.trunk d:=by
 rcases ns with _|⟨x,_|⟨y,_|⟨z,_|⟨u,r⟩⟩⟩⟩<;>first|(cases h;exact⟨_,rfl,rfl⟩)|cases h
theorem aba(h:callOf [23::ns]=some c):ns=[]/\c=.chain:=by
 rcases ns with _|⟨x,_|⟨y,_|⟨z,_|⟨u,r⟩⟩⟩⟩<;>first|(cases h;exact⟨rfl,rfl⟩)|cases h
theorem abb(h:callOf [24::ns]=some c):ns=[]/\c=.ring:=by
 rcases ns with _|⟨x,_|⟨y,_|⟨z,_|⟨u,r⟩⟩⟩⟩<;>first|(cases h;exact⟨rfl,rfl⟩)|cases h
end
noncomputable def numOf:gc->Int
 |.begin_=>0
 |.add _ _=>1
 |.remove _=>2
 |.move _ _ _=>3
 |.shift _ _=>4
 |.turn _=>5
 |.flip=>6
 |.scale _=>7
 |.points=>8
 |.box=>9
 |.half=>10
 |.dist _ _=>11
 |.span=>12
 |.steiner=>13
 |.tree=>14
 |.joints=>15
 |.bends=>16
 |.with_ _ _=>17
 |.without _=>18
 |.ratio=>19
 |.median=>20
 |.star _ _=>21
 |.trunk _=>22
 |.chain=>23
 |.ring=>24
noncomputable def oq:gc->List Int
 |.add x y=>[x,y]
 |.remove i=>[i]
 |.move i x y=>[i,x,y]
 |.shift x y=>[x,y]
 |.turn k=>[k]
 |.scale n=>[n]
 |.dist i j=>[i,j]
 |.with_ x y=>[x,y]
 |.without i=>[i]
 |.star x y=>[x,y]
 |.trunk d=>[d]
 |_=>[]
theorem JI(c:gc):callOf [numOf c::oq c]=some c:=by cases c<;>rfl
theorem aaq(c:gc):0<=numOf c/\numOf c<=24:=by cases c<;>simp only[numOf]<;>lia
def fP(p:Int)(ns:List Int):Prop:=∃c,p=numOf c/\ns=oq c/\Jq [p::ns]=[p::ns]
section
variable{p:Int}{ns:List Int}
theorem eJ(h:fP p [])(l:ns.length=0):fP p ns:=by
 cases cC.mp l;exact h
theorem sh1(h:∀x,fP p [x])(l:ns.length=1):fP p ns:=by
 rcases ns with _|⟨x,_|⟨y,r⟩⟩
 .cases l
 .exact h x
 .cases l
theorem sL(h:∀x y,fP p [x,y])(l:ns.length=2):fP p ns:=by
 rcases ns with _|⟨x,_|⟨y,_|⟨z,r⟩⟩⟩
 .cases l
 .cases l
 .exact h x y
 .cases l
theorem sh3(h:∀x y z,fP p [x,y,z])(l:ns.length=3):fP p ns:=by
 rcases ns with _|⟨x,_|⟨y,_|⟨z,_|⟨u,r⟩⟩⟩⟩
 .cases l
 .cases l
 .cases l
 .exact h x y z
 .cases l
theorem ba{j:Int}{n m k:Nat}{o:Option (Nat×Nat)}(hl:ns.length=n)(h1:ns.length=m->fP j ns)(h2:o=some (n,k)->fP p ns)(h:(if p=j then some (m,0)else o)=some (n,k)):fP p ns:=by
 by_cases hc:p=j
 .rw[if_pos hc]at h
  cases h
  rw[hc]
  exact h1 hl
 .rw[if_neg hc]at h;exact h2 h
end
theorem JZ{p:Int}{ns:List Int}{n k:Nat}(hl:ns.length=n):ef p=some (n,k)->fP p ns:=by
 unfold ef
 refine ba hl (eJ ⟨.begin_,rfl,rfl,rfl⟩) ?_
 refine ba hl (sL λx y=>⟨.add x y,rfl,rfl,rfl⟩) ?_
 refine ba hl (sh1 λx=>⟨.remove x,rfl,rfl,rfl⟩) ?_
 refine ba hl (sh3 λx y z=>⟨.move x y z,rfl,rfl,rfl⟩) ?_
 refine ba hl (sL λx y=>⟨.shift x y,rfl,rfl,rfl⟩) ?_
 refine ba hl (sh1 λx=>⟨.turn x,rfl,rfl,rfl⟩) ?_
 refine ba hl (eJ ⟨.flip,rfl,rfl,rfl⟩) ?_
 refine ba hl (sh1 λx=>⟨.scale x,rfl,rfl,rfl⟩) ?_
 refine ba hl (eJ ⟨.points,rfl,rfl,rfl⟩) ?_
 refine ba hl (eJ ⟨.box,rfl,rfl,rfl⟩) ?_
 refine ba hl (eJ ⟨.half,rfl,rfl,rfl⟩) ?_
 refine ba hl (sL λx y=>⟨.dist x y,rfl,rfl,rfl⟩) ?_
 refine ba hl (eJ ⟨.span,rfl,rfl,rfl⟩) ?_
 refine ba hl (eJ ⟨.steiner,rfl,rfl,rfl⟩) ?_
 refine ba hl (eJ ⟨.tree,rfl,rfl,rfl⟩) ?_
 refine ba hl (eJ ⟨.joints,rfl,rfl,rfl⟩) ?_
 refine ba hl (eJ ⟨.bends,rfl,rfl,rfl⟩) ?_
 refine ba hl (sL λx y=>⟨.with_ x y,rfl,rfl,rfl⟩) ?_
 refine ba hl (sh1 λx=>⟨.without x,rfl,rfl,rfl⟩) ?_
 refine ba hl (eJ ⟨.ratio,rfl,rfl,rfl⟩) ?_
 refine ba hl (eJ ⟨.median,rfl,rfl,rfl⟩) ?_
 refine ba hl (sL λx y=>⟨.star x y,rfl,rfl,rfl⟩) ?_
 refine ba hl (sh1 λx=>⟨.trunk x,rfl,rfl,rfl⟩) ?_
 refine ba hl (eJ ⟨.chain,rfl,rfl,rfl⟩) ?_
 refine ba hl (eJ ⟨.ring,rfl,rfl,rfl⟩) ?_
 intro h
 cases h
theorem IJ:∀(m:Nat){l:List Int}{f:Nat}{cs:List (List (List Int))},l.length<=m->jD ef f l=some cs->∀c∈cs,Jq c=c
 |_,[],_,_,_,h=>by rw[Kl h];exact λ_ h=>nomatch h
 |0,_::_,_,_,hl,_=>nomatch hl
 |m+1,p::r,_,_,hl,h=>by
  obtain⟨n,f',cs',rfl,hs,hn,hq⟩:=JJ h
  intro c hc
  rcases wl.mp hc with rfl|hc
  .obtain⟨_,_,_,e⟩:=JZ (ns:=r.take n) (by rw[dG];lia) hs
   exact e
  .exact IJ m (by rw[pZ];rw[Os]at hl;lia) hq c hc
theorem Uu{ns:List Int}(h:Gk ns=true):∃cs,jD ef ns.length ns=some cs/\cs.length<=100/\yY ns=ph [] cs:=by
 unfold Gk W4 at h
 cases hc:jD ef ns.length ns with
 |none=>rw[hc]at h;cases h
 |some cs=>
  have e:cs.map Jq=cs:=(fY (IJ _ (nn _) hc)).trans (List.map_id' _)
  rw[hc]at h
  dsimp only at h
  rw[e,cQ]at h
  unfold PyFlat.atMost at h
  refine⟨cs,rfl,of_decide_eq_true h.1,?_⟩
  unfold yY W4
  rw[hc]
  dsimp only
  rw[e]
  rfl
section
variable(ps:List Pt)
theorem gT(b:Bool)(n:Int)(k:DT (qp×List Int))(h:(bC ps k).1=ps):(bC ps (bO b n >>= λ_=>k)).1=ps:=by
 rw[bQ]
 split
 .exact h
 .rfl
theorem step_keeps{c:gc}(h:8<=numOf c):(au ps c).1=ps:=by
 cases c with
 |begin_=>exact absurd h (by simp[numOf])
 |add _ _=>exact absurd h (by simp[numOf])
 |remove _=>exact absurd h (by simp[numOf])
 |move _ _ _=>exact absurd h (by simp[numOf])
 |shift _ _=>exact absurd h (by simp[numOf])
 |turn _=>exact absurd h (by simp[numOf])
 |flip=>exact absurd h (by simp[numOf])
 |scale _=>exact absurd h (by simp[numOf])
 |points=>rfl
 |box=>exact gT ps _ _ _ rfl
 |half=>rfl
 |dist _ _=>exact gT ps _ _ _ (gT ps _ _ _ rfl)
 |span=>rfl
 |steiner=>rfl
 |tree=>rfl
 |joints=>rfl
 |bends=>rfl
 |with_ _ _=>exact gT ps _ _ _ (gT ps _ _ _ rfl)
 |without _=>exact gT ps _ _ _ rfl
 |ratio=>exact gT ps _ _ _ rfl
 |median=>exact gT ps _ _ _ rfl
 |star _ _=>exact gT ps _ _ _ rfl
 |trunk d=>
  refine gT ps _ _ _ ?_
  cases qu (if d=0 then ps else jC ps)<;>rfl
 |chain=>rfl
 |ring=>rfl
end
theorem Lq{ps:List Pt}(h:ps.all aq=true)(h7:ps.length<=7):Good ps:=⟨h7,kC.mp h⟩
theorem Bj{ps:List Pt}(g:Good ps)(f:Pt->Pt):Good (bC ps (Vbpcar.moved ps f)).1:=by
 rw[vn]
 split
 .exact Lq (by assumption) (by rw[dL];exact g.len)
 .exact g
theorem X2{ps:List Pt}(g:Good ps)(c:gc):Good (au ps c).1:=by
 by_cases h8:8<=numOf c
 .rw[step_keeps ps h8]
  exact g
 cases c with
 |begin_=>exact⟨SC _,λ_ h=>nomatch h⟩
 |add x y=>
  rw[LY]
  split
  .rename_i hi
   split
   .rename_i hl
    have hl:=of_decide_eq_true hl
    refine⟨by rw[Rs,fW];lia,λp hp=> ?_⟩
    rcases NE.mp hp with hp|hp
    .exact g.dc p hp
    .rw[zn.mp hp];exact hi
   .exact g
  .exact g
 |remove i=>
  rw[Jj]
  split
  .exact⟨Ch (Uc ..) g.len,λp hp=>g.dc p (kg hp)⟩
  .exact g
 |move i x y=>
  rw[KW]
  split
  .rename_i hi
   split
   .refine⟨by rw[uq];exact g.len,λp hp=> ?_⟩
    rcases List.mem_or_eq_of_mem_set hp with hp|hp
    .exact g.dc p hp
    .rw[hp];exact hi
   .exact g
  .exact g
 |shift x y=>exact Bj g _
 |turn k=>exact Bj g _
 |flip=>exact Bj g _
 |scale n=>
  rw[J2]
  split
  .rename_i hi
   split
   .exact Lq hi (by rw[dL];exact g.len)
   .exact g
  .exact g
 |_=>exact absurd (by simp[numOf]) h8
theorem bS(ps:List Pt)(b:Bool)(n:Int)(k:DT (qp×List Int))(h:(bC ps k).2.length<=400):(bC ps (bO b n >>= λ_=>k)).2.length<=400:=by
 rw[bQ]
 split
 .exact h
 .show 1<=400
  decide
theorem Zx{ps:List Pt}(g:Good ps)(c:gc):(au ps c).2.length<=400:=by
 have h7:=g.len
 have one:∀z:Int,[z].length<=400:=λ_=>(by show 1<=400;decide)
 cases c with
 |begin_=>exact one _
 |add x y=>exact bS ps _ _ _ (bS ps _ _ _ (one _))
 |remove i=>exact bS ps _ _ _ (one _)
 |move i x y=>exact bS ps _ _ _ (bS ps _ _ _ (one _))
 |shift x y=>exact bS ps _ _ _ (one _)
 |turn k=>exact bS ps _ _ _ (one _)
 |flip=>exact bS ps _ _ _ (one _)
 |scale n=>exact bS ps _ _ _ (bS ps _ _ _ (one _))
 |points=>exact Ch (B4 ps h7) (by decide)
 |box=>exact bS ps _ _ _ (by show 5<=400;decide)
 |half=>exact one _
 |dist i j=>exact bS ps _ _ _ (bS ps _ _ _ (one _))
 |span=>
  show(_::_::(fo ps).flatMap λa=>[(a.2.1:Int),(a.2.2:Int)]).length<=400
  have h1:=nq (l:=fo ps) (f:=λa=>[(a.2.1:Int),(a.2.2:Int)]) (k:=2) λ_ _=>nn _
  have h2:=Ac h7
  simp only[Os]
  lia
 |steiner=>exact one _
 |tree=>
  show(_::(SB ps).flatMap λe=>[e.1.x,e.1.y,e.2.x,e.2.y]).length<=400
  have h1:=nq (l:=SB ps) (f:=λe=>[e.1.x,e.1.y,e.2.x,e.2.y]) (k:=4) λ_ _=>nn _
  have h2:=C7 h7
  simp only[Os]
  lia
 |joints=>exact Ch (B4 _ (Ch (iC ..) (gW h7))) (by decide)
 |bends=>exact Ch (B4 _ (Ch (iC ..) (gW h7))) (by decide)
 |with_ x y=>exact bS ps _ _ _ (bS ps _ _ _ (one _))
 |without i=>exact bS ps _ _ _ (one _)
 |ratio=>exact bS ps _ _ _ (by show 2<=400;decide)
 |median=>exact bS ps _ _ _ (by show 3<=400;decide)
 |star x y=>exact bS ps _ _ _ (one _)
 |trunk d=>
  refine bS ps _ _ _ ?_
  cases qu (if d=0 then ps else jC ps)
  .exact one _
  .show 2<=400
   decide
 |chain=>
  show((qr ps).2.map _).length+1+1<=400
  rw[dL]
  have:=Xc ps
  lia
 |ring=>
  show((qF ps).2.map _).length+1+1<=400
  rw[dL]
  have:=Zo ps
  lia
end Sq
end
section
namespace Sq
open PySem PySem.Spec PyProof.Rows L2
open Vbpcar (Pt)
open VbpcarNeutral (callOf)
section
variable(ps:List Pt)
theorem Vc:au ps .median=if(!ps.isEmpty)=true then(ps,[(uV ps (qi ps):Int),(qi ps).x,(qi ps).y])else(ps,[-5]):=by
 show bC ps (bO _ _ >>= λ_=>pure _)=_
 rw[bQ,fA]
theorem X3(x y:Int):au ps (.star x y)=if aq ⟨x,y⟩=true then(ps,[(uV ps ⟨x,y⟩:Int)])else(ps,[-1]):=by
 show bC ps (bO _ _ >>= λ_=>pure _)=_
 rw[bQ,fA]
theorem X4(x y:Int):au ps (.with_ x y)=if aq ⟨x,y⟩=true then(if decide (ps.length<7)=true then(ps,[(bN (ps++[⟨x,y⟩]):Int)])else(ps,[-2]))else(ps,[-1]):=by
 show bC ps (bO _ _ >>= λ_=>bO _ _ >>= λ_=>pure _)=_
 rw[bQ,bQ,fA];rfl
theorem T6(i:Int):au ps (.without i)=if eX ps.length i=true then(ps,[(bN (ps.eraseIdx i.toNat):Int)])else(ps,[-3]):=by
 show bC ps (bO _ _ >>= λ_=>pure _)=_
 rw[bQ,fA];rfl
theorem WC:au ps .ratio=if decide (0<bN ps)=true then(ps,[((qG ps / oA (qG ps) (bN ps):Nat):Int),((bN ps / oA (qG ps) (bN ps):Nat):Int)])else(ps,[-5]):=by
 show bC ps (bO _ _ >>= λ_=>pure _)=_
 rw[bQ,fA]
end
section
variable{P:lw}{w:li}{K:ge}{mg:Str->Option al}{base:io}{Ad:aV}
theorem TQ{f:ac}{fd:on}(F:re K "ask_chain" "ask_chain" AY f fd)(T:Txt mg Ad)(zF:Def P w K mg base "best_chain" 5 uE HI):o0 P w K mg base ae 6 f fd AR (dF 23):=by
 have nd:=Il.nd
 refine F.ok Il (λvs H Q E h=> ?_) (λlm A outer s H vs Q E hr h=> ?_)
 .obtain⟨n,a,ps,ns,ca,rfl,_⟩:=h
  rfl
 .obtain⟨l,a,ps,ns,ca,rfl,hl,hg,ha,hb,hc,k⟩:=h
  obtain⟨rfl,rfl⟩:=aba hc
  refine⟨_,(jp (pi (sK zF (hr.mono (by decide)) (am (pv 0) bi)))),?_⟩
  walk_at "rd"
  exact⟨l,ps,rfl,hl,hg.len,λH' p s' hp hI=>k H' p s' hp hI⟩
theorem UU{f:ac}{fd:on}(F:re K "ask_ring" "ask_ring" By f fd)(T:Txt mg Ad)(Ax:Def P w K mg base "best_ring" 5 uS Iv):o0 P w K mg base ae 6 f fd Bq (dF 24):=by
 have nd:=IZ.nd
 refine F.ok IZ (λvs H Q E h=> ?_) (λlm A outer s H vs Q E hr h=> ?_)
 .obtain⟨n,a,ps,ns,ca,rfl,_⟩:=h
  rfl
 .obtain⟨l,a,ps,ns,ca,rfl,hl,hg,ha,hb,hc,k⟩:=h
  obtain⟨rfl,rfl⟩:=abb hc
  refine⟨_,(jp (pi (sK Ax (hr.mono (by decide)) (am (pv 0) bi)))),?_⟩
  walk_at "rd"
  exact⟨l,ps,rfl,hl,hg.len,λH' p s' hp hI=>k H' p s' hp hI⟩
theorem Ss{f:ac}{fd:on}(F:re K "ask_median" "ask_median" zW f fd)(T:Txt mg Ad)(yH:Def P w K mg base "middle_point" 2 tW GQ)
 (mW:Def P w K mg base "star_length" 2 qa yV):o0 P w K mg base ae 3 f fd zQ (dF 20):=by
 have nd:=Hu.nd
 refine F.ok Hu (λvs H Q E h=> ?_) (λlm A outer s H vs Q E hr h=> ?_)
 .obtain⟨n,a,ps,ns,ca,rfl,_⟩:=h
  rfl
 .obtain⟨l,a,ps,ns,ca,rfl,hl,hg,ha,hb,hc,k⟩:=h
  obtain⟨rfl,rfl⟩:=aa9 hc
  obtain⟨xs,lf,hlen⟩:=hl.lst
  rw[Vc]at k
  refine⟨_,(ga (aw (bT (kY K rfl (pv 0) (λ_=>rfl))) (jp (pi (xL (am (aY T.NOTHING_THERE) bi)))) aD)
   (ga (pS 2 nd (sK yH (hr.mono (by decide)) (am (pv 0) bi)))
   (jp (pi (xL (am (sK mW (hr.mono (by decide)) (am (pv 0) (am (pv 2) bi))) (am (ul (bf K rfl) (pv 2) nb (λ_ _=>rfl)) (am (ul (bf K rfl) (pv 2) nb (λ_ _=>rfl)) bi)))))))),?_⟩
  walk_at "rd"
  refine⟨_,.inl ⟨xs,aa.of lf,rfl⟩,?_⟩
  cases ps with
  |nil=>
   have e:xs=[]:=cC.mp hlen
   subst e
   rw[if_pos (show(!([]:List V).isEmpty)=false from rfl)]
   exact⟨by decide,λp hp=>k _ p (cr hp) hp bv⟩
  |cons p ps=>
   have e:xs≠[]:=λe=>by rw[e]at hlen;cases hlen
   have e':(!xs.isEmpty)=true:=by cases xs with|nil=>exact absurd rfl e|cons _ _=>rfl
   rw[e',if_neg (by decide)]
   refine⟨l,p::ps,rfl,hl,hg.len,by simp,λH1 c s1 hc1=> ?_⟩
   walk_at "rd"
   refine⟨l,c,p::ps,qi (p::ps),rfl,TL.same s1 hl,hg.len,hc1,λH2 s2=>aO (s2 _ _ hc1) rfl (aO (s2 _ _ hc1) rfl ?_)⟩
   walk_at "rd"
   exact⟨by decide,λr hr'=>k _ r ((s1.trans s2).trans (cr hr')) ((s1.trans s2).free hr') bv⟩
theorem UX{f:ac}{fd:on}(F:re K "ask_star" "ask_star" BA f fd)(T:Txt mg Ad)(dH:Def P w K mg base "in_range" 1 jG nt)
 (mW:Def P w K mg base "star_length" 2 qa yV):o0 P w K mg base ae 3 f fd Bs (dF 21):=by
 have nd:=I_.nd
 refine F.ok I_ (λvs H Q E h=> ?_) (λlm A outer s H vs Q E hr h=> ?_)
 .obtain⟨n,a,ps,ns,ca,rfl,_⟩:=h
  rfl
 .obtain⟨l,a,ps,ns,ca,rfl,hl,hg,ha,hb,hc,k⟩:=h
  obtain⟨x,y,rfl,rfl⟩:=aa_ hc
  rw[X3]at k
  refine⟨_,(ga (pS 2 nd (ul (Ev K rfl) (pv 1) nb (λ_ _=>rfl)))
   (ga (pS 3 nd (ul (Ev K rfl) (pv 1) nb (λ_ _=>rfl)))
   (ga (aw (bT (eS (sK dH (hr.mono (by decide)) (am (pv 2) (am (pv 3) bi))) (λ_=>rfl))) (jp (pi (xL (am (aY T.OUT_OF_RANGE) bi)))) aD)
   (jp (pi (xL (am (sK mW (hr.mono (by decide)) (am (pv 0) (am (WP (am (pv 2) (am (pv 3) bi))) bi))) bi))))))),?_⟩
  walk_at "rd"
  refine Fa ha rfl (Fa ha rfl ⟨x,y,rfl,_,rfl,?_⟩)
  cases hi:aq ⟨x,y⟩with
  |false=>
   rw[if_pos rfl]
   rw[hi]at k
   exact⟨by decide,λp hp=>k _ p (cr hp) hp bv⟩
  |true=>
   rw[if_neg (by decide)]
   rw[hi]at k
   refine⟨by decide,λc hc1=>⟨l,c,ps,⟨x,y⟩,rfl,TL.same (cr hc1) hl,hg.len,bv,λH2 s2=>⟨by decide,λr hr'=> ?_⟩⟩⟩
   exact k _ r (((cr hc1).trans s2).trans (cr hr')) (((cr hc1).trans s2).free hr') bv
theorem RH{f:ac}{fd:on}(F:re K "ask_steiner" "ask_steiner" zf f fd)(T:Txt mg Ad)(fh:Def P w K mg base "shortest_length" 6 ko pL):o0 P w K mg base ae 7 f fd zc (dF 13):=by
 have nd:=G4.nd
 refine F.ok G4 (λvs H Q E h=> ?_) (λlm A outer s H vs Q E hr h=> ?_)
 .obtain⟨n,a,ps,ns,ca,rfl,_⟩:=h
  rfl
 .obtain⟨l,a,ps,ns,ca,rfl,hl,hg,ha,hb,hc,k⟩:=h
  obtain⟨rfl,rfl⟩:=aa2 hc
  refine⟨_,(jp (pi (xL (am (sK fh (hr.mono (by decide)) (am (pv 0) bi)) bi)))),?_⟩
  walk_at "rd"
  exact⟨l,ps,rfl,hl,hg.len,λH1 s1=>⟨by decide,λr hr'=>k _ r (s1.trans (cr hr')) (s1.free hr') bv⟩⟩
theorem UZ{f:ac}{fd:on}(F:re K "ask_with" "ask_with" BC f fd)(T:Txt mg Ad)(dH:Def P w K mg base "in_range" 1 jG nt)
 (nB:Def P w K mg base "has_room" 1 qy A4)(fh:Def P w K mg base "shortest_length" 6 ko pL):o0 P w K mg base ae 7 f fd Bu (dF 17):=by
 have nd:=Jb.nd
 refine F.ok Jb (λvs H Q E h=> ?_) (λlm A outer s H vs Q E hr h=> ?_)
 .obtain⟨n,a,ps,ns,ca,rfl,_⟩:=h
  rfl
 .obtain⟨l,a,ps,ns,ca,rfl,hl,hg,ha,hb,hc,k⟩:=h
  obtain⟨x,y,rfl,rfl⟩:=aa6 hc
  obtain⟨xs,lf,hlen⟩:=hl.lst
  rw[X4,<-hlen]at k
  refine⟨_,(ga (pS 2 nd (ul (Ev K rfl) (pv 1) nb (λ_ _=>rfl)))
   (ga (pS 3 nd (ul (Ev K rfl) (pv 1) nb (λ_ _=>rfl)))
   (ga (aw (bT (eS (sK dH (hr.mono (by decide)) (am (pv 2) (am (pv 3) bi))) (λ_=>rfl))) (jp (pi (xL (am (aY T.OUT_OF_RANGE) bi)))) aD)
   (ga (aw (bT (eS (sK nB (hr.mono (by decide)) (am (pv 0) bi)) (λ_=>rfl))) (jp (pi (xL (am (aY T.Mg) bi)))) aD)
   (jp (pi (xL (am (sK fh (hr.mono (by decide)) (am (wp gj (pv 0) (xL (am (WP (am (pv 2) (am (pv 3) bi))) bi))) bi)) bi)))))))),?_⟩
  walk_at "rd"
  refine Fa ha rfl (Fa ha rfl ⟨x,y,rfl,_,rfl,?_⟩)
  cases hi:aq ⟨x,y⟩with
  |false=>
   rw[if_pos rfl]
   rw[hi]at k
   exact⟨by decide,λp hp=>k _ p (cr hp) hp bv⟩
  |true=>
   rw[if_neg (by decide)]
   rw[hi]at k
   refine⟨l,xs,rfl,lf,_,rfl,?_⟩
   cases h7:decide (xs.length<7)with
   |false=>
    rw[if_pos rfl]
    rw[h7]at k
    exact⟨by decide,λp hp=>k _ p (cr hp) hp bv⟩
   |true=>
    rw[if_neg (by decide)]
    rw[h7]at k
    have h7:=of_decide_eq_true h7
    refine⟨by decide,λp hp=>⟨by decide,λq hq=> ?_⟩⟩
    have s2:db H (upd (upd H p (.tup [.int x,.int y])) q (.lst [.ref p])):=(cr hp).trans (cr hq)
    have hq2:TL (upd (upd H p (.tup [.int x,.int y])) q (.lst [.ref p])) q [[x,y]]:=wW (cr hq _ _ bv) bv
    refine⟨l,q,xs,[.ref p],rfl,rfl,s2 _ _ lf,bv,TW (a8 (by simp;lia)),λr hr'=> ?_⟩
    have s3:=s2.trans (cr (o:=.lst (xs++[.ref p])) hr')
    have hT:=TL.cat (TL.same s2 hl) hq2 (s2 _ _ lf) bv hr'
    refine⟨r,ps++[(⟨x,y⟩:Pt)],rfl,by unfold PL;rw[CU];exact hT,by rw[Rs,<-hlen];simp;lia,λH1 s1=>⟨by decide,λu hu=>k _ u ((s3.trans s1).trans (cr hu)) ((s3.trans s1).free hu) bv⟩⟩
theorem RI{f:ac}{fd:on}(F:re K "ask_without" "ask_without" zg f fd)(T:Txt mg Ad)(eM:Def P w K mg base "has_point" 1 kN qg)
 (mJ:Def P w K mg base "without_point" 1 pR yj)(fh:Def P w K mg base "shortest_length" 6 ko pL):o0 P w K mg base ae 7 f fd zd (dF 18):=by
 have nd:=G5.nd
 refine F.ok G5 (λvs H Q E h=> ?_) (λlm A outer s H vs Q E hr h=> ?_)
 .obtain⟨n,a,ps,ns,ca,rfl,_⟩:=h
  rfl
 .obtain⟨l,a,ps,ns,ca,rfl,hl,hg,ha,hb,hc,k⟩:=h
  obtain⟨i,rfl,rfl⟩:=aa7 hc
  obtain⟨xs,lf,hlen⟩:=hl.lst
  rw[T6,<-hlen]at k
  refine⟨_,(ga (pS 2 nd (ul (Ev K rfl) (pv 1) nb (λ_ _=>rfl)))
   (ga (aw (bT (eS (sK eM (hr.mono (by decide)) (am (pv 0) (am (pv 2) bi))) (λ_=>rfl))) (jp (pi (xL (am (aY T.tY) bi)))) aD)
   (jp (pi (xL (am (sK fh (hr.mono (by decide)) (am (sK mJ (hr.mono (by decide)) (am (pv 0) (am (pv 2) bi))) bi)) bi)))))),?_⟩
  walk_at "rd"
  refine Fa ha rfl ⟨l,xs,i,rfl,lf,_,rfl,?_⟩
  cases hi:eX xs.length i with
  |false=>
   rw[if_pos rfl]
   rw[hi]at k
   exact⟨by decide,λp hp=>k _ p (cr hp) hp bv⟩
  |true=>
   rw[if_neg (by decide)]
   rw[hi]at k
   obtain⟨j,rfl,hj⟩:=qQ hi
   rw[fk]at k
   refine⟨l,ps,j,rfl,hl,hg.len,by lia,λH1 q s1 hq hP=>⟨q,_,rfl,hP,?_,λH2 s2=>⟨by decide,λu hu=>k _ u ((s1.trans s2).trans (cr hu)) ((s1.trans s2).free hu) bv⟩⟩⟩
   have:=Uc ps j
   have:=hg.len
   lia
def Ge:Sp:=λvs H Q _=>∃a b:Nat,vs=[.int (a:Nat),.int (b:Nat)]/\Q (.int (oA a b:Nat)) H
theorem QA{f:ac}{fd:on}(F:re K "common_divisor" "common_divisor" yg f fd)(T:Txt mg Ad):o0 P w K mg base ae 1 f fd tw Ge:=by
 have nd:=Ga.nd
 refine F.ok Ga (λvs H Q E h=> ?_) (λlm A outer s H vs Q E hr h=> ?_)
 .obtain⟨a,b,rfl,_⟩:=h
  rfl
 .obtain⟨a,b,rfl,k⟩:=h
  refine⟨_,(ga (vY br (bw oO (pv 1) nb (bx _)) (ga (pS 2 nd (wp rl (pv 0) (pv 1)))
   (ga (pS 0 nd (pv 1))
   (jp (pS 1 nd (pv 2))))))
   (jp (pi (pv 0)))),?_⟩
  walk_at "rd"
  refine⟨λm σ H'=>∃(x:Nat)(v2:Option V),σ=[some (.int (x:Int)),some (.int (m:Int)),v2]/\H'=H/\oA x m=oA a b,⟨b,a,_,rfl,rfl,rfl⟩,?_⟩
  rintro m σ H' ⟨x,v2,rfl,rfl,E1⟩
  walk_at "rd"
  refine⟨rfl,_,rfl,cW (λh=> ?_) (λh=> ?_)⟩
  .have hm:0<m:=by
    rcases jw m with e|e
    .subst e;exact absurd h (by decide)
    .exact e
   refine⟨_,λ_ _ h=>h,?_⟩
   walk_at "rd"
   have em:(x:Int) % (m:Int)=((x % m:Nat):Int):=(Ag x m).symm
   refine⟨by lia,x % m,jI x hm,m,_,⟨rfl,em,rfl⟩,?_⟩
   rw[<-E1,Nat.gcd_comm x m,Nat.gcd_rec m x,Nat.gcd_comm]
  .have hm:m=0:=by
    rcases jw m with e|e
    .exact e
    .exfalso;apply h
     have:¬(V.int (m:Int)=V.int 0):=λq=>by have:=V.int.inj q;lia
     rw[decide_eq_false this];rfl
   subst hm
   rw[Nat.gcd_zero_right]at E1
   walk_at "rd"
   rw[E1]
   exact k
theorem acJ{xs ys:List Int}{others:List Pt}{M:Nat}(h6:others.length<=6)(hM:∀p∈gt xs ys,∀q∈others,aj p q<=M){v:Nat}(hv:v<ys.length*xs.length):∀(s:Nat),0<s->s<2 ^ others.length->jn (gt xs ys) others s v<=M*s:=by
 intro s
 induction s using Nat.strongRecOn with
 |ind s ih=>
  intro h0 hs
  rcases Ea h6 h0 hs with⟨a,ha,rfl⟩|⟨_,bn⟩
  .obtain⟨q,hq⟩:∃q,others[a]? =some q:=⟨_,wS ha⟩
   have hg:=eA xs ys hv
   rw[Np (gt xs ys) others h6 hq hg]
   exact Ch (hM _ (Tk hg) q (Tk hq)) (Ui M h0)
  .have hg:=eA xs ys hv
   rw[Dr (gt xs ys) others hs h0 bn hg]
   have hm:mt (gt xs ys) others s v<=M*s:=by
    unfold mt
    obtain⟨a,ha⟩:=List.exists_mem_of_ne_nil _ bn
    obtain⟨a0,a1⟩:=iR ha
    refine Ch (DA (nw.mpr ⟨a,ha,rfl⟩)) ?_
    have e1:=ih a a1 a0 (by lia)
    have e2:=ih (s-a) (by lia) (by lia) (by lia)
    have e3:M*s=M*a+M*(s-a):=by rw[<-Nat.mul_add];congr 1;lia
    show jn (gt xs ys) others a v+jn (gt xs ys) others (s-a) v<=M*s
    lia
   refine Ch (DA (nw.mpr ⟨v,Pi.mpr (by rw[cF];exact hv),rfl⟩)) ?_
   rw[eu hv]
   have e4:aj (⟨xs.getD (v % xs.length) 0,ys.getD (v / xs.length) 0⟩:Pt) ⟨xs.getD (v % xs.length) 0,ys.getD (v / xs.length) 0⟩=0:=by unfold aj;lia
   lia
theorem Wz{ps:List Pt}(g:Good ps):bN ps<=4000000000*64:=by
 unfold bN
 by_cases h2:(b9 ps).length<2
 .rw[BK h2];exact SC _
 .cases hf:b9 ps with
  |nil=>rw[hf]at h2;simp at h2
  |cons p0 others=>
   have bn:others≠[]:=λe=>by rw[hf,e]at h2;simp at h2
   have h6:others.length<=6:=by
    have h1:=nF ps
    have h3:=g.len
    rw[hf]at h1
    simp at h1
    lia
   rw[Cj hf bn]
   have h1:1<2 ^ others.length:=yX (λe=>bn (cC.mp e))
   have h64:2 ^ others.length<=2 ^ 6:=bM (by decide) h6
   have hp0:p0∈ps:=gR.mp (by rw[hf];simp)
   have rg:∀{x:Int},x∈wn ps->-1000000000<=x/\x<=1000000000:=λ{x}hx=>by
    obtain⟨p,hp,rfl⟩:=nw.mp (dI.mp hx)
    have:=g.dc p hp
    unfold aq vz at this
    have:=of_decide_eq_true this
    exact⟨this.1,this.2.1⟩
   have P':∀{y:Int},y∈Db ps->-1000000000<=y/\y<=1000000000:=λ{y}hy=>by
    obtain⟨p,hp,rfl⟩:=nw.mp (dI.mp hy)
    have:=g.dc p hp
    unfold aq vz at this
    have:=of_decide_eq_true this
    exact⟨this.2.2.1,this.2.2.2⟩
   have hM:∀p∈gt (wn ps) (Db ps),∀q∈others,aj p q<=4000000000:=λp hp q hq=>by
    obtain⟨y,hy,hp⟩:=mT.mp hp
    obtain⟨x,hx,rfl⟩:=nw.mp hp
    have hq':q∈ps:=gR.mp (by rw[hf];simp[hq])
    have a1:=rg hx
    have a2:=P' hy
    have b1:=rg (dI.mpr (nw.mpr ⟨q,hq',rfl⟩):q.x∈wn ps)
    have b2:=P' (dI.mpr (nw.mpr ⟨q,hq',rfl⟩):q.y∈Db ps)
    unfold aj
    show(x-q.x).natAbs+(y-q.y).natAbs<=_
    lia
   exact Ch (acJ h6 hM (ls (oi hp0)) (2 ^ others.length-1) (by lia) (by lia)) (Nat.mul_le_mul_left _ (by lia))
theorem TR{f:ac}{fd:on}(F:re K "ask_ratio" "ask_ratio" AZ f fd)(T:Txt mg Ad)(fh:Def P w K mg base "shortest_length" 6 ko pL)
 (mV:Def P w K mg base "pairs_taken" 3 p_ yU)(mQ:Def P w K mg base "pairs_length" 1 pX yz)
 (ya:Def P w K mg base "common_divisor" 1 tw Ge):o0 P w K mg base ae 7 f fd AS (dF 19):=by
 have nd:=Im.nd
 refine F.ok Im (λvs H Q E h=> ?_) (λlm A outer s H vs Q E hr h=> ?_)
 .obtain⟨n,a,ps,ns,ca,rfl,_⟩:=h
  rfl
 .obtain⟨l,a,ps,ns,ca,rfl,hl,hg,ha,hb,hc,k⟩:=h
  obtain⟨rfl,rfl⟩:=aa8 hc
  rw[WC]at k
  refine⟨_,(ga (pS 2 nd (sK fh (hr.mono (by decide)) (am (pv 0) bi)))
   (ga (aw (bw h_ (pv 2) nb (bx _)) (jp (pi (xL (am (aY T.NOTHING_THERE) bi)))) aD)
   (ga (pS 3 nd (sK mQ (hr.mono (by decide)) (am (sK mV (hr.mono (by decide)) (am (pv 0) bi)) bi)))
   (ga (pS 4 nd (sK ya (hr.mono (by decide)) (am (pv 3) (am (pv 2) bi))))
   (jp (pi (xL (am (wp CM (pv 3) (pv 4)) (am (wp CM (pv 2) (pv 4)) bi))))))))),?_⟩
  walk_at "rd"
  refine⟨l,ps,rfl,hl,hg.len,λH1 s1=> ?_⟩
  walk_at "rd"
  have hle:=Wz hg
  refine⟨rfl,_,rfl,cW (λh=> ?_) (λh=> ?_)⟩
  .have h:((bN ps:Nat):Int)=0:=V.int.inj (of_decide_eq_true h)
   have h':decide (0<bN ps)=false:=decide_eq_false (by lia)
   rw[h']at k
   exact⟨by decide,λp hp=>k _ p (s1.trans (cr hp)) (s1.free hp) bv⟩
  .have h:¬((bN ps:Nat):Int)=0:=λe=>h (decide_eq_true (congrArg V.int e))
   have h0:0<bN ps:=by lia
   rw[decide_eq_true h0]at k
   refine⟨l,ps,rfl,TL.same s1 hl,hg.len,λH2 q s2 hq=> ?_⟩
   have bL:=Ac hg.len
   refine⟨q,fo ps,rfl,hq,by lia,λH3 s3=> ?_⟩
   walk_at "rd"
   refine⟨qG ps,bN ps,rfl,?_⟩
   have Pj:0<oA (qG ps) (bN ps):=Nat.gcd_pos_of_pos_right _ h0
   have mf:oA (qG ps) (bN ps)<=bN ps:=Nat.gcd_le_right _ h0
   walk_at "rd"
   refine⟨⟨by lia,by lia⟩,⟨by lia,by lia⟩,by decide,λr hr'=>k _ r (((s1.trans s2).trans s3).trans (cr hr')) (((s1.trans s2).trans s3).free hr') bv⟩
theorem WD(ps:List Pt)(d:Int):au ps (.trunk d)=if decide (d=0\/d=1)=true then(match qu (if d=0 then ps else jC ps)with|some b=>(ps,[(b.1:Int),b.2])|none=>(ps,[-5]))else(ps,[-4]):=by
 show bC ps (bO _ _ >>= λ_=>_)=_
 rw[bQ]
 congr 1
 cases qu (if d=0 then ps else jC ps)<;>rfl
theorem TU{f:ac}{fd:on}(F:re K "ask_trunk" "ask_trunk" A0 f fd)(T:Txt mg Ad)(uu:Def P w K mg base "best_trunk" 2 uF HJ):o0 P w K mg base ae 3 f fd AU (dF 22):=by
 have nd:=Io.nd
 refine F.ok Io (λvs H Q E h=> ?_) (λlm A outer s H vs Q E hr h=> ?_)
 .obtain⟨n,a,ps,ns,ca,rfl,_⟩:=h
  rfl
 .obtain⟨l,a,ps,ns,ca,rfl,hl,hg,ha,hb,hc,k⟩:=h
  obtain⟨d,rfl,rfl⟩:=aa' hc
  obtain⟨xs,lf,hlen⟩:=hl.lst
  rw[WD]at k
  refine⟨_,(ga (pS 2 nd (ul (Ev K rfl) (pv 1) nb (λ_ _=>rfl)))
   (ga (aw (PW.pt (Ed (bw oO (pv 2) nb (bx _)) (DJ (bw oO (pv 2) nb (bx _))))) (jp (pi (xL (am (aY T.BAD_NUMBER) bi)))) aD)
   (ga (aw (bT (kY K rfl (pv 0) (λ_=>rfl))) (jp (pi (xL (am (aY T.NOTHING_THERE) bi)))) aD)
   (ga (aw (bw h_ (pv 2) nb (bx _)) (jp (pi (dJ (tZ K rfl) (by rfl) T.fE gZ (am (sK uu (hr.mono (by decide)) (am (ao rfl nd (P7 K rfl (pv 0)) (own:=[("x",3),("y",4)]) (Re rfl) (λ_ _ _ _ _=>(aF K rfl (n:=2) rfl (Da (xz 3 nd) (Da (xz 4 nd) aG)) rfl rfl)) (λ_ _ _ _ _=>T0) (λ_ _ _ _ _=>(WP (am (pv 4) (am (pv 3) bi))))) bi)) bi)))) aD)
   (jp (pi (dJ (tZ K rfl) (by rfl) T.fE gZ (am (sK uu (hr.mono (by decide)) (am (pv 0) bi)) bi)))))))),?_⟩
  walk_at "rd"
  refine Fa ha rfl ?_
  walk_at "rd"
  refine⟨rfl,_,rfl,?_⟩
  have empty:∀{e:Int},(∀(H':Hp)(p:ac),db H H'->H p=none->IL H' p [e]->Q (V.ref p) H')->1<=sizeLine/\∀(p:ac),H p=none->Q (V.ref p) (upd H p (.lst [.int e])):=λk'=>⟨by decide,λp hp=>k' _ p (cr hp) hp bv⟩
  by_cases d0:d=0
  .subst d0
   rw[if_neg (by decide),if_neg (by decide)]
   rw[if_pos (show decide ((0:Int)=0\/(0:Int)=1)=true by decide),if_pos (show(0:Int)=0 from rfl)]at k
   refine⟨_,.inl ⟨xs,aa.of lf,rfl⟩,?_⟩
   cases UV:ps with
   |nil=>
    rw[UV]at hlen k
    have e:xs=[]:=cC.mp hlen
    subst e
    rw[if_pos (show(!([]:List V).isEmpty)=false from rfl)]
    exact empty λH' p s' hp hI=>k H' p s' hp hI
   |cons p0 pt=>
    have e:xs≠[]:=λe=>by rw[e,UV]at hlen;cases hlen
    have e':(!xs.isEmpty)=true:=by cases xs with|nil=>exact absurd rfl e|cons _ _=>rfl
    rw[e',if_neg (by decide)]
    refine⟨rfl,_,rfl,?_⟩
    rw[if_neg (by decide)]
    refine⟨l,ps,rfl,hl,hg.len,by rw[UV];simp,λH1 q c t s1 ht hq=>⟨q,rfl,_,.inr (P3.of hq),λr hr'=>k _ r (s1.trans (cr hr')) (s1.free hr') ?_⟩⟩
    rw[ht]
    exact bv
  .by_cases d1:d=1
   .subst d1
    rw[if_pos (by decide)]
    refine⟨rfl,_,rfl,?_⟩
    rw[if_neg (by decide)]
    rw[if_pos (show decide ((1:Int)=0\/(1:Int)=1)=true by decide),if_neg (show ¬(1:Int)=0 by decide)]at k
    refine⟨_,.inl ⟨xs,aa.of lf,rfl⟩,?_⟩
    cases UV:ps with
    |nil=>
     rw[UV]at hlen k
     have e:xs=[]:=cC.mp hlen
     subst e
     rw[if_pos (show(!([]:List V).isEmpty)=false from rfl)]
     exact empty λH' p s' hp hI=>k H' p s' hp hI
    |cons p0 pt=>
     have e:xs≠[]:=λe=>by rw[e,UV]at hlen;cases hlen
     have e':(!xs.isEmpty)=true:=by cases xs with|nil=>exact absurd rfl e|cons _ _=>rfl
     rw[e',if_neg (by decide)]
     refine⟨rfl,_,rfl,?_⟩
     rw[if_pos (by decide)]
     refine⟨⟨_,aa.of lf⟩,iV ps (λp=>[p.y,p.x]) hlen.symm (by rw[hlen];exact bh hg.len) (aa.of lf) (λi x p H2 C hx hp s2 hC=> ?_) λD H2 hD s2 h2=> ?_⟩
     .obtain⟨b,rfl,hb⟩:=hl.at lf hx hp
      refine bB (s2 _ _ hb) ⟨rfl,?_⟩
      walk_at "rd"
      exact⟨by decide,λu hu=>hC u _ (cr hu) bv⟩
     have FR:PL H2 D (jC ps):=by
      unfold PL KB jC
      rw[P6]
      exact h2
     have bL:(jC ps).length=ps.length:=by unfold jC;rw[dL]
     refine⟨D,jC ps,rfl,FR,by rw[bL];exact hg.len,(λe=>by rw[e,UV]at bL;cases bL),λH1 q c t s1 ht hq=>⟨q,rfl,_,.inr (P3.of hq),λr hr'=>k _ r ((s2.trans s1).trans (cr hr')) ((s2.trans s1).free hr') ?_⟩⟩
     rw[ht]
     exact bv
   .have n0:¬(V.int d=V.int 0):=λe=>d0 (V.int.inj e)
    have n1:¬(V.int d=V.int 1):=λe=>d1 (V.int.inj e)
    rw[decide_eq_false n0,if_pos (by decide)]
    refine⟨rfl,_,rfl,?_⟩
    rw[decide_eq_false n1,if_pos (by decide)]
    rw[if_neg (show ¬decide (d=0\/d=1)=true by rw[decide_eq_true_eq];lia)]at k
    exact empty λH' p s' hp hI=>k H' p s' hp hI
theorem Ko{α:Type}(f g h i:α->Int):∀l:List α,(l.flatMap λp=>[f p,g p,h p,i p]).length=4*l.length
 |[]=>rfl
 |a::l=>by rw[iH,Rs,Ko f g h i l];simp;lia
theorem UY{f:ac}{fd:on}(F:re K "ask_tree" "ask_tree" BB f fd)(T:Txt mg Ad)(m_:Def P w K mg base "tree_lines" 6 qf zt):o0 P w K mg base ae 7 f fd Bt (dF 14):=by
 have nd:=Ja.nd
 refine F.ok Ja (λvs H Q E h=> ?_) (λlm A outer s H vs Q E hr h=> ?_)
 .obtain⟨n,a,ps,ns,ca,rfl,_⟩:=h
  rfl
 .obtain⟨l,a,ps,ns,ca,rfl,hl,hg,ha,hb,hc,k⟩:=h
  obtain⟨rfl,rfl⟩:=aa3 hc
  refine⟨_,(ga (pS 2 nd (sK m_ (hr.mono (by decide)) (am (pv 0) bi)))
   (ga (pS 3 nd (xL (am (FM (aW K rfl) (by rfl) T.aJ aZ (am (pv 2) bi)) bi)))
   (ga (ck br rfl (P7 K rfl (pv 2)) (aF K rfl (n:=2) rfl (Da (aP 4 nd) (Da (aP 5 nd) aG)) rfl rfl) (jp (du (cJ cB mB mC kU (pv 3) (am (xL (am (ul (bf K rfl) (pv 4) nb (λ_ _=>rfl)) (am (ul (bf K rfl) (pv 4) nb (λ_ _=>rfl)) (am (ul (bf K rfl) (pv 5) nb (λ_ _=>rfl)) (am (ul (bf K rfl) (pv 5) nb (λ_ _=>rfl)) bi))))) bi)))))
   (jp (pi (pv 3)))))),?_⟩
  walk_at "rd"
  refine⟨l,ps,rfl,hl,hg.len,λH1 q s1 hq hL=> ?_⟩
  have jk:=C7 hg.len
  obtain⟨xs,lf,_⟩:=id hL
  have hlen:=hL.len lf
  walk_at "rd"
  refine⟨xs,.inl (aa.of lf),by decide,λt ht=> ?_⟩
  have s0:=cr (o:=.lst [.int (xs.length:Int)]) ht
  refine⟨⟨_,aa.of (s0 _ _ lf)⟩,gU (xs:=xs) (λi σ H'=>∃v4 v5,σ=[some (.ref l),some (.ref a),some (.ref q),some (.ref t),v4,v5]/\db H1 H'/\IL H' t (((SB ps).length:Int)::((SB ps).take i).flatMap λe=>[e.1.x,e.1.y,e.2.x,e.2.y]))
   ⟨_,_,rfl,s0,?_⟩ (λi σ H' _⟨_,_,_,s',_⟩=>aa.of (s' _ _ lf)) ?_ ?_⟩
  .show upd H1 t _ t=_
   rw[bv,hlen];rfl
  .rintro i x σ H' hi ⟨v4,v5,rfl,s',hIL⟩
   have a_:i<xs.length:=(P4.mp hi).1
   obtain⟨e,he⟩:∃e,(SB ps)[i]? =some e:=⟨_,wS (by lia)⟩
   obtain⟨b,a1,a2,rfl,hb',h1,h2⟩:=hL.at lf hi he
   refine bB (s' _ _ hb') ?_
   walk_at "rd"
   refine⟨.inl ⟨rfl,_,aa.of hIL⟩,aO (s' _ _ h1) rfl (aO (s' _ _ h1) rfl (aO (s' _ _ h2) rfl (aO (s' _ _ h2) rfl ⟨by decide,λu hu=>ot (cr hu _ _ hIL) bv ?_ ?_⟩)))⟩
   .rw[dL,Os,Ko,dG]
    exact TW (cT (by simp;lia))
   .refine⟨_,_,⟨rfl,rfl⟩,iW (s'.trans (cr hu)) ht,?_⟩
    show upd _ t _ t=_
    rw[bv,take_snoc he,yD,FS,FS,GM]
    rfl
  .rintro σ H' ⟨v4,v5,rfl,s',hIL⟩
   walk_at "rd"
   rw[hlen,iK]at hIL
   exact k H' t (s1.trans s') (s1.free ht) hIL
theorem Vb(ps:List Pt):au ps .joints=(ps,pQ (nh ps)):=rfl
theorem Sr{f L:ac}{fd:on}(F:re K "ask_joints" "ask_joints" zV f fd)(T:Txt mg Ad)(fy:Def P w K mg base "counted" 1 kW qB)
 (y8:Def P w K mg base "tree_joints" 8 uh (He L)):o0 P w K mg base ae 9 f fd zP (rW L 15):=by
 have nd:=Ht.nd
 refine F.ok Ht (λvs H Q E h=> ?_) (λlm A outer s H vs Q E hr h=> ?_)
 .obtain⟨_,n,a,ps,ns,ca,rfl,_⟩:=h
  rfl
 .obtain⟨aL,l,a,ps,ns,ca,rfl,hl,hg,ha,hb,hc,k⟩:=h
  obtain⟨rfl,rfl⟩:=aa4 hc
  rw[Vb]at k
  refine⟨_,(jp (pi (sK fy (hr.mono (by decide)) (am (sK y8 (hr.mono (by decide)) (am (pv 0) bi)) bi)))),?_⟩
  walk_at "rd"
  refine⟨l,ps,rfl,hl,hg.len,aL,λH1 q s1 n1 hJ=> ?_⟩
  refine⟨q,(nh ps).map λp=>(p.x,p.y),rfl,Ec (nh ps)▸hJ,?_,λH' p s' hp hI=>k H' p (s1.trans s') (s1.free hp) ?_⟩
  .rw[dL]
   have h1:(nh ps).length<=(f_ ps).length:=iC ..
   have h2:=gW hg.len
   lia
  .rw[B5]at hI
   exact hI
theorem WA(ps:List Pt):au ps .bends=(ps,pQ (ny ps)):=rfl
theorem TN{f L:ac}{fd:on}(F:re K "ask_bends" "ask_bends" AX f fd)(T:Txt mg Ad)(fy:Def P w K mg base "counted" 1 kW qB)
 (zJ:Def P w K mg base "tree_bends" 8 uJ (HN L)):o0 P w K mg base ae 9 f fd AQ (rW L 16):=by
 have nd:=Ik.nd
 refine F.ok Ik (λvs H Q E h=> ?_) (λlm A outer s H vs Q E hr h=> ?_)
 .obtain⟨_,n,a,ps,ns,ca,rfl,_⟩:=h
  rfl
 .obtain⟨aL,l,a,ps,ns,ca,rfl,hl,hg,ha,hb,hc,k⟩:=h
  obtain⟨rfl,rfl⟩:=aa5 hc
  rw[WA]at k
  refine⟨_,(jp (pi (sK fy (hr.mono (by decide)) (am (sK zJ (hr.mono (by decide)) (am (pv 0) bi)) bi)))),?_⟩
  walk_at "rd"
  refine⟨l,ps,rfl,hl,hg.len,aL,λH1 q s1 n1 hJ=> ?_⟩
  refine⟨q,(ny ps).map λp=>(p.x,p.y),rfl,Ec (ny ps)▸hJ,?_,λH' p s' hp hI=>k H' p (s1.trans s') (s1.free hp) ?_⟩
  .rw[dL]
   have h1:(ny ps).length<=(f_ ps).length:=iC ..
   have h2:=gW hg.len
   lia
  .rw[B5]at hI
   exact hI
end
end Sq
end
section
namespace Sq
open PySem PySem.Spec PyProof.Rows L2
open Vbpcar (Pt)
open VbpcarNeutral (callOf)
theorem bK.Ol{C g n:ac}{H:Hp}{ps:List Pt}{xs:List V}{o:HO}(h:bK C g H n ps)(hg:H g=some (.lst xs)):bK C g (upd H g o) n ps:=by
 obtain⟨dx,l,h1,⟨zs,h2,h3,h4⟩,h5⟩:=h
 have kt:Kt H (upd H g o):=Kt.upd hg
 refine⟨dx,l,?_,⟨zs,?_,h3,λz hz=>kt _ _ (h4 z hz)⟩,h5⟩
 .rw[gl (P8 h1 hg (by intro z;cases z))];exact h1
 .rw[gl h5];exact h2
theorem LA{n:Nat}(h:n<=100000):n<sizeLine:=gH h (by decide)
section
variable{P:lw}{w:li}{K:ge}{mg:Str->Option al}{base:io}{Ad:aV}{C:ac}
def NI(L:ac):Sp:=λvs H Q E=>∃l j a,vs=[.ref l,.int j,.ref a]/\8<=j/\j<=24/\rW L j [.ref l,.ref a] H Q E
theorem abB{f L:ac}{fd:on}(F:re K "ask" "ask" EE f fd)(T:Txt mg Ad)
 (tb:∃kvs,i9 K Ad.QUESTIONS kvs/\∀j:Int,8<=j->j<=24->∃f,On kvs j=some (.ref f)/\rY P w K mg base 9 f (rW L j)):o0 P w K mg base ae 10 f fd w9 (NI L):=by
 have nd:=NF.nd
 refine F.ok NF (λvs H Q E h=> ?_) (λlm A outer s H vs Q E hr h=> ?_)
 .obtain⟨n,j,a,rfl,_⟩:=h
  rfl
 .obtain⟨n,j,a,rfl,h0,h7,k⟩:=h
  obtain⟨kvs,tk,tf⟩:=tb
  obtain⟨g,hg,hf⟩:=tf j h0 h7
  refine⟨_,(jp (pi (LJ (k:=9) (hr.mono (by decide)) (DI K rfl (DH T.QUESTIONS) (pv 1) (λ_ _=>rfl)) (am (pv 0) (am (pv 2) bi))))),?_⟩
  exact⟨_,rfl,_,_,_,_,rfl,rfl,tk,hg,_,_,rfl,hf,_,rfl,_,rfl,k⟩
def Ha(C L:ac):Sp:=λvs H Q _=>∃n j a g ps ns c,vs=[.ref n,.int j,.ref a]/\H L=some lQ/\(∃o,H g=some o)/\bK C g H n ps/\Good ps/\IL H a ns/\(∀x∈ns,-1000000000000000000<=x/\x<=1000000000000000000)/\j=numOf c/\ns=oq c/\
 ∀H' p,bK C g H' n (au ps c).1->Is n H H'->H p=none->IL H' p (au ps c).2->Q (.ref p) H'
theorem RG{f L:ac}{fd:on}(F:re K "answer_call" "answer_call" ze f fd)(T:Txt mg Ad)(c:Cl K C)(Cw:Def P w K mg base "change" 4 vT (KR C))(El:Def P w K mg base "ask" 10 w9 (NI L)):
 o0 P w K mg base ae 11 f fd ud (Ha C L):=by
 have nd:=G3.nd
 refine F.ok G3 (λvs H Q E h=> ?_) (λlm A outer s H vs Q E hr h=> ?_)
 .obtain⟨n,j,a,g,ps,ns,ca,rfl,_⟩:=h
  rfl
 .obtain⟨n,j,a,g,ps,ns,ca,rfl,aL,c5,hN,hg,ha,hb,hj,ml,k⟩:=h
  have hc:callOf [j::ns]=some ca:=by rw[hj,ml];exact JI ca
  obtain⟨h0,h24⟩:=aaq ca
  rw[<-hj]at h0 h24
  refine⟨_,(ga (aw (bw jS (pv 1) (aY T.LAST_CHANGE) (bx _)) (jp (pi (sK Cw (hr.mono (by decide)) (am (pv 0) (am (pv 1) (am (pv 2) bi)))))) aD)
   (jp (pi (sK El (hr.mono (by decide)) (am (Do K rfl (pv 0) rfl) (am (pv 1) (am (pv 2) bi))))))),?_⟩
  walk_at "rd"
  refine cW (λh=> ?_) (λh=> ?_)
  .have h:=of_decide_eq_true h
   exact⟨n,j,a,rfl,h0,h,n,a,g,ps,ns,ca,rfl,c5,hN,hg,ha,hb,hc,k⟩
  .have h:¬j<=7:=λe=>h (decide_eq_true e)
   obtain⟨dx,l,hn,hl,d9⟩:=hN
   refine⟨C,dx,_,hn,c.cl,c.nP,_,eB l,l,j,a,rfl,by lia,h24,aL,l,a,ps,ns,ca,rfl,hl,hg,ha,hb,hc,λH' p s hp hIL=>k H' p ?_ (Is.of_same s) hp hIL⟩
   rw[step_keeps ps (by lia)]
   exact bK.same s ⟨dx,l,hn,hl,d9⟩
def BL(L:ac)(K:ge):Sp:=λvs H Q _=>∃a ns,vs=[.ref a]/\H L=some lQ/\aa K H a (ns.map V.int)/\(∀x∈ns,-1000000000000000000<=x/\x<=1000000000000000000)/\ns.length<=1000/\Gk ns=true/\
 ∀H' p,H' L=some lQ->H' p=some (.lst ((yY ns).map V.int))->Q (.ref p) H'
theorem Wm{f fI L:ac}{fd fdI:on}(F:re K "answers" "answers" Cf f fd)(T:Txt mg Ad)(acf:Mk K Ad.Net fI)(VA:o0 P w K mg base ae 1 fI fdI qx (Jh Ad.Net))(VM:Binds K fdI qx [])
 (y0:Def P w K mg base "answer_call" 11 ud (Ha Ad.Net L))
 (tb:∃kvs,i9 K Ad.ARGUMENTS kvs/\∀c:gc,On kvs (numOf c)=some (.int ((oq c).length:Int))):o0 P w K mg base ae 12 f fd nO (BL L K):=by
 have nd:=JW.nd
 refine F.ok JW (λvs H Q E h=> ?_) (λlm A outer s H vs Q E hr h=> ?_)
 .obtain⟨a,ns,rfl,_⟩:=h
  rfl
 .obtain⟨a,ns,rfl,aL,hS,hb,hlen,EY,k⟩:=h
  obtain⟨kvs,tk,tv⟩:=tb
  obtain⟨cs,hcs,h100,ac6⟩:=Uu EY
  refine⟨_,(ga (pS 1 nd (Zd acf VA (hr.mono (by decide)) rfl T.Net VM .nil rF))
   (ga (pS 2 nd (xL bi))
   (ga (pS 3 nd nb)
   (ga (vY br (bw rE (pv 3) (FM (aW K rfl) (by rfl) T.aJ aZ (am (pv 0) bi)) (bx _)) (ga (pS 4 nd (ul (Ev K rfl) (pv 0) (pv 3) (λ_ _=>rfl)))
   (ga (pS 5 nd (wp bz (wp bz (pv 3) nb) (DI K rfl (DH T.ARGUMENTS) (pv 4) (λ_ _=>rfl))))
   (ga (pS 6 nd (sK y0 (hr.mono (by decide)) (am (pv 1) (am (pv 4) (am (nZ (n_ K rfl) (pv 0) (lj (wp bz (pv 3) nb)) (lj (pv 5))) bi)))))
   (ga (du (cJ cB js jt iQ (pv 2) (am (FM (aW K rfl) (by rfl) T.aJ aZ (am (pv 6) bi)) bi)))
   (ga (du (cJ cB mB mC kU (pv 2) (am (pv 6) bi)))
   (jp (pS 3 nd (pv 5)))))))))
   (jp (pi (pv 2))))))),?_⟩
  refine aQ λR hR=> ?_
  walk_at "rd"
  intro n dx hn hdx bn
  refine⟨n,dx,rfl,bv,λH1 hN hO=>⟨rfl,?_⟩⟩
  walk_at "rd"
  refine hR _ _ ?_
  clear hR
  have sM:db H H1:=db.made hn hdx hO
  refine aQ λR hR=> ?_
  walk_at "rd"
  refine⟨by decide,λg hg=>hR _ _ ?_⟩
  clear hR
  have hNg:bK Ad.Net g H1 n []:=by
   obtain⟨dx',l,h1,h2⟩:=hN
   obtain⟨xs,lf,_⟩:=TL.lst h2
   exact⟨dx',l,h1,h2,wT lf hg⟩
  have s0:db H1 (upd H1 g (.lst [])):=cr hg
  walk_at "rd"
  refine⟨λm σ H'=>∃(i fu:Nat)(ps:List Pt)(rest:List (List (List Int)))(given:List Int)(v4 v5 v6:Option V),σ=[some (.ref a),some (.ref n),some (.ref g),some (.int (i:Int)),v4,v5,v6]/\m=ns.length-i/\i<=ns.length/\
   db H H'/\bK Ad.Net g H' n ps/\Good ps/\IL H' g given/\jD ef fu (ns.drop i)=some rest/\given++ph ps rest=yY ns/\given.length+401*rest.length<=40100,
   ⟨_,0,ns.length,[],cs,[],_,_,_,rfl,rfl,SC _,sM.trans s0,hNg.same s0,⟨SC _,λ_ h=>nomatch h⟩,bv,hcs,ac6.symm,by simp;lia⟩,?_⟩
  rintro m σ H' ⟨i,fu,ps,rest,given,v4,v5,v6,rfl,rfl,hi,sH,hN',j8,hIL,bG,FA,hle⟩
  have hS':=sH.seq hS
  have hHg:H g=none:=sM.free hg
  walk_at "rd"
  refine⟨ns.map V.int,.inl hS',?_⟩
  rw[dL]
  refine cW (λh=> ?_) (λh=> ?_)
  .have h:=of_decide_eq_true h
   have rc:i<ns.length:=by lia
   obtain⟨p,r,iw⟩:∃p r,ns.drop i=p::r:=⟨_,_,SN rc⟩
   have Pj:ns[i]? =some p:=by
    have e:=congrArg List.head? iw
    rw[List.head?_drop]at e
    exact e
   have hr:ns.drop (i+1)=r:=by rw[<-List.tail_drop,iw];rfl
   have xH:r.length=ns.length-(i+1):=by rw[<-hr,pZ]
   rw[iw]at bG
   obtain⟨n',fu',N9,rfl,xI,hn',ac3⟩:=JJ bG
   obtain⟨ca,hp,Es,_⟩:=JZ (ns:=r.take n') (by rw[dG];lia) xI
   have gw:callOf [p::r.take n']=some ca:=by rw[hp,Es];exact JI ca
   have Ew:(oq ca).length=n':=by rw[<-Es,dG];lia
   have PM:=tv ca
   rw[<-hp,Ew]at PM
   refine⟨_,λ_ _ h=>h,?_⟩
   walk_at "rd"
   refine ixS hS' (at_of rfl (show(ns.map V.int)[i]? =some (V.int p) by rw[wP,Pj];rfl)) ?_
   walk_at "rd"
   refine⟨_,rfl,_,kvs,_,_,rfl,rfl,tk,PM,_,rfl,_,_,rfl,hS',λq hq=> ?_⟩
   have sq:=cr (o:=.lst (aU (ns.map V.int) (some ((i:Int)+1)) (some ((i:Int)+1+(n':Int))))) hq
   have ac2:aU (ns.map V.int) (some ((i:Int)+1)) (some ((i:Int)+1+(n':Int)))=(r.take n').map V.int:=by
    rw[Lm,show(i:Int)+1=((i+1:Nat):Int) by lia,show((i+1:Nat):Int)+(n':Int)=((i+1+n':Nat):Int) by lia,HT.wC,HT.wC,
     kJ (by lia),kJ (by lia),hr,show i+1+n'-(i+1)=n' by lia]
   have hILq:IL (upd H' q (.lst (aU (ns.map V.int) (some ((i:Int)+1)) (some ((i:Int)+1+(n':Int)))))) q (r.take n'):=by
    show upd H' q _ q=_
    rw[bv,ac2]
   have hbr:∀x∈r.take n',-1000000000000000000<=x/\x<=1000000000000000000:=λx hx=>hb x (Hi (i:=i+1) (by rw[hr];exact Hj hx))
   refine⟨n,p,q,g,ps,_,ca,rfl,sq _ _ (sH _ _ aL),⟨_,sq _ _ hIL⟩,hN'.same sq,j8,hILq,hbr,hp,Es,λH2 t hN2 hO2 ht hIL2=> ?_⟩
   have xE:g≠n:=by
    obtain⟨dx',l,e,_⟩:=hN'
    exact P8 hIL e (by intro z;cases z)
   have hg2:IL H2 g given:=hO2 _ _ (sq _ _ hIL) xE
   have htg:t≠g:=(wT (sq _ _ hIL) ht).symm
   have bL:=Zx j8 ca
   rw[Os]at hle
   refine⟨.inl ⟨rfl,_,aa.of hg2⟩,t,rfl,_,.inl (aa.of hIL2),g,_,_,rfl,rfl,hg2,?_,.inl ⟨rfl,_,aa.of bv⟩,g,t,_,_,rfl,rfl,bv,(by rw[gl htg];exact hIL2),?_,?_⟩
   .rw[dL];exact LA (by lia)
   .rw[Rs,dL,dL,fW];exact TW (LA (by lia))
   have hdc:=YE ps N9 gw
   refine⟨_,?_,i+1+n',fu',(au ps ca).1,N9,given++(((au ps ca).2.length:Int)::(au ps ca).2),_,_,_,⟨by lia,rfl,rfl,rfl⟩,rfl,by lia,?_,?_,X2 j8 ca,?_,?_,?_,?_⟩
   .lia
   .intro b o hb'
    have Pb:b≠g:=wT hb' hHg
    have hbn:b≠n:=wT hb' hn
    rw[gl Pb,gl Pb]
    exact hO2 _ _ (sq _ _ (sH _ _ hb')) hbn
   .exact(hN2.Ol hg2).Ol bv
   .show upd _ g _ g=_
    rw[bv,dL,GM,mM]
    rfl
   .rw[<-List.drop_drop,hr]
    exact ac3
   .rw[<-FA,hdc,mM]
   .rw[Rs,Os];lia
  .have h:¬(i:Int)<(ns.length:Int):=λe=>h (decide_eq_true e)
   have hie:ns.drop i=[]:=List.drop_eq_nil_of_le (by lia)
   rw[hie]at bG
   have hr:=Kl bG
   subst hr
   rw[Z0,iL]at FA
   walk_at "rd"
   exact k H' g (sH _ _ aL) (by rw[<-FA];exact hIL)
end
end Sq
end
section
namespace L2
open PySem PySem.Spec PyProof.Rows
open PySem.W (WData Codec OpenSpec Well WellAll ReadsW ReadsAllW)
theorem Zt{K:ge}{H H':Hp}(m:∀b o,H b=some o->H' b=some o){a:ac}{xs:List V}(h:aa K H a xs):aa K H' a xs:=by
 rcases h with(h|⟨o,h⟩)|h
 .exact .inl (.inl (m _ _ h))
 .exact .inl (.inr ⟨o,m _ _ h⟩)
 .exact .inr h
theorem Zu{K:ge}{H H':Hp}(m:∀b o,H b=some o->H' b=some o){a:ac}{xs:List V}(h:P3 K H a xs):P3 K H' a xs:=by
 rcases h with(h|⟨o,h⟩)|h
 .exact .inl (.inl (m _ _ h))
 .exact .inl (.inr ⟨o,m _ _ h⟩)
 .exact .inr h
mutual
theorem Z1{K:ge}{H H':Hp}(m:∀b o,H b=some o->H' b=some o):∀{v:V}{d:aT},Dw K H v d->Dw K H' v d
 |_,_,.ag=>.ag
 |_,_,.bl b=>.bl b
 |_,_,.int i=>.int i
 |_,_,.str x=>.str x
 |_,_,.bV b=>.bV b
 |_,_,.lst h hs=>.lst (Zt m h) (u7 m hs)
 |_,_,.tup h hs=>.tup (Zu m h) (u7 m hs)
theorem u7{K:ge}{H H':Hp}(m:∀b o,H b=some o->H' b=some o):∀{vs:List V}{ds:List aT},eU K H vs ds->eU K H' vs ds
 |_,_,.nil=>.nil
 |_,_,.cons h hs=>.cons (Z1 m h) (u7 m hs)
end
def EN(fn:Str)(K:ge)(mg:Str->Option al)(L:ac):Prop:=
 ∃f o fd c oc vs,mg fn=some (.ref f)/\K.lookup f=some o/\o.data=.func fd/\fd.code=.ref c/\K.lookup c=some oc/\oc.data=.fields vs/\vs[11]? =some (.ref L)/\K.lookup L=none
def rK(fn:Str)(base:io)(mg:Str->Option al)(L:ac):Prop:=
 (∃f o fd c,mg fn=some (.ref f)/\base.get? f=some o/\o.data=.func fd/\fd.code=.ref c/\m6 base c L)/\base.BuiltinsAt mg L
theorem Wy{P:lw}{w:li}{K:ge}{mg mb:Str->Option al}{CX:eY}{k:Nat}{fa L c f:ac}{fn q:Str}{pos:Pos}{fd fdL:on}{oL:Obj}{ps:List Str}{sp:Sp}{s₁:ap}{vals:List al}{ds:List aT}{R:WS}{cl:Str->Option ac}{d0:aT}
 (KX:K.In s₁.heap)(ml:s₁.heap.Ns mainGlobals mg)(hb:s₁.heap.Ns builtinsNs mb)(hbb:∀x:Str,x≠"__name__"->mb x=bootBuiltins x)(ac9:s₁.heap.NoLimit)(hg:s₁.gens= #[])
 (sv:lx w.params s₁.heap vals ds)(SZ:fM ds=true)(hwt:∀d∈ds,d.weight<=1048576)(hr:UF k callerA)
 (hmf:mg fn=some (.ref f))(Py:s₁.heap.get? f=some oL)(gA:oL.data=.func fdL)(hfc:fdL.code=.ref c)(hT:s₁.heap.TableAt c L #[])(hCd:s₁.heap.IsCode c L #[])(hKL:K.lookup L=none)
 (hbm:∃bm ob,mg "__builtins__"=some (.ref bm)/\bm≠builtinsNs/\s₁.heap.get? bm=some ob/\ob.cls=.type "module"/\ob.dict=some builtinsNs/\ob.data=.plain)
 (F:∀base:io,K.In base->base.Ns mainGlobals mg->rK fn base mg L->o0 P w K mg base CX k fa fd ps sp)(rA:∀(s:ap)(us:List al),us.length=ps.length->oF s fd ⟨us,[]⟩ (ps.zip us))(hlen:ds.length=ps.length)
 (c6:∀(H:Hp)(xs:List V),H L=some (.lam pos q)->eU K H xs ds->sp xs H (λv H'=>Dw K H' v d0/\H' L=some (.lam pos q)) λ_ _ _=>False)
 (hCX:∀H e s',CX [] H s₁ (λ_ _ _=>False) e s'->False):
 codeAny (model P w) callerA (.call (.ref fa) ⟨vals,[]⟩) (λr s'=>∃u as,r=.ok (.ret u)/\ReadsW R cl s'.heap u d0 as/\OldK s₁.heap s'.heap/\s'.os=s₁.os/\oC s'.gens) s₁:=by
 obtain⟨A,ho,ar⟩:=vL ds vals sv SZ hwt
 have hO:NS (cq K s₁.heap A):=W' ar
 have hok0:SL P w (cq K s₁.heap A) s₁.heap:=ZP ar
 have hS0:=wJ KX ar ds vals sv SZ ho
 have hV:=oe ho
 have hK0:∀b u,cq K s₁.heap A b=some u->K.lookup b=none:=λb u z=>(we ar z).1
 have notA:∀{b:ac}{o:Obj},s₁.heap.get? b=some o->(∀vs n,o.data≠.seq vs n)->cq K s₁.heap A b=none:=λ{b o}e d=>by
  cases z:cq K s₁.heap A b with
  |none=>rfl
  |some u=>
   obtain⟨_,vs,_,_,⟨e2,_⟩|⟨e2,_⟩⟩:=we ar z
   .rw[e2]at e
    cases e
    exact absurd rfl (d _ _)
   .rw[e2]at e
    cases e
    exact absurd rfl (d _ _)
 generalize cq K s₁.heap A=H0 at hO hok0 hS0 hK0 notA
 have hL0:H0 L=none:=notA hT.2 (λ_ _ z=>nomatch z)
 have m0:∀b o,H0 b=some o->upd H0 L (.lam pos q) b=some o:=λb o e=>by rw[gl (wT e hL0)];exact e
 have ab:SL P w (upd H0 L (.lam pos q)) s₁.heap:=λb o e=>by
  by_cases z:b=L
  .rw[z,bv]at e
   cases e
   rw[z]
   exact⟨#[],hT.2,trivial,.inl rfl⟩
  .rw[gl z]at e
   exact(hok0 b o e).gq (λ_ _ _ x=>x) (λb' x=>m0 _ _ x) λb' xs x=>m0 _ _ x
 have hS:=u7 m0 hS0
 have hLam:upd H0 L (.lam pos q) L=some (.lam pos q):=bv
 have hFr:∀b,b≠L->upd H0 L (.lam pos q) b=none\/∃o u,upd H0 L (.lam pos q) b=some (.ai o u):=λb z=>by rw[gl z];exact hO b
 have cZ:∀{b:ac}{o:Obj},s₁.heap.get? b=some o->(∀vs n,o.data≠.seq vs n)->(∀vs,o.data≠.fields vs\/o.cls≠.none)->upd H0 L (.lam pos q) b=none:=λ{b o}e d d2=>by
  rw[gl (λz=> ?_)]
  .exact notA e d
  .rw[z,hT.2]at e
   cases e
   rcases d2 #[]with d2|d2
   .exact d2 rfl
   .exact d2 rfl
 have nK:∀b o,K.lookup b=some o->upd H0 L (.lam pos q) b=none:=λb o e=>by
  rw[gl (λz=>by rw[z,hKL]at e;cases e)]
  cases z:H0 b with
  |none=>rfl
  |some u=>
   rw[hK0 b u z]at e
   cases e
 generalize upd H0 L (.lam pos q)=H at ab hS hLam hFr cZ nK
 have base_of:∀{b:ac}{o:Obj},s₁.heap.get? b=some o->H b=none->(ib s₁.heap H).get? b=some o:=λe n=>YL e n
 have nsK:∀{b:ac}{m:Str->Option al},s₁.heap.Ns b m->(ib s₁.heap H).Ns b m:=λ{b m}⟨o,es,ep,e,d,r⟩=>⟨o,es,ep,base_of e (cZ e (λ_ _ z=>by rw[d]at z;cases z) λ_=>.inl λz=>by rw[d]at z;cases z),d,r⟩
 have hKb:K.In (ib s₁.heap H):=λb o e=>base_of (KX b o e) (nK b o e)
 have hM:Mod K mg (ib s₁.heap H):=⟨hKb,nsK ml,⟨mb,nsK hb,hbb⟩,let⟨mc,h1,h2⟩:=ac9;⟨mc,nsK h1,h2⟩⟩
 have e0:jU P w K mg (ib s₁.heap H) callerA [] s₁ H:=⟨rfl,hM,λb o e=>aas e,nz (Xp _ _),trivial,λb hb=>absurd (show b∈([]:List ac)from hb) (by simp),ab,.of_eq hg⟩
 have hLB:rK fn (ib s₁.heap H) mg L:=by
  refine⟨⟨f,oL,fdL,c,hmf,base_of Py (cZ Py (λ_ _ z=>by rw[gA]at z;cases z) λ_=>.inl λz=>by rw[gA]at z;cases z),gA,hfc,?_⟩,?_⟩
  .obtain⟨o,vs,file,tf,flags,tg,inF,text,tt,e1,e2,e3,e4⟩:=PySem.W.CodeHd.of hCd hT
   exact⟨o,vs,file,tf,flags,tg,inF,text,tt,base_of e1 (cZ e1 (λ_ _ z=>by rw[e3]at z;cases z) λ_=>.inr λz=>by rw[e2]at z;cases z),e2,e3,e4⟩
  .obtain⟨bm,ob,b1,b2,b3,b4,b5,b6⟩:=hbm
   refine⟨bm,ob,b1,b2,λz=> ?_,λz=> ?_,base_of b3 (cZ b3 (λ_ _ z=>by rw[b6]at z;cases z) λ_=>.inl λz=>by rw[b6]at z;cases z),b4,b5,b6⟩
   .obtain⟨o,es,ep,e,d,_⟩:=ml
    rw[<-z,b3]at e
    cases e
    rw[b6]at d
    cases d
   .rw[z,hT.2]at b3
    cases b3
    cases b6
 have hl:vals.length=ps.length:=by rw[uU sv];exact hlen
 refine nL ((F _ hKb (nsK ml) hLB).run callerA [] s₁ H ⟨vals,[]⟩ vals (vals.map toV) _ _ hr e0 (rA s₁ vals hl) hV (c6 H _ hLam hS)) λr s' x=> ?_
 cases r with
 |error e=>exact(hCX H e s' x).elim
 |ok fl=>
  cases fl with
  |next=>exact bR x
  |brk=>exact bR x
  |cont=>exact bR x
  |ret u=>
   obtain⟨v,H',os,bare,un,E4,r',hd,hL'⟩:=x
   have kept:∀b o,b≠L->s₁.heap.get? b=some o->s'.heap.get? b=some o:=λb o hbL e=>by
    rcases hFr b hbL with z|⟨ob,u3,z⟩
    .exact un.keep b o e z (by intro y;exact absurd (show b∈([]:List ac)from y) (by simp)) (by simp)
    .have z2:=un.gp b ob _ z
     obtain⟨e1,_⟩:=ab b _ z
     obtain⟨e2,_⟩:=E4 b _ z2
     rw[e]at e1
     cases e1
     exact e2
   obtain⟨ps',g1,_⟩:=E4 L _ hL'
   have KX':K.In s'.heap:=λb o e=>kept b o (λz=>by rw[z,hKL]at e;cases e) (KX b o e)
   obtain⟨as,j9⟩:=Dw.reads (R:=R) (cl:=cl) E4 KX' d0 v u hd r'
   refine⟨u,as,rfl,j9,⟨λb o e=> ?_,λb o e=> ?_⟩,os,bare⟩
   .by_cases z:b=L
    .subst z
     rw[hT.2]at e
     cases e
     exact .inr (.inl ⟨hT.isCodeTable,rfl,#[],ps',rfl,by rw[g1];simp⟩)
    .exact .inl (kept b o z e)
   .by_cases z:b=L
    .exact⟨_,z▸g1⟩
    .exact⟨o,kept b o z e⟩
theorem WJ{r:OpenSpec}{k:Nat}{q:lw}{loose:List Str}{XP:(Str->Option al)->io->Prop}{YP:li->io->Prop}{d:DefRec}{K:lI->ge}{CX:eY}{ps:List Str}{sp:ac->ge->Sp}{pos:Pos}{ql:Str}(fn:Str)
 (acI:r.wellSaid=true)(Pe:d.params.defaults=[])(hlen:r.args.length=ps.length)(hr:UF k callerA)
 (hY:∀(w:li)(h:io),YP w h->(K w.params).In h)(se:∃e∈recsOf q,e.name=fn)
 (F:∀(w:li)(mg:Str->Option al)(fa:ac)(h:io),YP w h->(K w.params).In h->h.Ns mainGlobals mg->mg d.name=some (.ref fa)->
   ∃(fd:on)(L:ac),EN fn (K w.params) mg L/\(∀(s:ap)(us:List al),us.length=ps.length->oF s fd ⟨us,[]⟩ (ps.zip us))/\
    ∀base:io,(K w.params).In base->base.Ns mainGlobals mg->rK fn base mg L->o0 r.prog w (K w.params) mg base CX k fa fd ps (sp L (K w.params)))
 (c6:∀(L:ac)(K:ge)(H:Hp)(xs:List V)(a:Jr r.args),H L=some (.lam pos ql)->Codec.withinAll r.args a=true->M7 r.args r.asked a=true->eU K H xs (vt r.args a)->
   sp L K xs H (λv H'=>Dw K H' v (r.ret.enc (M7 r.args r.f a))/\H' L=some (.lam pos ql)) λ_ _ _=>False)
 (hCX:∀(H:Hp)(s:ap)(e:al)(s':ap),CX [] H s (λ_ _ _=>False) e s'->False):
 PySem.W.WalkOS q loose XP YP r d [] (λf vs=>PySem.call f vs):=by
 intro w bY s₁ mg mb G Y fa o pm cd doc dV kV ho hd d5 hD FK hg args vals as adf E3 j9 sv hlo
 obtain⟨a,e1,e2⟩:=PySem.W.os_pre_some adf
 obtain⟨e3,jm⟩:=Codec.encAll_of_decAll r.args args a e1
 subst e3
 have KX:=hY w _ Y
 obtain⟨fd,L,hN,hb,hF⟩:=F w mg fa _ Y KX G.T.g FK
 obtain⟨er,FC,fe⟩:=se
 obtain⟨a2,o2,fd2,c2,P2,t1,t2,t3,t4,t5,t6⟩:=G.T.tab er FC
 obtain⟨f3,o3,fd3,c3,oc3,vs3,n1,n2,n3,n4,n5,n6,n7,n8⟩:=hN
 have ePL:P2=L:=by
  rw[fe,n1]at t1
  cases t1
  have g2:=KX _ _ n2
  rw[t2]at g2
  cases g2
  rw[t3]at n3
  cases n3
  rw[t4]at n4
  cases n4
  obtain⟨⟨oo,vv,u1,u2,u3,u4⟩,_⟩:=t6
  have g5:=KX _ _ n5
  rw[u1]at g5
  cases g5
  rw[u3]at n6
  cases n6
  rw[u4]at n7
  cases n7
  rfl
 subst ePL
 refine PySem.W.enter_call (nL (Wy (fn:=fn) (R:=[]) (cl:=classAt bY.heap) (d0:=r.ret.enc (M7 r.args r.f a)) (pos:=pos) (q:=ql) KX G.T.g G.T.b G.T.builtins G.T.nolimit hg sv (KG _ _) (Rv E3) hr (fe▸t1) t2 t3 t4 t6 t5 n8 G.T.bmain hF hb (by rw[JK];exact hlen)
  (λH xs hO hS=>c6 P2 (K w.params) H xs a hO jm e2 hS) λH e s'=>hCX H s₁ e s') λr' s' hq=> ?_)
 obtain⟨u,as',rfl,h1,h2,h3,h4⟩:=hq
 exact⟨.inl ⟨u,_,as',rfl,λ_=>rfl,h1,(OpenSpec.post_iff acI jm _ _).mpr rfl,λz=>fm (show false=true from z)⟩,h2,h3,h4⟩
end L2
end
section
namespace L2
open PySem PySem.Spec PyProof.Rows
def BE(x qual:Str)(st:nl)(ps:List Str)(us:List al):Prop:=∀(kV doc pm:al)(an:Option ac)(lm ct:al),bindArgs (iM x qual (jL st) (g8 st) (sn st) .none kV doc pm an lm ct) ⟨us,[]⟩=pure (ps.zip us)
section
variable{K:ge}{x qual:Str}{st:nl}{f:ac}{fd:on}(ps:List Str)(F:re K x qual st f fd)
include F
theorem re.bA(h:∀us:List al,us.length=ps.length->BE x qual st ps us):Binds K fd ps []:=F.binds λkV doc pm an lm ct us hl=>h us hl kV doc pm an lm ct
theorem re.b1(h:∀a,BE x qual st ps [a]:=by exact λ_ _ _ _ _ _ _=>rfl)(l:ps.length=1:=by rfl):Binds K fd ps []:=F.bA ps λus hl=>by
 rw[l]at hl
 rcases us with _|⟨a,_|⟨_,_⟩⟩
 .cases hl
 .exact h _
 .cases hl
theorem re.b2(h:∀a b,BE x qual st ps [a,b]:=by exact λ_ _ _ _ _ _ _ _=>rfl)(l:ps.length=2:=by rfl):Binds K fd ps []:=F.bA ps λus hl=>by
 rw[l]at hl
 rcases us with _|⟨a,_|⟨b,_|⟨_,_⟩⟩⟩
 .cases hl
 .cases hl
 .exact h _ _
 .cases hl
theorem re.b3(h:∀a b c,BE x qual st ps [a,b,c]:=by exact λ_ _ _ _ _ _ _ _ _=>rfl)(l:ps.length=3:=by rfl):Binds K fd ps []:=F.bA ps λus hl=>by
 rw[l]at hl
 rcases us with _|⟨a,_|⟨b,_|⟨c,_|⟨_,_⟩⟩⟩⟩
 .cases hl
 .cases hl
 .cases hl
 .exact h _ _ _
 .cases hl
theorem re.b4(h:∀a b c d,BE x qual st ps [a,b,c,d]:=by exact λ_ _ _ _ _ _ _ _ _ _=>rfl)(l:ps.length=4:=by rfl):Binds K fd ps []:=F.bA ps λus hl=>by
 rw[l]at hl
 rcases us with _|⟨a,_|⟨b,_|⟨c,_|⟨d,_|⟨_,_⟩⟩⟩⟩⟩
 .cases hl
 .cases hl
 .cases hl
 .cases hl
 .exact h _ _ _ _
 .cases hl
end
theorem re.ZS{K:ge}{x qual:Str}{st:nl}{f:ac}{fd:on}{ps:List Str}(F:re K x qual st f fd)(s:ap)(us:List al)(hu:us.length=ps.length)
 (h:∀(kV doc pm:al)(an:Option ac)(lm ct:al)(us:List al),us.length=ps.length->bindArgs (iM x qual (jL st) (g8 st) (sn st) .none kV doc pm an lm ct) ⟨us,[]⟩=pure (ps.zip us)):oF s fd ⟨us,[]⟩ (ps.zip us):=by
 obtain⟨oc,od,kV,doc,pm,an,lm,ct,da,rfl,lk,d5⟩:=F.ex
 exact .of_eq (h kV doc pm an lm ct us hu)
theorem up{a j:Int}(c:Int)(h:a<=j)(e:c=a+1:=by rfl):j=a\/c<=j:=by lia
theorem No{P:lw}{w:li}{K:ge}{mg:Str->Option al}{base:io}{x:Str}{k:Nat}{ps:List Str}{sp:Sp}{f:ac}{fd:on}(O:o0 P w K mg base ae k f fd ps sp)(hm:mg x=some (.ref f))(hk:fq K (.ref f)=true)(hb:Binds K fd ps []):Def P w K mg base x k ps sp:=⟨_,_,O,hm,hk,hb⟩
end L2
namespace Sq
open PySem PySem.Spec PyProof.Rows L2
variable{K:ge}
structure FnAt (K:ge) (x qual:Str) (st:nl) (A:ac):Prop where
 ns:ZB K mainGlobals x=some (some (.ref A))
 fn:∃fd,re K x qual st A fd
theorem af{x qual:Str}{st:nl}{A:ac}{oc:al}{od an:Option ac}{da:Array (Option al)}{kV doc pm lm ct:al}(a:ZB K mainGlobals x=some (some (.ref A)))
 (l:K.lookup A=some ⟨oc,od,.func (iM x qual (jL st) (g8 st) (sn st) .none kV doc pm an lm ct),da⟩)(c:uM K lm qual=true)(k:fq K (.ref A)=true):FnAt K x qual st A:=⟨a,_,Nj l c k⟩
structure jV (K:ge) (C:ac) (x qual:Str) (st:nl) (A:ac):Prop where
 at_:aR K (.ref C) x=some (some (.ref A))
 isf:nu K (.ref A)=true
 fn:∃fd,re K x qual st A fd
noncomputable def FnAt.d{x qual:Str}{st:nl}{A:ac}(h:FnAt K x qual st A):on:=Vj h.fn
theorem FnAt.F{x qual:Str}{st:nl}{A:ac}(h:FnAt K x qual st A):re K x qual st A h.d:=RR h.fn
noncomputable def jV.d{C:ac}{x qual:Str}{st:nl}{A:ac}(h:jV K C x qual st A):on:=Vj h.fn
theorem jV.F{C:ac}{x qual:Str}{st:nl}{A:ac}(h:jV K C x qual st A):re K x qual st A h.d:=RR h.fn
theorem Dy{C:ac}{x qual:Str}{st:nl}{A:ac}{oc:al}{od an:Option ac}{da:Array (Option al)}{kV doc pm lm ct:al}(a:aR K (.ref C) x=some (some (.ref A)))
 (l:K.lookup A=some ⟨oc,od,.func (iM x qual (jL st) (g8 st) (sn st) .none kV doc pm an lm ct),da⟩)(c:uM K lm qual=true)(k:fq K (.ref A)=true)(i:nu K (.ref A)=true):jV K C x qual st A:=⟨a,i,_,Nj l c k⟩
theorem iU{x:Str}{n:Int}{t:Nat}(a:ZB K mainGlobals x=some (some (.int n t))):∃t,ZB K mainGlobals x=some (some (.int n t)):=⟨t,a⟩
structure TabAt (K:ge) (x:Str) (d:ac) (kvs:List (Int×V)):Prop where
 ns:ZB K mainGlobals x=some (some (.ref d))
 tab:i9 K d kvs
theorem C6{x:Str}{d:ac}{kvs:List (Int×V)}{es:Array gY}{ep:Nat}(a:ZB K mainGlobals x=some (some (.ref d)))(l:K.lookup d=some {cls:=.type "dict",dict:=none,data:=.dict es ep,slots:= #[]})
 (t:rH es.toList kvs=true)(n:(kvs.map (·.1)).Nodup):TabAt K x d kvs:=⟨a,es,ep,l,t,n⟩
structure Om (K:ge) (x:Str) (C fI:ac):Prop where
 ns:ZB K mainGlobals x=some (some (.ref C))
 cl:Cl K C
 sE:Mk K C fI
theorem ZX{x:Str}{C fI:ac}(a:ZB K mainGlobals x=some (some (.ref C)))(pg:pY K C DS=true)(hd:pT K C=true)(po:tM K C=true)
 (sa:aR K (.ref C) "__setattr__"=some (some (.builtin "object.__setattr__")))(mk:um K C=true)(fi:aR K (.ref C) "__init__"=some (some (.ref fI)))(ii:nu K (.ref fI)=true)
 (kc:fq K (.ref C)=true)(np:aR K (.ref C) "points"=some none):Om K x C fI:=⟨a,⟨⟨pg,hd,po,sa⟩,np⟩,⟨mk,fi,ii,kc⟩⟩
structure NP (K:ge) (x:Str) (C fI:ac):Prop where
 ns:ZB K mainGlobals x=some (some (.ref C))
 cl:fO K C
 sE:Mk K C fI
theorem Yy{x:Str}{C fI:ac}(a:ZB K mainGlobals x=some (some (.ref C)))(pg:pY K C DS=true)(hd:pT K C=true)(po:tM K C=true)
 (sa:aR K (.ref C) "__setattr__"=some (some (.builtin "object.__setattr__")))(mk:um K C=true)(fi:aR K (.ref C) "__init__"=some (some (.ref fI)))(ii:nu K (.ref fI)=true)
 (kc:fq K (.ref C)=true)(n1:aR K (.ref C) "width"=some none)(n2:aR K (.ref C) "nodes"=some none):NP K x C fI:=⟨a,⟨⟨pg,hd,po,sa⟩,n1,n2⟩,⟨mk,fi,ii,kc⟩⟩
structure NQ (K:ge) (x:Str) (C fI:ac):Prop where
 ns:ZB K mainGlobals x=some (some (.ref C))
 cl:ik K C
 sE:Mk K C fI
theorem Yz{x:Str}{C fI:ac}(a:ZB K mainGlobals x=some (some (.ref C)))(pg:pY K C DS=true)(hd:pT K C=true)(po:tM K C=true)
 (sa:aR K (.ref C) "__setattr__"=some (some (.builtin "object.__setattr__")))(mk:um K C=true)(fi:aR K (.ref C) "__init__"=some (some (.ref fI)))(ii:nu K (.ref fI)=true)
 (kc:fq K (.ref C)=true)(n1:aR K (.ref C) "grid"=some none)(n2:aR K (.ref C) "root"=some none)(n3:aR K (.ref C) "ends"=some none)(n4:aR K (.ref C) "whole"=some none)
 (n5:aR K (.ref C) "joined"=some none)(n6:aR K (.ref C) "parted"=some none):NQ K x C fI:=⟨a,⟨⟨pg,hd,po,sa⟩,n1,n2,n3,n4,n5,n6⟩,⟨mk,fi,ii,kc⟩⟩
structure xg (K:ge) (f L:ac):Prop where
 ex:∃o fd c oc vs,K.lookup f=some o/\o.data=.func fd/\fd.code=.ref c/\K.lookup c=some oc/\oc.data=.fields vs/\vs[11]? =some (.ref L)/\K.lookup L=none
theorem aac{f c L:ac}{o oc:al}{od odc:Option ac}{fd:on}{da ads:Array (Option al)}{vs:Array al}(l:K.lookup f=some ⟨o,od,.func fd,da⟩)(k:fd.code=.ref c)(lc:K.lookup c=some ⟨oc,odc,.fields vs,ads⟩)(v:vs[11]? =some (.ref L))(n:K.lookup L=none):xg K f L:=
 ⟨_,fd,c,_,vs,l,rfl,k,lc,rfl,v,n⟩
theorem xg.named{fn:Str}{f L:ac}{mg:Str->Option al}(h:xg K f L)(hm:mg fn=some (.ref f)):EN fn K mg L:=by
 obtain⟨o,fd,c,oc,vs,h1,h2,h3,h4,h5,h6,h7⟩:=h.ex
 exact⟨f,o,fd,c,oc,vs,hm,h1,h2,h3,h4,h5,h6,h7⟩
theorem YR{x qual:Str}{st:nl}{f L:ac}{fd:on}{base:io}{mg:Str->Option al}(F:re K x qual st f fd)(X:K.In base)(hm:mg x=some (.ref f))(h:rK x base mg L):∃c0,fd.code=.ref c0/\m6 base c0 L:=by
 obtain⟨⟨f',o',fd',c',m1,m2,m3,m4,m5⟩,_⟩:=h
 obtain⟨oc,od,kV,doc,pm,an,lm,ct,da,rfl,lk,d5⟩:=F.ex
 rw[hm]at m1
 cases m1
 have g:=X _ _ lk
 rw[m2]at g
 cases g
 cases m3
 exact⟨c',m4,m5⟩
end Sq
end
section
namespace Sq
open PySem PySem.Spec PyProof.Rows L2
theorem all_mk{P:lw}{w:li}{K:ge}{h:io}{mg:Str->Option al}{fa:ac}{Vx Rj Uk Vw QU Vv Yu Yq Jy Md IE GZ Ia Mf M' M_ Me Yr ID RZ QT R3 Rm HW Vz Rl QH RY Yt Rk Qx Ro S6 S2 S1 Uj QG Ys R0 Rp R1 QS Rn Qw S3 S4 S5 Ul S8 Vy H_ R4 S7 W8 HZ Ke JA Jz JC Hl JF HX IF JG Hm QF IH HY JE II IG JB acd RX W7 BY Aw Av wX DZ Dg Ek:ac}(X:K.In h)(G:h.Ns mainGlobals mg)(hfa:mg "answers"=some (.ref fa))
 (va:FnAt K "in_range" "in_range" BG Vx)
 (tN:FnAt K "all_in_range" "all_in_range" yM Rj)
 (uQ:FnAt K "has_point" "has_point" A2 Uk)
 (u_:FnAt K "has_room" "has_room" BF Vw)
 (tI:FnAt K "without_point" "without_point" yq QU)
 (u9:FnAt K "distance" "distance" BD Vv)
 (vQ:FnAt K "unlike" "unlike" C1 Yu)
 (vM:FnAt K "bounds" "bounds" CW Yq)
 (JL:jV K wX "__init__" "Net.__init__" Bv Jy)
 (Dl:FnAt K "begin" "begin" DM Md)
 (AE:FnAt K "add_point" "add_point" AW IE)
 (yJ:FnAt K "remove_point" "remove_point" yT GZ)
 (zO:FnAt K "move_point" "move_point" z9 Ia)
 (Dn:FnAt K "shift" "shift" DO Mf)
 (D5:FnAt K "turn" "turn" Ef M')
 (D4:FnAt K "flip" "flip" Ee M_)
 (Dm:FnAt K "scale" "scale" DN Me)
 (vN:FnAt K "change" "change" CY Yr)
 (IM:jV K DZ "__init__" "Grid.__init__" AV ID)
 (t9:FnAt K "level_lines" "level_lines" zi RZ)
 (tH:FnAt K "upright_lines" "upright_lines" yp QT)
 (ub:FnAt K "sweep_steps" "sweep_steps" zl R3)
 (tQ:FnAt K "lines_on_way" "lines_on_way" yP Rm)
 (Ic:jV K Dg "__init__" "Table.__init__" zU HW)
 (vd:FnAt K "parts_of" "parts_of" BI Vz)
 (tP:FnAt K "least_parted" "least_parted" yO Rl)
 (tu:FnAt K "parted_lengths" "parted_lengths" yi QH)
 (t8:FnAt K "end_lengths" "end_lengths" zh RY)
 (vP:FnAt K "spread" "spread" C0 Yt)
 (tO:FnAt K "filled_table" "filled_table" yN Rk)
 (sY:FnAt K "shortest_length" "shortest_length" x6 Qx)
 (tS:FnAt K "next_choices" "next_choices" yR Ro)
 (uA:FnAt K "sums_ahead" "sums_ahead" z_ S6)
 (uw:FnAt K "best_order" "best_order" zZ S2)
 (uv:FnAt K "best_chain" "best_chain" zY S1)
 (uP:FnAt K "best_ring" "best_ring" A1 Uj)
 (tm:FnAt K "pairs_in_order" "pairs_in_order" yh QG)
 (vO:FnAt K "merged" "merged" CZ Ys)
 (t_:FnAt K "pairs_taken" "pairs_taken" zj R0)
 (tT:FnAt K "pairs_length" "pairs_length" yS Rp)
 (ua:FnAt K "star_length" "star_length" zk R1)
 (tG:FnAt K "middle_number" "middle_number" yo QS)
 (tR:FnAt K "middle_point" "middle_point" yQ Rn)
 (sX:FnAt K "branches_length" "branches_length" x5 Qw)
 (ux:FnAt K "best_trunk" "best_trunk" z5 S3)
 (uy:FnAt K "first_node" "first_node" z6 S4)
 (uz:FnAt K "first_part" "first_part" z7 S5)
 (uR:FnAt K "tree_ways" "tree_ways" A3 Ul)
 (uC:FnAt K "tree_lines" "tree_lines" Ab S8)
 (vc:FnAt K "lines_at" "lines_at" BH Vy)
 (kM:FnAt K "free_nodes" "free_nodes" z8 H_)
 (uc:FnAt K "tree_joints" "tree_joints" zm R4)
 (uB:FnAt K "tree_bends" "tree_bends" Aa S7)
 (vE:FnAt K "counted" "counted" Ci W8)
 (zN:FnAt K "ask_points" "ask_points" zX HZ)
 (B8:FnAt K "ask_box" "ask_box" Cg Ke)
 (Bd:FnAt K "ask_half" "ask_half" Bx JA)
 (Bc:FnAt K "ask_dist" "ask_dist" Bw Jz)
 (Bf:FnAt K "ask_span" "ask_span" Bz JC)
 (y9:FnAt K "ask_steiner" "ask_steiner" zf Hl)
 (Bh:FnAt K "ask_tree" "ask_tree" BB JF)
 (zL:FnAt K "ask_joints" "ask_joints" zV HX)
 (AF:FnAt K "ask_bends" "ask_bends" AX IF)
 (Bi:FnAt K "ask_with" "ask_with" BC JG)
 (y_:FnAt K "ask_without" "ask_without" zg Hm)
 (tj:FnAt K "common_divisor" "common_divisor" yg QF)
 (AI:FnAt K "ask_ratio" "ask_ratio" AZ IH)
 (zM:FnAt K "ask_median" "ask_median" zW HY)
 (Bg:FnAt K "ask_star" "ask_star" BA JE)
 (AJ:FnAt K "ask_trunk" "ask_trunk" A0 II)
 (AG:FnAt K "ask_chain" "ask_chain" AY IG)
 (Be:FnAt K "ask_ring" "ask_ring" By JB)
 (wZ:FnAt K "ask" "ask" EE acd)
 (t7:FnAt K "answer_call" "answer_call" ze RX)
 (vD:FnAt K "answers" "answers" Cf W7)
 (Z5:∃t,ZB K mainGlobals "LIMIT"=some (some (.int (1000000000) t)))
 (R':∃t,ZB K mainGlobals "MOST_POINTS"=some (some (.int (7) t)))
 (Ru:∃t,ZB K mainGlobals "OUT_OF_RANGE"=some (some (.int (-1) t)))
 (Xq:∃t,ZB K mainGlobals "NO_ROOM"=some (some (.int (-2) t)))
 (QY:∃t,ZB K mainGlobals "NO_SUCH_POINT"=some (some (.int (-3) t)))
 (Tj:∃t,ZB K mainGlobals "BAD_NUMBER"=some (some (.int (-4) t)))
 (QX:∃t,ZB K mainGlobals "NOTHING_THERE"=some (some (.int (-5) t)))
 (Tn:∃t,ZB K mainGlobals "MOST_TIMES"=some (some (.int (1000) t)))
 (R_:∃t,ZB K mainGlobals "LAST_CHANGE"=some (some (.int (7) t)))
 (K0:TabAt K "CHANGES" BY [(0,.ref Md),(1,.ref IE),(2,.ref GZ),(3,.ref Ia),(4,.ref Mf),(5,.ref M'),(6,.ref M_),(7,.ref Me)])
 (Jl:TabAt K "QUESTIONS" Aw [(8,.ref HZ),(9,.ref Ke),(10,.ref JA),(11,.ref Jz),(12,.ref JC),(13,.ref Hl),(14,.ref JF),(15,.ref HX),(16,.ref IF),(17,.ref JG),(18,.ref Hm),(19,.ref IH),(20,.ref HY),(21,.ref JE),(22,.ref II),(23,.ref IG),(24,.ref JB)])
 (Jk:TabAt K "ARGUMENTS" Av [(0,.int (0)),(1,.int (2)),(2,.int (1)),(3,.int (3)),(4,.int (2)),(5,.int (1)),(6,.int (0)),(7,.int (1)),(8,.int (0)),(9,.int (0)),(10,.int (0)),(11,.int (2)),(12,.int (0)),(13,.int (0)),(14,.int (0)),(15,.int (0)),(16,.int (0)),(17,.int (2)),(18,.int (1)),(19,.int (0)),(20,.int (0)),(21,.int (2)),(22,.int (1)),(23,.int (0)),(24,.int (0))])
 (EC:ZB K mainGlobals "all"=some none)
 (aJ:ZB K mainGlobals "len"=some none)
 (w6:ZB K mainGlobals "abs"=some none)
 (dY:ZB K mainGlobals "min"=some none)
 (lD:ZB K mainGlobals "max"=some none)
 (cH:ZB K mainGlobals "range"=some none)
 (gX:ZB K mainGlobals "sorted"=some none)
 (lF:ZB K mainGlobals "set"=some none)
 (Bn:ZB K mainGlobals "reversed"=some none)
 (AN:ZB K mainGlobals "enumerate"=some none)
 (rD:ZB K mainGlobals "sum"=some none)
 (fE:ZB K mainGlobals "list"=some none)
 (En:Om K "Net" wX Jy)
 (D3:NP K "Grid" DZ ID)
 (Dh:NQ K "Table" Dg HW)
 (T3:xg K H_ Ek):
 ∃(fd:on)(L:ac),EN "free_nodes" K mg L/\(∀(s:ap)(us:List al),us.length=nO.length->oF s fd ⟨us,[]⟩ (nO.zip us))/\∀base:io,K.In base->base.Ns mainGlobals mg->rK "free_nodes" base mg L->o0 P w K mg base ae 12 fa fd nO (BL L K):=by
 have T:Txt mg ⟨BY,Aw,Av,wX,DZ,Dg,[]⟩:=⟨(let⟨t,e⟩:=Z5;⟨t,AC X G e⟩),(let⟨t,e⟩:=R';⟨t,AC X G e⟩),(let⟨t,e⟩:=Ru;⟨t,AC X G e⟩),(let⟨t,e⟩:=Xq;⟨t,AC X G e⟩),(let⟨t,e⟩:=QY;⟨t,AC X G e⟩),(let⟨t,e⟩:=Tj;⟨t,AC X G e⟩),(let⟨t,e⟩:=QX;⟨t,AC X G e⟩),(let⟨t,e⟩:=Tn;⟨t,AC X G e⟩),(let⟨t,e⟩:=R_;⟨t,AC X G e⟩),AC X G K0.ns,AC X G Jl.ns,AC X G Jk.ns,AC X G En.ns,AC X G D3.ns,AC X G Dh.ns,fZ X G EC,fZ X G aJ,fZ X G w6,fZ X G dY,fZ X G lD,fZ X G cH,fZ X G gX,fZ X G lF,fZ X G Bn,fZ X G AN,fZ X G rD,fZ X G fE⟩
 have g9:=En.cl
 have gi:=D3.cl
 have iT:=Dh.cl
 have e:=hfa.symm.trans (AC X G vD.ns)
 cases e
 refine⟨vD.d,Ek,T3.named (AC X G kM.ns),λs us hu=>vD.F.ZS s us hu λ_ _ _ _ _ _ us hl=>match us,hl with|[_],_=>rfl,λbase hKb _ hLB=> ?_⟩
 have VB:=UR (P:=P) (w:=w) (base:=base) JL.F T g9
 have fy:=No (Wo (P:=P) (w:=w) (base:=base) vE.F T) (AC X G vE.ns) vE.F.kp (vE.F.b1 kW)
 have Tb:=Su (P:=P) (w:=w) (base:=base) zN.F T fy
 have iS:=No (XN (P:=P) (w:=w) (base:=base) vM.F T) (AC X G vM.ns) vM.F.kp (vM.F.b1 nY)
 have W_:=Wn (P:=P) (w:=w) (base:=base) B8.F T iS
 have VD:=UT (P:=P) (w:=w) (base:=base) Bd.F T iS
 have bc:=No (U0 (P:=P) (w:=w) (base:=base) u9.F T) (AC X G u9.ns) u9.F.kp (u9.F.b2 gh)
 have eM:=No (TX (P:=P) (w:=w) (base:=base) uQ.F T) (AC X G uQ.ns) uQ.F.kp (uQ.F.b2 kN)
 have VC:=US (P:=P) (w:=w) (base:=base) Bc.F T eM bc
 have yc:=No (QB (P:=P) (w:=w) (base:=base) tm.F T bc) (AC X G tm.ns) tm.F.kp (tm.F.b1 tD)
 have Cy:=No (XQ (P:=P) (w:=w) (base:=base) vO.F T) (AC X G vO.ns) vO.F.kp (vO.F.b3 vU)
 have mV:=No (RL (P:=P) (w:=w) (base:=base) t_.F T yc Cy) (AC X G t_.ns) t_.F.kp (t_.F.b1 p_)
 have mQ:=No (Ra (P:=P) (w:=w) (base:=base) tT.F T) (AC X G tT.ns) tT.F.kp (tT.F.b1 pX)
 have VF:=UW (P:=P) (w:=w) (base:=base) Bf.F T mV mQ fy
 have nV:=No (XS (P:=P) (w:=w) (base:=base) vQ.F T) (AC X G vQ.ns) vQ.F.kp (vQ.F.b1 qK)
 have Uo:=TJ (P:=P) (w:=w) (base:=base) IM.F T gi
 have S_:=So (P:=P) (w:=w) (base:=base) Ic.F T gi iT D3.sE Uo (IM.F.b2 qm)
 have y4:=No (RK (P:=P) (w:=w) (base:=base) t9.F T gi) (AC X G t9.ns) t9.F.kp (t9.F.b1 uf)
 have ym:=No (QN (P:=P) (w:=w) (base:=base) tH.F T gi) (AC X G tH.ns) tH.F.kp (tH.F.b1 tK)
 have y6:=No (RN (P:=P) (w:=w) (base:=base) ub.F T gi y4 ym bc) (AC X G ub.ns) ub.F.kp (ub.F.b1 ug)
 have y3:=No (RJ (P:=P) (w:=w) (base:=base) t8.F T gi iT bc) (AC X G t8.ns) t8.F.kp (t8.F.b2 ue)
 have nD:=No (U4 (P:=P) (w:=w) (base:=base) vd.F T) (AC X G vd.ns) vd.F.kp (vd.F.b1 qz)
 have yF:=No (Q7 (P:=P) (w:=w) (base:=base) tP.F T) (AC X G tP.ns) tP.F.kp (tP.F.b4 tU)
 have yd:=No (QC (P:=P) (w:=w) (base:=base) tu.F T gi iT nD yF) (AC X G tu.ns) tu.F.kp (tu.F.b2 tE)
 have Cz:=No (XR (P:=P) (w:=w) (base:=base) vP.F T) (AC X G vP.ns) vP.F.kp (vP.F.b2 vV)
 have mO:=No (Q6 (P:=P) (w:=w) (base:=base) tO.F T gi iT Dh.sE S_ (Ic.F.b2 qc) y6 y3 yd Cz) (AC X G tO.ns) tO.F.kp (tO.F.b1 pV)
 have fh:=No (Qt (P:=P) (w:=w) (base:=base) sY.F T iT nV mO) (AC X G sY.ns) sY.F.kp (sY.F.b1 ko)
 have R5:=RH (P:=P) (w:=w) (base:=base) y9.F T fh
 have zG:=No (Sy (P:=P) (w:=w) (base:=base) uy.F T gi iT bc) (AC X G uy.ns) uy.F.kp (uy.F.b3 uG)
 have zH:=No (Sz (P:=P) (w:=w) (base:=base) uz.F T iT nD) (AC X G uz.ns) uz.F.kp (uz.F.b3 uH)
 have Ay:=No (TY (P:=P) (w:=w) (base:=base) uR.F T iT zG zH) (AC X G uR.ns) uR.F.kp (uR.F.b1 uT)
 have yG:=No (Q8 (P:=P) (w:=w) (base:=base) tQ.F T gi) (AC X G tQ.ns) tQ.F.kp (tQ.F.b3 tV)
 have m_:=No (SG (P:=P) (w:=w) (base:=base) uC.F T gi iT nV mO Ay yG) (AC X G uC.ns) uC.F.kp (uC.F.b1 qf)
 have VH:=UY (P:=P) (w:=w) (base:=base) Bh.F T m_
 have u6:=No (U3 (P:=P) (w:=w) (base:=base) vc.F T) (AC X G vc.ns) vc.F.kp (vc.F.b2 vg)
 have m9:=No (SA (P:=P) (w:=w) (base:=base) kM.F T (YR kM.F hKb (AC X G kM.ns) hLB) hLB.2 m_ u6) (AC X G kM.ns) kM.F.kp (kM.F.b1 qe)
 have y8:=No (RO (P:=P) (w:=w) (base:=base) uc.F T m9) (AC X G uc.ns) uc.F.kp (uc.F.b1 uh)
 have S':=Sr (P:=P) (w:=w) (base:=base) zL.F T fy y8
 have zJ:=No (SF (P:=P) (w:=w) (base:=base) uB.F T m9) (AC X G uB.ns) uB.F.kp (uB.F.b1 uJ)
 have Uq:=TN (P:=P) (w:=w) (base:=base) AF.F T fy zJ
 have dH:=No (U2 (P:=P) (w:=w) (base:=base) va.F T) (AC X G va.ns) va.F.kp (va.F.b2 jG)
 have nB:=No (U1 (P:=P) (w:=w) (base:=base) u_.F T) (AC X G u_.ns) u_.F.kp (u_.F.b1 qy)
 have VI:=UZ (P:=P) (w:=w) (base:=base) Bi.F T dH nB fh
 have mJ:=No (QO (P:=P) (w:=w) (base:=base) tI.F T) (AC X G tI.ns) tI.F.kp (tI.F.b2 pR)
 have R6:=RI (P:=P) (w:=w) (base:=base) y_.F T eM mJ fh
 have ya:=No (QA (P:=P) (w:=w) (base:=base) tj.F T) (AC X G tj.ns) tj.F.kp (tj.F.b2 tw)
 have Us:=TR (P:=P) (w:=w) (base:=base) AI.F T fh mV mQ ya
 have tF:=No (QM (P:=P) (w:=w) (base:=base) tG.F T) (AC X G tG.ns) tG.F.kp (tG.F.b1 tJ)
 have yH:=No (Q9 (P:=P) (w:=w) (base:=base) tR.F T tF) (AC X G tR.ns) tR.F.kp (tR.F.b1 tW)
 have mW:=No (RM (P:=P) (w:=w) (base:=base) ua.F T bc) (AC X G ua.ns) ua.F.kp (ua.F.b2 qa)
 have Ta:=Ss (P:=P) (w:=w) (base:=base) zM.F T yH mW
 have VG:=UX (P:=P) (w:=w) (base:=base) Bg.F T dH mW
 have x4:=No (Qs (P:=P) (w:=w) (base:=base) sX.F T) (AC X G sX.ns) sX.F.kp (sX.F.b2 sZ)
 have uu:=No (Sx (P:=P) (w:=w) (base:=base) ux.F T iS x4) (AC X G ux.ns) ux.F.kp (ux.F.b1 uF)
 have Ut:=TU (P:=P) (w:=w) (base:=base) AJ.F T uu
 have mP:=No (Q_ (P:=P) (w:=w) (base:=base) tS.F T bc) (AC X G tS.ns) tS.F.kp (tS.F.b4 pW)
 have zI:=No (SE (P:=P) (w:=w) (base:=base) uA.F T mP) (AC X G uA.ns) uA.F.kp (uA.F.b2 uI)
 have m8:=No (Sw (P:=P) (w:=w) (base:=base) uw.F T zI mP) (AC X G uw.ns) uw.F.kp (uw.F.b3 qd)
 have zF:=No (Sv (P:=P) (w:=w) (base:=base) uv.F T m8) (AC X G uv.ns) uv.F.kp (uv.F.b1 uE)
 have Ur:=TQ (P:=P) (w:=w) (base:=base) AG.F T zF
 have Ax:=No (TV (P:=P) (w:=w) (base:=base) uP.F T m8 bc) (AC X G uP.ns) uP.F.kp (uP.F.b1 uS)
 have VE:=UU (P:=P) (w:=w) (base:=base) Be.F T Ax
 have ab7:∃kvs,i9 K Aw kvs/\∀j:Int,8<=j->j<=24->∃f,On kvs j=some (.ref f)/\rY P w K mg base 9 f (rW Ek j):=by
  refine⟨_,Jl.tab,λj h0 h1=> ?_⟩
  rcases up 9 h0 with rfl|h0
  .exact⟨_,rfl,_,_,(Tb.imp λ_ _ _ _ h=>h.2).mono (by decide),zN.F.kp,zN.F.b2 zR⟩
  rcases up 10 h0 with rfl|h0
  .exact⟨_,rfl,_,_,(W_.imp λ_ _ _ _ h=>h.2).mono (by decide),B8.F.kp,B8.F.b2 Cd⟩
  rcases up 11 h0 with rfl|h0
  .exact⟨_,rfl,_,_,(VD.imp λ_ _ _ _ h=>h.2).mono (by decide),Bd.F.kp,Bd.F.b2 Bp⟩
  rcases up 12 h0 with rfl|h0
  .exact⟨_,rfl,_,_,(VC.imp λ_ _ _ _ h=>h.2).mono (by decide),Bc.F.kp,Bc.F.b2 Bo⟩
  rcases up 13 h0 with rfl|h0
  .exact⟨_,rfl,_,_,(VF.imp λ_ _ _ _ h=>h.2).mono (by decide),Bf.F.kp,Bf.F.b2 Br⟩
  rcases up 14 h0 with rfl|h0
  .exact⟨_,rfl,_,_,(R5.imp λ_ _ _ _ h=>h.2).mono (by decide),y9.F.kp,y9.F.b2 zc⟩
  rcases up 15 h0 with rfl|h0
  .exact⟨_,rfl,_,_,(VH.imp λ_ _ _ _ h=>h.2).mono (by decide),Bh.F.kp,Bh.F.b2 Bt⟩
  rcases up 16 h0 with rfl|h0
  .exact⟨_,rfl,_,_,S'.mono (by decide),zL.F.kp,zL.F.b2 zP⟩
  rcases up 17 h0 with rfl|h0
  .exact⟨_,rfl,_,_,Uq.mono (by decide),AF.F.kp,AF.F.b2 AQ⟩
  rcases up 18 h0 with rfl|h0
  .exact⟨_,rfl,_,_,(VI.imp λ_ _ _ _ h=>h.2).mono (by decide),Bi.F.kp,Bi.F.b2 Bu⟩
  rcases up 19 h0 with rfl|h0
  .exact⟨_,rfl,_,_,(R6.imp λ_ _ _ _ h=>h.2).mono (by decide),y_.F.kp,y_.F.b2 zd⟩
  rcases up 20 h0 with rfl|h0
  .exact⟨_,rfl,_,_,(Us.imp λ_ _ _ _ h=>h.2).mono (by decide),AI.F.kp,AI.F.b2 AS⟩
  rcases up 21 h0 with rfl|h0
  .exact⟨_,rfl,_,_,(Ta.imp λ_ _ _ _ h=>h.2).mono (by decide),zM.F.kp,zM.F.b2 zQ⟩
  rcases up 22 h0 with rfl|h0
  .exact⟨_,rfl,_,_,(VG.imp λ_ _ _ _ h=>h.2).mono (by decide),Bg.F.kp,Bg.F.b2 Bs⟩
  rcases up 23 h0 with rfl|h0
  .exact⟨_,rfl,_,_,(Ut.imp λ_ _ _ _ h=>h.2).mono (by decide),AJ.F.kp,AJ.F.b2 AU⟩
  rcases up 24 h0 with rfl|h0
  .exact⟨_,rfl,_,_,(Ur.imp λ_ _ _ _ h=>h.2).mono (by decide),AG.F.kp,AG.F.b2 AR⟩
  rcases up 25 h0 with rfl|h0
  .exact⟨_,rfl,_,_,(VE.imp λ_ _ _ _ h=>h.2).mono (by decide),Be.F.kp,Be.F.b2 Bq⟩
  exact absurd h0 (Int.not_le.mpr (WM h1))
 have El:=No (abB (P:=P) (w:=w) (base:=base) wZ.F T ab7) (AC X G wZ.ns) wZ.F.kp (wZ.F.b3 w9)
 have ZK:=Y8 (P:=P) (w:=w) (base:=base) Dl.F T g9
 have Up:=TM (P:=P) (w:=w) (base:=base) AE.F T g9 dH nB
 have Rq:=Rb (P:=P) (w:=w) (base:=base) yJ.F T g9 eM mJ
 have Tc:=SD (P:=P) (w:=w) (base:=base) zO.F T g9 dH eM
 have mN:=No (Q5 (P:=P) (w:=w) (base:=base) tN.F T dH) (AC X G tN.ns) tN.F.kp (tN.F.b1 pU)
 have ZM:=Y_ (P:=P) (w:=w) (base:=base) Dn.F T g9 mN
 have aaU:=aau (P:=P) (w:=w) (base:=base) D5.F T g9
 have aaT:=aat (P:=P) (w:=w) (base:=base) D4.F T g9
 have ZL:=Y9 (P:=P) (w:=w) (base:=base) Dm.F T g9 mN
 have X6:∃kvs,i9 K BY kvs/\∀j:Int,0<=j->j<=7->∃f,On kvs j=some (.ref f)/\rY P w K mg base 3 f (gC wX j):=by
  refine⟨_,K0.tab,λj h0 h1=> ?_⟩
  rcases up 1 h0 with rfl|h0
  .exact⟨_,rfl,_,_,ZK.mono (by decide),Dl.F.kp,Dl.F.b2 DD⟩
  rcases up 2 h0 with rfl|h0
  .exact⟨_,rfl,_,_,Up.mono (by decide),AE.F.kp,AE.F.b2 AO⟩
  rcases up 3 h0 with rfl|h0
  .exact⟨_,rfl,_,_,Rq.mono (by decide),yJ.F.kp,yJ.F.b2 yL⟩
  rcases up 4 h0 with rfl|h0
  .exact⟨_,rfl,_,_,Tc.mono (by decide),zO.F.kp,zO.F.b2 zS⟩
  rcases up 5 h0 with rfl|h0
  .exact⟨_,rfl,_,_,ZM.mono (by decide),Dn.F.kp,Dn.F.b2 DF⟩
  rcases up 6 h0 with rfl|h0
  .exact⟨_,rfl,_,_,aaU.mono (by decide),D5.F.kp,D5.F.b2 D_⟩
  rcases up 7 h0 with rfl|h0
  .exact⟨_,rfl,_,_,aaT.mono (by decide),D4.F.kp,D4.F.b2 D9⟩
  rcases up 8 h0 with rfl|h0
  .exact⟨_,rfl,_,_,ZL.mono (by decide),Dm.F.kp,Dm.F.b2 DE⟩
  exact absurd h0 (Int.not_le.mpr (WM h1))
 have Cw:=No (XO (P:=P) (w:=w) (base:=base) vN.F T X6) (AC X G vN.ns) vN.F.kp (vN.F.b3 vT)
 have y0:=No (RG (P:=P) (w:=w) (base:=base) t7.F T g9 Cw El) (AC X G t7.ns) t7.F.kp (t7.F.b3 ud)
 have WG:∃kvs,i9 K Av kvs/\∀c:gc,On kvs (numOf c)=some (.int ((oq c).length:Int)):=⟨_,Jk.tab,λc=>by cases c<;>rfl⟩
 have W9:=Wm (P:=P) (w:=w) (base:=base) vD.F T En.sE VB (JL.F.b1 qx) y0 WG
 exact W9
end Sq
end
section
open PySem PySem.W PyProof.Rows
structure PySem.W.Fast:Prop where (tw11371811521879048561 tw1300073907031710467 tw166742005896212780 tw9086049500055838742 tw1819061509212443837 tw1593107299703458930 tw7304781777371246912 tw16834517012277362401 tw7450213182462026198 tw11943396284301846038 tw1981039324214021648 tw5180729952008517310 tw6602347424169691032 tw16896881659109838617 tw4670279399591306024 tw16735903074176817232 tw15689767695773231353 tw17137090799478764600 tw16202535591465022386 tw7448164913519793479 tw15485911374400375118 tw1748964448336146422 tw6018830605916333860 tw6748914532926889469 tw17611189584695404606 tw6795922465752676382 tw4836905336173210514 tw18144398120388981009 tw16442168811341113334 tw3960641733325983206 tw17259604518905360750 tw3068736056255473803 tw3311302871884841006 tw16779327837862475713 tw12863294625073122120 tw16009321435110590659 tw5951432608450896311 tw6688151204218837927 tw14781815173890001717 tw4546578109538080850 tw6336715522683760705 tw17496176766184005590 tw8777926315288619390 tw6464209110315918780 tw12743402074471830121 tw1942153195469795136 tw9538665826221105457 tw8616167748578118366 tw2121611233992522293 tw77396682560911627 tw9405957301388076239 tw9356609212729836962 tw1033882716599707515 tw3283159964141490484 tw1230663199408886702 tw3749479734425083069 tw877928175616629256 tw9618317654264561394 tw6328739199330473432 tw15343432674892370357 tw3733879053675889232 tw17857256220198002996 tw3499625820274896516 tw5908128153970442180 tw4711823693481722684 tw4427796929262366558 tw18372186058522430648 tw12067496166919272291 tw10425329451177956386 tw18177148894593335783 tw8144448521854875328 tw952959091927209180 tw10278869285141286043 tw13739113741897106568 tw9102293676809694 tw9677853056160909798 tw4971952259967540234 tw725311778183389200 tw17063883331007160714 tw3405598384690567632 tw5407280403282901556 tw16093596967497153333 tw7896435469067258054 tw13209457275694400480 tw8637942550370994076 tw15250988263741311686 tw1739198438427679552 tw3634825347985345409 tw18073100400940982626 tw11161742663273943826 tw12417084017816299941 tw7136159828044429277 tw6075133648177200949 tw2148340235664898539 tw7419273195612275194 tw5105790921851241115 tw3977354596752419649 tw13957664290328988994 tw10202158898933510839 tw15054970941377407388 tw12921444411381711992 tw11836290430213324152 tw2904146353435776721 tw6050952904169869740 tw596936583079903490 tw743771460516986855 tw1244288721747644551 tw17421051512823693542 tw7049944154762006137 tw564848217144748736 tw14370501082928410410 tw7911712101666435761 tw11134229188296339711 tw15303738719503586777 tw3558239706399210203 tw18394010016371815605 tw5115900852990772693 tw13922857570367624517 tw16899159626807206841 tw18229957386147506641 tw7156620286352796992 tw3097632602720391236 tw16249672047218027830 tw2904567021743969171 tw2927559450306834842 tw12943066863846890053 tw6764193881832293047 tw10025352819435131825 tw7972631680278970817 tw2665835795256442632 tw8952640612586318855 tw14993574378685861931 tw16489819742882397606 tw3688920290117977275 tw13587391290185129371 tw6618335418815143327 tw7885001149402209310 tw17914033394390734018 tw17617819532138515832 tw2507097393167325889 tw14199235639596240162 tw10111553817727547458 tw1952334318871343299 tw14318908093250571402 tw234548046658130727 tw6247383069876593962 tw18267535306849700750 tw5985072362170053993 tw17774702889706389537 tw14250132687727736279 tw12419430275035489311 tw7125438324057174838 tw15577013508294576351 tw16996719955040122479 tw2651990419217753223 tw11684824472755140002 tw1296890369651335663 tw14728911239361050674 tw1192416033392406501 tw1175509182352076109 tw18044991488462139714 tw11507688395720311579 tw17537997108366296827 tw10067009526209374124 tw9691885790196210241 tw18082238448310894656 tw12533456889904766596 tw15959298727473245435 tw15035822379463765811 tw17862181225722644840 tw8457506663655218793 tw16857874179634974380 tw4412437238993646455 tw14404205811858216833 tw6888520034752071367 tw17743527660189742516 tw14197314320390677905 tw17261661588841435392 tw16137179339844711735 tw13442361934428977974 tw15202455975059376387 tw7368156065831869388 tw3667282825751971685 tw18038287716437837612 tw6503441890413043091 tw1614548643097492702 tw15891845433619674224 tw15846098389583128708 tw1854704262985898970 tw10710816325677244874 tw652729508027363708 tw11673009916197970107 tw1413836758882025417 tw3462519411939106238 tw1103467379417838288 tw14075461125748925372 tw5133860539022773746 tw2818600102136869945 tw11677268838916716692 tw7763046541149195238 tw13060597182265029948 tw7710846914878168761 tw11862146375146730867 tw15903605657768188146 tw11611098722389078746 tw8893835473215866044 tw16744291452204618596 tw8489768448654927492 tw7506474091833679962 tw1492623327156402783 tw6710955362262307451 tw9325283553827141206 tw4423065546245404548 tw9880712914855237782 tw12125495995668540718 tw16856725617321721087 tw7365158762577807389 tw3009795053497787024 tw8107012539528038940 tw6280274939669532480 tw13290093047275326286 tw12737003891769706991 tw7081798796730497530 tw13637416545570839165 tw10118220374049724327 tw4542757946674496938 tw1979695717453482108 tw15578307940736355596 tw1708555267037708077 tw10043561601180709313 tw3211629623640122518 tw5796800701566160029 tw1887697052424907056 tw14712153122952929661 tw11812469520239222220 tw17778835649263785934 tw7757237871040389916 tw18341473059201275032 tw16654335813182063268 tw8440613537850231301 tw14083695146548805286 tw16460550629458729263 tw4240523752650528530 tw1546360119200982608 tw17844293382670881221 tw12349950076505527241 tw9311584784402355366 tw11983550344873296798 tw4743968233356924885 tw6792513792063118459 tw4820492499336341527 tw14442139280219204177 tw11744230141352914442 tw8404451106677581304 tw8665093192655658870 tw16449954425681312913 tw620513133423130134 tw4634550303580311398 tw2105110397585319251 tw2387581615339986611 tw14499636463094175222 tw9535544166036703956 tw2555212372859548255 tw7610184726114632619 tw11310437605049725016 tw4460322900409228527 tw8303639793115308450 tw922584627497305509 tw4657853548804000975 tw13900697610874158117 tw2038042942785793113 tw5946216830873084914 tw12135281453898882479 tw4203834627524221882 tw4278927347380205915 tw15908043058700927718 tw11205434316109112361 tw1930582358384621706 tw18350298970348167337 tw1568858090761509198 tw6505377992390403804 tw785549477529192436 tw4590509702370543646 tw7584803715000575634 tw14596658310870355824 tw9403174776381187207 tw12130420380166097828 tw17528321295189746383 tw16816884019048743067 tw17648337370286570474 tw7478184957076234009 tw15049484694807638606 tw9223304262008679359 tw6811449104663780652 tw14369858417505201406 tw4351533721216598342 tw17088168509345032098 tw3937141471463251292 tw6371073625039323415 tw7779272747216466098 tw18110932565071171370 tw2855332673241621935 tw7128175052503961896 tw10432442283470781967 tw8131792162276528731 tw2392196203003510496 tw12843088445946338046 tw6157116317549414663 tw3565399573548441941 tw16439271860181349529 tw13596823923929558224 tw4848099068708740338 tw4621699475512315550 tw2738199884280770175 tw5195252720992097207 tw15360735199278527259 tw2205107177822841131 tw18225161992070664484 tw3986461669860606353 tw2500704193014653355 tw15694961003395003204 tw2649526312293308719 tw8502180092128234416 tw14080708177815187647 tw793138400902063807 tw8163150520192459313 tw7101176549058621559 tw203803291451198379 tw14100222425028946521 tw13906887478823426219 tw1039180808232784898 tw7365916295887876243 tw10168965432439407770 tw4564578856039446927 tw16127043331669816643 tw12192219580445536812 tw17665048233796737760 tw14592307140054598671 tw15900028159733889283 tw4385667764213576146 tw2528441051743923499 tw9229646314210854646 tw8803573187952528930 tw11433077045579969199 tw6285733408457328841 tw12387260396747708374 tw2736666070300179455 tw5467983678405727107 tw6305369271202478214 tw7390906158283555288 tw13953524642058019510 tw6638035407585425990 tw1619309848420876903 tw16159750468311931634 tw17798241053413428090 tw6007643785767312079 tw1466833224045560045 tw4175754590782674824 tw7800111049338498334 tw4931127343712947990 tw8247564907634299831 tw2074349393070869353 tw14923461602294604458 tw14414332013817311815 tw15151818430752528161 tw3105645391329099301 tw12506100312462436757 tw16710315260455306134 tw8149104329978965266 tw4800406521099745186 tw9560155585913066003 tw9057043134102134791 tw12185687779869767447 tw12582294074683298854 tw9195153973800740777 tw12068625316669557171 tw7930210619059691788 tw15277594472966028434 tw15975054788419961103 tw1751202561764064258 tw896287036649491147 tw8744474101598039962 tw4398390175469283507 tw9250965845667152781 tw11649256214656215516 tw16478568727848828013 tw13054382318978996434 tw12681861210001442798 tw3664548617007020516 tw9688570030418549511 tw10155980415885998150 tw9171873047778008860 tw18348830648188690117 tw3299560591598337703 tw4018122128497995252 tw1835700710502205441 tw13239719652253685095 tw15010362953173869522 tw16524945161162822231 tw1113229117102712139 tw10281165985525734338 tw10671641537276939219 tw8098818274327557957 tw12927238173237596839 tw8313124844182215303 tw16765588741919095533 tw6384763185986943378 tw14068820950035271345 tw10224245766355165851 tw6679543624607065799 tw16531690057736526656 tw6641251549357568711 tw11725295171174337808 tw1936427101010339530 tw1548995250005440137 tw13729509453604147840 tw8335461421918162303 tw8739308590280791388 tw16506499461949656231 tw12257686079469632340 tw16382835278125235791 tw13976520623087260600 tw15331122002535372500 tw9287336388916634245 tw14007220724693580286:True)
set_option maxHeartbeats 0 in
theorem PySem.Challenge.cw_squaretrees_s01_answers_holds : PySem.Challenge.rw_squaretrees_s01_answers.Holds := by
 w_on;k_headS;(case hw=>exact⟨[.list [.int 0]],by decide+kernel,by decide+kernel⟩)
 k_fillS
 refine L2.WJ (r:=PySem.Challenge.rw_squaretrees_s01_answers) (k:=12) (CX:=L2.ae) (ps:=Sq.nO) (sp:=Sq.BL) (pos:=⟨279,31,279,71⟩) (ql:="free_nodes.<locals>.<lambda>") "free_nodes" (by decide+kernel) rfl rfl ⟨rfl,by decide,by decide⟩ (λw h Y=>PySem.W.kIn_of Y) (by decide+kernel) ?F ?S (λ_ _ _ _ z=>z)
 case F=>
  intro w mg fa h Y KX G FK
  refine' Sq.all_mk KX G FK
   (Sq.af ?z0a ?z0b ?z0c ?z0d)
   (Sq.af ?z0e ?z0f ?z0g ?z0h)
   (Sq.af ?z0i ?z0j ?z0k ?z0l)
   (Sq.af ?z0m ?z0n ?z0o ?z0p)
   (Sq.af ?z0q ?z0r ?z0s ?z0t)
   (Sq.af ?z0u ?z0v ?z0w ?z0x)
   (Sq.af ?z0y ?z0z ?z0A ?z0B)
   (Sq.af ?z0C ?z0D ?z0E ?z0F)
   (Sq.Dy ?z0G ?z0H ?z0I ?z0J ?z0K)
   (Sq.af ?z0L ?z0M ?z0N ?z0O)
   (Sq.af ?z0P ?z0Q ?z0R ?z0S)
   (Sq.af ?z0T ?z0U ?z0V ?z0W)
   (Sq.af ?z0X ?z0Y ?z0Z ?z1a)
   (Sq.af ?z1b ?z1c ?z1d ?z1e)
   (Sq.af ?z1f ?z1g ?z1h ?z1i)
   (Sq.af ?z1j ?z1k ?z1l ?z1m)
   (Sq.af ?z1n ?z1o ?z1p ?z1q)
   (Sq.af ?z1r ?z1s ?z1t ?z1u)
   (Sq.Dy ?z1v ?z1w ?z1x ?z1y ?z1z)
   (Sq.af ?z1A ?z1B ?z1C ?z1D)
   (Sq.af ?z1E ?z1F ?z1G ?z1H)
   (Sq.af ?z1I ?z1J ?z1K ?z1L)
   (Sq.af ?z1M ?z1N ?z1O ?z1P)
   (Sq.Dy ?z1Q ?z1R ?z1S ?z1T ?z1U)
   (Sq.af ?z1V ?z1W ?z1X ?z1Y)
   (Sq.af ?z1Z ?z2a ?z2b ?z2c)
   (Sq.af ?z2d ?z2e ?z2f ?z2g)
   (Sq.af ?z2h ?z2i ?z2j ?z2k)
   (Sq.af ?z2l ?z2m ?z2n ?z2o)
   (Sq.af ?z2p ?z2q ?z2r ?z2s)
   (Sq.af ?z2t ?z2u ?z2v ?z2w)
   (Sq.af ?z2x ?z2y ?z2z ?z2A)
   (Sq.af ?z2B ?z2C ?z2D ?z2E)
   (Sq.af ?z2F ?z2G ?z2H ?z2I)
   (Sq.af ?z2J ?z2K ?z2L ?z2M)
   (Sq.af ?z2N ?z2O ?z2P ?z2Q)
   (Sq.af ?z2R ?z2S ?z2T ?z2U)
   (Sq.af ?z2V ?z2W ?z2X ?z2Y)
   (Sq.af ?z2Z ?z3a ?z3b ?z3c)
   (Sq.af ?z3d ?z3e ?z3f ?z3g)
   (Sq.af ?z3h ?z3i ?z3j ?z3k)
   (Sq.af ?z3l ?z3m ?z3n ?z3o)
   (Sq.af ?z3p ?z3q ?z3r ?z3s)
   (Sq.af ?z3t ?z3u ?z3v ?z3w)
   (Sq.af ?z3x ?z3y ?z3z ?z3A)
   (Sq.af ?z3B ?z3C ?z3D ?z3E)
   (Sq.af ?z3F ?z3G ?z3H ?z3I)
   (Sq.af ?z3J ?z3K ?z3L ?z3M)
   (Sq.af ?z3N ?z3O ?z3P ?z3Q)
   (Sq.af ?z3R ?z3S ?z3T ?z3U)
   (Sq.af ?z3V ?z3W ?z3X ?z3Y)
   (Sq.af ?z3Z ?z4a ?z4b ?z4c)
   (Sq.af ?z4d ?z4e ?z4f ?z4g)
   (Sq.af ?z4h ?z4i ?z4j ?z4k)
   (Sq.af ?z4l ?z4m ?z4n ?z4o)
   (Sq.af ?z4p ?z4q ?z4r ?z4s)
   (Sq.af ?z4t ?z4u ?z4v ?z4w)
   (Sq.af ?z4x ?z4y ?z4z ?z4A)
   (Sq.af ?z4B ?z4C ?z4D ?z4E)
   (Sq.af ?z4F ?z4G ?z4H ?z4I)
   (Sq.af ?z4J ?z4K ?z4L ?z4M)
   (Sq.af ?z4N ?z4O ?z4P ?z4Q)
   (Sq.af ?z4R ?z4S ?z4T ?z4U)
   (Sq.af ?z4V ?z4W ?z4X ?z4Y)
   (Sq.af ?z4Z ?z5a ?z5b ?z5c)
   (Sq.af ?z5d ?z5e ?z5f ?z5g)
   (Sq.af ?z5h ?z5i ?z5j ?z5k)
   (Sq.af ?z5l ?z5m ?z5n ?z5o)
   (Sq.af ?z5p ?z5q ?z5r ?z5s)
   (Sq.af ?z5t ?z5u ?z5v ?z5w)
   (Sq.af ?z5x ?z5y ?z5z ?z5A)
   (Sq.af ?z5B ?z5C ?z5D ?z5E)
   (Sq.af ?z5F ?z5G ?z5H ?z5I)
   (Sq.af ?z5J ?z5K ?z5L ?z5M)
   (Sq.af ?z5N ?z5O ?z5P ?z5Q)
   (Sq.iU ?z5R)
   (Sq.iU ?z5S)
   (Sq.iU ?z5T)
   (Sq.iU ?z5U)
   (Sq.iU ?z5V)
   (Sq.iU ?z5W)
   (Sq.iU ?z5X)
   (Sq.iU ?z5Y)
   (Sq.iU ?z5Z)
   (Sq.C6 ?z6a ?z6b ?z6c ?z6d)
   (Sq.C6 ?z6e ?z6f ?z6g ?z6h)
   (Sq.C6 ?z6i ?z6j ?z6k ?z6l)
   ?z6m
   ?z6n
   ?z6o
   ?z6p
   ?z6q
   ?z6r
   ?z6s
   ?z6t
   ?z6u
   ?z6v
   ?z6w
   ?z6x
   (Sq.ZX ?z6y ?z6z ?z6A ?z6B ?z6C ?z6D ?z6E ?z6F ?z6G ?z6H)
   (Sq.Yy ?z6I ?z6J ?z6K ?z6L ?z6M ?z6N ?z6O ?z6P ?z6Q ?z6R ?z6S)
   (Sq.Yz ?z6T ?z6U ?z6V ?z6W ?z6X ?z6Y ?z6Z ?z7a ?z7b ?z7c ?z7d ?z7e ?z7f ?z7g ?z7h)
   (Sq.aac ?z7i ?z7j ?z7k ?z7l ?z7m)
  (case z6y|z6I|z6T|z0a|z0b|z0c|z0d|z0e|z0f|z0g|z0h|z0i|z0j|z0k|z0l|z0m|z0n|z0o|z0p|z0q|z0r|z0s|z0t|z0u|z0v|z0w|z0x|z0y|z0z|z0A|z0B|z0C|z0D|z0E|z0F|z0G|z0H|z0I|z0J|z0K|z0L|z0M|z0N|z0O|z0P|z0Q|z0R|z0S|z0T|z0U|z0V|z0W|z0X|z0Y|z0Z|z1a|z1b|z1c|z1d|z1e|z1f|z1g|z1h|z1i|z1j|z1k|z1l|z1m|z1n|z1o|z1p|z1q|z1r|z1s|z1t|z1u|z1v|z1w|z1x|z1y|z1z|z1A|z1B|z1C|z1D|z1E|z1F|z1G|z1H|z1I|z1J|z1K|z1L|z1M|z1N|z1O|z1P|z1Q|z1R|z1S|z1T|z1U|z1V|z1W|z1X|z1Y|z1Z|z2a|z2b|z2c|z2d|z2e|z2f|z2g|z2h|z2i|z2j|z2k|z2l|z2m|z2n|z2o|z2p|z2q|z2r|z2s|z2t|z2u|z2v|z2w|z2x|z2y|z2z|z2A|z2B|z2C|z2D|z2E|z2F|z2G|z2H|z2I|z2J|z2K|z2L|z2M|z2N|z2O|z2P|z2Q|z2R|z2S|z2T|z2U|z2V|z2W|z2X|z2Y|z2Z|z3a|z3b|z3c|z3d|z3e|z3f|z3g|z3h|z3i|z3j|z3k|z3l|z3m|z3n|z3o|z3p|z3q|z3r|z3s|z3t|z3u|z3v|z3w|z3x|z3y|z3z|z3A|z3B|z3C|z3D|z3E|z3F|z3G|z3H|z3I|z3J|z3K|z3L|z3M|z3N|z3O|z3P|z3Q|z3R|z3S|z3T|z3U|z3V|z3W|z3X|z3Y|z3Z|z4a|z4b|z4c|z4d|z4e|z4f|z4g|z4h|z4i|z4j|z4k|z4l|z4m|z4n|z4o|z4p|z4q|z4r|z4s|z4t|z4u|z4v|z4w|z4x|z4y|z4z|z4A|z4B|z4C|z4D|z4E|z4F|z4G|z4H|z4I|z4J|z4K|z4L|z4M|z4N|z4O|z4P|z4Q|z4R|z4S|z4T|z4U|z4V|z4W|z4X|z4Y|z4Z|z5a|z5b|z5c|z5d|z5e|z5f|z5g|z5h|z5i|z5j|z5k|z5l|z5m|z5n|z5o|z5p|z5q|z5r|z5s|z5t|z5u|z5v|z5w|z5x|z5y|z5z|z5A|z5B|z5C|z5D|z5E|z5F|z5G|z5H|z5I|z5J|z5K|z5L|z5M|z5N|z5O|z5P|z5Q|z5R|z5S|z5T|z5U|z5V|z5W|z5X|z5Y|z5Z|z6a|z6b=>k_is)
  (case z6c|z6d=>decide+kernel)
  (case z6e|z6f=>k_is)
  (case z6g|z6h=>decide+kernel)
  (case z6i|z6j=>k_is)
  (case z6k|z6l=>decide+kernel)
  (case z6m|z6n|z6o|z6p|z6q|z6r|z6s|z6t|z6u|z6v|z6w|z6x|z6z|z6A|z6B|z6C|z6D|z6E|z6F|z6G|z6H|z6J|z6K|z6L|z6M|z6N|z6O|z6P|z6Q|z6R|z6S|z6U|z6V|z6W|z6X|z6Y|z6Z|z7a|z7b|z7c|z7d|z7e|z7f|z7g|z7h|z7i=>k_is)
  (case z7j=>first|rfl|kernel_rfl)
  (case z7k=>k_is)
  (case z7l|z7m=>first|rfl|kernel_rfl)
 case S=>
  intro L K H xs a hO jm EY hx
  cases hx with
  |cons h1 h2=>
   cases h2
   cases h1 with
   |lst hs ha=>
    have e:=L2.Mw a.1 _ ha
    subst e
    have q:((Codec.inLen 0 1000 a.1&&a.1.all (Codec.inInt (-1000000000000000000) 1000000000000000000))&&true)=true:=jm
    rw[cQ,cQ]at q
    exact⟨_,a.1,rfl,hO,hs,λx hx=>Codec.inInt_iff.mp (kC.mp q.1.2 x hx),(Codec.inNat_iff.mp q.1.1).2,EY,λH' p hL' hp=>⟨.lst (L2.aa.of hp) (L2.Mq _),hL'⟩⟩
#print axioms PySem.Challenge.cw_squaretrees_s01_answers_holds
end
