import PyProof.Rows.All
import Wide.All
import OpenK.AllK
import Wide.FinOn
import Lean
import PyProof.EqAt
import PyProof.EqKinds
import PyProof.TupleCall
import PySem.Challenge.RW_shoutline_k71_orders_read
set_option Elab.async false
noncomputable section
set_option linter.all false
set_option maxRecDepth 100000
open PySem.W renaming Frag→aq,exmAny→dW,kitOne→eF,fnOf→fB,mroIn→gC,findIn→jr,keepIn→js,kia_one→jT,emptyDict→lZ,hideAll→ma,callWith_K→ny,codeIn→nA,instObj→nB,hideAll_none→vA,excIn→Ar,funFrames_hide→As,hideAll_get→Au,lookIn→Av,methodCall_KW→Aw,nsIn→Ax,of_hideAll→Ay,plainGet→Az,hasDictIn→FO,isFn→FP,methodObj→FQ,nsOkIn→FR,plainGet_of→FS,specialIn→FT,takerIn→FU,OpenLaw→Pg,WalkO→Pi,callWith_K0→Pj,cellsFrom_some→Pk,handedIn→Pm,kitx_dict→Pn,kitx_list→Po,makesIn→Pp,mg_of→Pq,plainOver→Pr,tailIn→Ps,takesIn→Pt
open PySem renaming model→au,World→av,Stmt→aw,wpAny→ax,wpAny_bind→aE,Program→aG,starEach→bz,Around→bH,OsState→bL,wpAny_mono→bT,strLen_append→cO,Scope→cQ,Spec→du,compareOp→dw,backTo→dN,binaryOp→eG,bootBuiltins→fU,mainGlobals→fV,codeAny→gE,wpAny_field→gF,treeTable→gR,leaving→ja,Model→jq,noteFrame→ju,notedBy→jV,wpAny_holding→jW,wpAny_setField→jX,typeIs_str→kN,wpAny_standAt→kO,ExceptHandler→lS,Reads→me,compEnvC→mh,setFlight→mi,BindsTo→mX,Flow→mY,Params→nr,ReadsAll→nC,Result→nD,assignEach→nH,bindC→nI,bindL→nJ,callerA→nK,wpAny_Call_Name_kw→nL,wpAny_loadPart_at→nM,wpAny_truthy_bool→nN,mem_of_lookup→pV,cLine→pZ,call_meets→qb,sliceBounds→qc,wpAny_passesOwn→qd,builtinsNs→rP,codeAny_mono→rQ,excClassObj→rR,letOwnedTupleGo→rS,lookup_relabel_local→rT,sysModules→rV,typeOf→rW,JoinOk→vj,strKind→vB,strKind_is→vC,attributeBase→vF,backToKw→vG,callWith→vH,cameBackBy→vI,compPost→vJ,foldedSetIterable→vK,hashStr→vM,keywordEach→vO,sizeLine_eq→vP,wpAny_execs_nil→vQ,wpAny_newObj_type→vR,GenState→zR,passOn→AA,behindInMarks→AE,bindArgs→AF,denote→AG,excMatches→AH,post_val_or_str→AI,swapsWith→AJ,wpAny_Name→AM,wpAny_call→AN,wpAny_comprehension_free→AO,wpAny_getItem_str_slice→AQ,wpAny_throw→AR,DictEntry→Fh,IntMulOk→Fp,Operator→FJ,Within→FV,call→FW,stored→FX,valueAt→FY,ZipApart→F3,bindName→F4,cellsFrom→F5,codeAny_compStart_list→F6,evalPairs→F8,eval_ListComp→F9,handleBy→Ga,newFunctionEnv→Gb,raiseNew→Gc,seqIndex_neg→Gd,seqIndex_of→Ge,storeName→Gf,unbindBehindTheSuite→Gg,wpAny_execs_cons→Gh,wpAny_loadName_local→Gi,wpAny_mkStr→Gj,wpAny_newFunctionEnv→Gk,AsSuiteRaised→NY,merged→Pu,bltViewBooted→PL,codeAny_builtin→PM,codeAny_call_builtin→PN,codeAny_compLoop_tests→PP,codeAny_handlers_suite_as→PQ,codeAny_handlers_test→PR,evalPart_none→PU,fenceModules?→PV,importedModules→PX,recursionLimit→PY,slot_dict_getitem→PZ,slot_list_getitem→Qa,strSub_length_le→Qb,wpAny_assign_Name→Qf,wpAny_getItem_of→Qg,wpAny_handleBy_cons→Qh,wpAny_loadName_cell→Qi,wpAny_loadPart→Qj,wpAny_nameGoes_keeps→Qk,wpAny_newTuple→Ql,wpAny_noteFrame_againW→Qm,wpAny_pyIter_enum→Qn,wpAny_pyIter_list→Qo,wpAny_pyIter_zip→Qp,wpAny_seqItems→Qq
open PySem.Value renaming ref→aZ,none→cE,bool→nF,int→nG,str→pY,builtin→vE,float→AD,bytes→PF,type→PK
open List renaming length_map→bo,mem_cons→bu,length_cons→bI,mem_append_right→bZ,getElem?_eq_getElem→cL,length_append→dm,size_toArray→dM,mem_singleton→dS,map_cons→eD,mem_filter→eQ,mem_filterMap→fu,mem_of_getElem?→fw,range→fT,all_eq_true→gf,append_nil→gg,not_mem_nil→gA,filter_cons→gN,getElem?_eq_some_iff→gO,mem_map→gP,getElem?_map→iC,lookup_cons→iD,getElem?_append_right→iY,lookup→iZ,map_map→jo,mem_cons_of_mem→jp,append_assoc→jP,mem_append→jQ,length_filter_le→kK,length_replicate→lU,mem_append_left→lV,nil_append→lW,filter_append→m6,filter_nil→m7,map_append→m8,mem_cons_self→m9,replicate→nh,reverse_cons→ni,length_reverse→pM,length_take→pN,nodup_nil→pO,take_of_length_le→pP,zipWith→pQ,all_cons→rC,filterMap_cons→rD,getElem?_append_left→rE,mem_range→rF,any_cons→vk,cons_append→vm,filter_eq_self→vn,nodup_cons→vo,take_add_one→vp,all_map→z3,any_eq_true→z4,cons→z6,drop_eq_getElem_cons→z8,exists_cons_of_ne_nil→z9,filter_congr→Aa,forIn_cons→Ab,getElem?_of_mem→Ac,getElem?_set_self→Ad,getElem_mem→Ae,length_eq_zero_iff→Af,length_erase_of_mem→Ag,length_nil→Ah,map_congr_left→Ai,concat_eq_append→Fq,cons_ne_nil→Fs,contains_cons→Ft,drop_zero→Fu,eq_nil_or_concat→Fv,exists_cons_of_length_pos→Fw,filterMap_map→Fx,getElem?_replicate→Fy,getElem?_set_ne→Fz,getElem?_zip_eq_some→FA,length_range→FB,length_zip→FC,map_nil→FD,of_mem_zip→FE,toArray→FF,all_append→Ot,drop_eq_nil_of_le→Ou,eraseIdxIfInBounds_toArray→Ov,filter→Ow,filter_filter→Ox,forIn_nil→Oy,getElem?_take_of_lt→Oz,getElem_toArray→OA,length_drop→OB,length_eq_one_iff→OC,length_pos_of_mem→OD,length_set→OE,length_zipWith→OG,map→OH,map_drop→OI,map_fst_zip→OJ,map_id'→OK,map_take→OL,mem_iff_getElem→OM,mem_of_mem_erase→ON,nodup_append→OO,range_succ_eq_map→OP
open Nat renaming le_refl→bv,le_trans→cB,ne_of_lt→cC,lt_of_lt_of_le→dq,zero_le→fe,lt_irrefl→fA,ne_of_gt→jR,lt_of_le_of_lt→lX,le_succ→pR,lt_succ_self→pS,toDigits→rG,digitChar→vq,le_of_eq→Aj,le_of_lt→Ak,log2_lt→Al,lt_add_right→Am,lt_of_succ_le→An,succ→Ao,lt_succ_of_lt→FG,sub_self→FH,toDigits_of_lt_base→FI,add_sub_cancel_left→OQ,add_zero→OS,div_eq_of_lt_le→OT,eq_zero_or_pos→OU,le_of_ble_eq_true→OV,log2_self_le→OW,lt_add_of_pos_right→OX,lt_log2_self→OY,min_le_left→OZ,mod_two_eq_zero_or_one→O0,not_lt→O1,pow_le_pow_right→O2,pow_succ→O3,shiftRight_eq_div_pow→O4,strongRecOn→O5,succ_le_succ→O6,testBit_eq_decide_div_mod_eq→O7,toDigits_append_toDigits→O8,xor_self→O9
open PySem.Heap renaming lt_size→bC,get?_push_of_some→dL,get?_push_size→iA,get?_update_other→iB,FlyingW→jO,get?_update_self→kI,size_push→vh,HeldW→zS,MadeExcOf→zU,NotedW→zV,SameBut→zW
open Bool renaming false_ne_true→bK,and_eq_true→gb,beq_eq_decide_eq→lQ,false_and→pJ,true_and→pK,eq_iff_iff→rA,false→rB,and_eq_true_iff→vg,or_eq_true→zO,and_false→E7,false_or→E8,or_false→E9,or_true→Fa,decide_and→NZ,eq_false_iff→N0,not_eq_true'→N2
open PySem.Obj renaming mk→bW,mapFields→eE,data_mapFields→lY,isFreed_of_fields→rH,mapSeq→vt
open PySem.PyData renaming strOk→b8,str→dU,eqv→kL,eqvAll→pT,depthAll→rK,int→rL,canLay0→vy,canLayAll0→vz,depth→Ap,keyHash→adi
open Ne renaming symm→cH
open PySem.Str renaming join→cM,cps_append→gB,empty→mf,ofString→AB
open PySem.Txt renaming split→cN,slice→gD,startswith→kM,slice_le→vD
open Option.some renaming inj→cP
open PySem.Builtin.Int renaming intBits→cV,intTooBig→N3
open False renaming elim→ej
open PySem.NameKind renaming free→eA,cell→nq
open Int renaming ofNat→eP,eq_ofNat_of_zero_le→kJ,toNat_natCast→mZ,le_refl→vi,emod_lt_of_pos→zX,emod_nonneg→zY,zero_add→zZ,dvd_of_emod_eq_zero→Of,ediv_one→Og,emod_eq_zero_of_dvd→Oh,fdiv_eq_ediv_of_nonneg→Oi,le_ediv_iff_mul_le→Oj,le_of_lt→Ol,mul_comm→Om,mul_one→On,natAbs_natCast→Oo,natCast_nonneg→Oq,one_mul→Os
open PySem.F renaming plainAttrs_list→ff,slot_list_append→gz,type_list_append→gQ,plainAttrs_str→jS,slot_str_split→lT,excBase_ValueError→pU,type_str_split→rM,slot_list_pop→zP,slot_str_getitem→zQ,args_str_split_2→Fi,entry_str_split→Fj,slot_gs_get→Fk,slot_int_bit_length→Fl,slot_list_remove→Fm,typeOf_object_class→Fo,slot_str_join→FL,type_list_pop→FM,type_str_join→FN,attrBase_ValueError→Ob,slot_str_partition→Oc,plainAttrs_int→Pd,type_int_bit_length→Pe,type_list_remove→Pf
open PySem.Builtin renaming bitXor→gc,bitNot→iz,bitAnd→lR,bitOr→N4
open Array renaming toList_append→gM,getElem?_eq_some_iff→jn,length_toList→jM,all_toList→kE,mk→pI,getElem?_toList→zN,all_eq_true→NV,append_assoc→NW,getElem?_setIfInBounds_ne→NX
open PySem.Data renaming fields→iW,seq→iX,dict→jN,cls→kH
open True renaming intro→jt
open PyProof.Rows renaming envOfC→jU,AllBare→kD,IntsAre→m5,callWith_type1→Aq,tail_any→AK,toString_length_le→FK,subscriptTail→Qc,subscriptTail_builtinR→Qe,callWith_builtin1→acS
open PySem.ClassData renaming mk→kF
open PySem.W.R renaming mapR→nu,mapR_eq→Ph
open PySem.SeqAt renaming shaped→nE,EqAt→Pw
open ForInStep renaming yield→pL
open Sum renaming inl→pW,inr→pX
open PySem.PassesOwn renaming never→rJ
open PySem.ReadsAll renaming cons→rN
open PySem.StrLaws renaming subAt_eq→rO,At→AC,join_split→FZ,split_free→F1,strSub_toList→F2,joinFits→Pz,occ_head→PB,occ_length_le→PC,take1_drop→PD
open Or renaming inl→vw,inr→vx
open ForIn renaming forIn→vL
open ToString renaming toString→AL
open PySem.Around renaming under→E6
open PySem.Builtin.Str renaming occurrences→Fb,strKind→Fc,strSliceIndices→Fd
open PySem.Calls renaming Constant_str→Fe,evalArgs_plain→Ff,Name_function_global→N5,callWith_builtin→N6
open PySem.Code renaming isFrame→Fg,frames→N8
open LawfulBEq renaming eq_of_beq→F7
open Char renaming toNat→N7
open Decidable renaming em→N9
open PySem.EntryCells renaming newEntry→Oa
open PySem.Heap.DictOf renaming new→Od
open PySem.Heap.UpToSlots renaming trans→Oe
open Option renaming getD_none→Pa,none→Pb
open Prod renaming ext→Pc
open PySem.W.excIn renaming match_1→Pl,match_6→aeb
open PySem.SeqAt.EqAt renaming int_str→Px,str_int→Py,bool_bool→aed,bool_int→aee,bool_none→aef,bool_str→aeg,int_bool→aeh,int_int→aei,int_none→aej,none_bool→aek,none_int→ael,none_str→aem,same→aen,str_bool→aeo,str_none→aep,str_str→aeq
open PySem.Builtin.Range renaming rangeSize→acO
open PySem.Heap.IsSliceOf renaming new→acP
open List.Pairwise renaming nil→acQ
open PySem.MeetsSeq.EqGives renaming int→acR
open PySem.Drawn renaming mk→acT
open PySem.EqMixed renaming eq_bool_str→acU,eq_int_str→acV,eq_str_bool→acW,eq_str_int→acX,ne_bool_str→acY,ne_int_str→acZ,ne_str_bool→ac0,ne_str_int→ac1
open PySem.EqNone renaming eq_bool_none→ac2,eq_int_none→ac3,eq_none_bool→ac4,eq_none_int→ac5,eq_none_none→ac6,eq_none_str→ac7,eq_str_none→ac8,ne_bool_none→ac9,ne_int_none→ada,ne_none_bool→adb,ne_none_int→adc,ne_none_none→ade,ne_none_str→adf,ne_str_none→adg
open PySem.Life renaming mk→adh
open PySem.W.Fast renaming ofString_ofList→adj,te10110043849684766642→adk,te10880121769531294198→adl,te10994771534591457954→adm,te11698064438423848299→adn,te11892475500146522536→ado,te13664370479719496447→adp,te14082659384304107361→adq,te14364793385576792824→adr,te14374325043358763698→ads,te14722251495701143533→adt,te15667345088766844465→adu,te16090120013241838585→adv,te2386780881361962483→adw,te3247288618530077131→adx,te3399658132070893891→ady,te479339242167458305→adz,te5160383126252970620→adA,te5923862056798008813→adB,te5991557255702980513→adC,te7317090234206586261→adD,te7369524293546568484→adE,te7409074990110511671→adF,te821141287760084731→adG,te8920871248978507458→adH,tw10110043849684766642→adI,tw10295753902157049106→adJ,tw10880121769531294198→adK,tw10994771534591457954→adL,tw11698064438423848299→adM,tw11892475500146522536→adN,tw13664370479719496447→adO,tw14082659384304107361→adP,tw14364793385576792824→adQ,tw14374325043358763698→adR,tw14722251495701143533→adS,tw15667345088766844465→adT,tw16090120013241838585→adU,tw2386780881361962483→adV,tw3247288618530077131→adW,tw3399658132070893891→adX,tw479339242167458305→adY,tw5160383126252970620→adZ,tw5923862056798008813→ad0,tw5991557255702980513→ad1,tw7317090234206586261→ad2,tw7369524293546568484→ad3,tw7409074990110511671→ad4,tw821141287760084731→ad5,tw8920871248978507458→ad6
open PySem.W.KIN renaming call_text→ad7,signs_num→ad8,val_back→ad9
open PySem.W.Looks renaming here→aea
open PySem.Within renaming cons→aec
local macro_rules | `(tactic| k_go)=>`(tactic| decide +kernel)
local macro_rules | `(tactic| x_go)=>`(tactic| exact⟨rfl,rfl,rfl,by k_go,rfl,by k_go,by k_go⟩)
local macro_rules | `(tactic| z_go)=>`(tactic| first | exact vw rfl | exact vx rfl)
set_option hygiene false in
local macro_rules | `(tactic| kj_on)=>`(tactic| (intro vs H Q E h;rotate_left;intro bM A outer s H vs Q E hr h;rotate_right))
namespace L2
open PySem PySem.Spec PyProof.Rows
abbrev fJ:=Sum Int Str
def LF:fJ→Value→Bool
 |.inl k,v=>Value.isInt k v
 |.inr x,v=>Value.isStrOf x v
def UJ(w:av):fJ→Int
 |.inl k=>hashInt k
 |.inr x=>vM w x
theorem lx:∀{k:fJ} {v:Value},LF k v=true→(∃i t,k=pW i∧v=nG i t)∨(∃x t,k=pX x∧v=pY x t)
 |.inl i,v,h=>by
  obtain⟨t,e⟩:=Value.isInt_shape (k:=i) (v:=v) h;exact .inl ⟨i,t,rfl,e⟩
 |.inr x,v,h=>by
  obtain⟨t,e⟩:=Value.isStrOf_shape (x:=x) (v:=v) h;exact .inr ⟨x,t,rfl,e⟩
theorem ab1(a b:Int):decide ((pW a:fJ)=pW b)=(a==b):=by
 by_cases e:a=b
 ·subst e;simp
 ·have h:¬(pW a:fJ)=pW b:=fun q=>e (Sum.inl.inj q);rw[decide_eq_false h];exact(beq_eq_false_iff_ne.mpr e).symm
theorem Vs(a b:Str):decide ((pX a:fJ)=pX b)=decide (a=b):=by
 by_cases e:a=b
 ·subst e;simp
 ·have h:¬(pX a:fJ)=pX b:=fun q=>e (Sum.inr.inj q);rw[decide_eq_false h,decide_eq_false e]
theorem Ue(a:Int)(b:Str):decide ((pW a:fJ)=pX b)=false:=decide_eq_false (fun q=>nomatch q)
theorem V0(a:Str)(b:Int):decide ((pX a:fJ)=pW b)=false:=decide_eq_false (fun q=>nomatch q)
def DC(prog:aG)(w:av):PySem.KeyKind prog w fJ where
 is:=LF
 hash:=UJ w
 inj:=fun v a b ha hb=>by
  rcases lx ha with⟨i,t,rfl,rfl⟩|⟨x,t,rfl,rfl⟩
  ·rcases lx hb with⟨j,u,rfl,e⟩|⟨y,u,rfl,e⟩
   ·injection e with e1 _;rw[e1]
   ·exact nomatch e
  ·rcases lx hb with⟨j,u,rfl,e⟩|⟨y,u,rfl,e⟩
   ·exact nomatch e
   ·injection e with e1 _;rw[e1]
 byValue:=fun k v h=>by
  rcases lx h with⟨i,t,rfl,rfl⟩|⟨x,t,rfl,rfl⟩<;>rfl
 pyHash:=fun hv h=>by
  rcases lx hv with⟨i,t,rfl,rfl⟩|⟨x,t,rfl,rfl⟩
  ·exact wpAny_pyHash_int h
  ·exact wpAny_pyHash_str h
 eqBool:=fun hu hv h=>by
  rcases lx hu with⟨i,t,rfl,rfl⟩|⟨x,t,rfl,rfl⟩
  ·rcases lx hv with⟨j,u,rfl,rfl⟩|⟨y,u,rfl,rfl⟩
   ·rw[ab1]at h;exact wpAny_eqBool_int h
   ·rw[Ue]at h;exact Px i t y u _ _ _ _ h
  ·rcases lx hv with⟨j,u,rfl,rfl⟩|⟨y,u,rfl,rfl⟩
   ·rw[V0]at h;exact Py x t j u _ _ _ _ h
   ·rw[Vs]at h;exact wpAny_eqBool_str h
 «strs»:=fun k x t v h=>by
  rcases lx h with⟨i,u,rfl,e⟩|⟨y,u,rfl,e⟩
  ·exact nomatch e
  ·injection e with e1 _;subst e1;cases v<;>rfl
inductive V where
 |non|bl (b:Bool)|int (i:Int)|str (x:Str)|byt (b:Array UInt8)|flt (b:UInt64)|ref (a:Addr)|ty (n:String)
 deriving DecidableEq
def bc:V→Value→Prop
 |.non,u=>u=cE
 |.bl b,u=>u=nF b
 |.int i,u=>∃t,u=nG i t
 |.str x,u=>∃t,u=pY x t
 |.byt b,u=>∃t,u=PF b t
 |.flt b,u=>∃t,u=AD b t
 |.ref a,u=>u=aZ a
 |.ty n,u=>u=PK n
abbrev aP:List V→List Value→Prop:=Paired bc
theorem aP.length{xs:List V}{us:List Value}(r:aP xs us):xs.length=us.length:=Paired.length r
theorem aP.get:∀{xs:List V} {us:List Value} {i:Nat} {x:V},aP xs us→xs[i]?=some x→∃u,us[i]?=some u∧bc x u
 |_,_,_,_,.nil,e=>by simp at e
 |_,_,0,_,.cons r _,e=>by simp at e;subst e;exact⟨_,rfl,r⟩
 |_,_,i+1,x,.cons _ t,e=>by
  obtain⟨u,h1,h2⟩:=aP.get (i:=i) (x:=x) t (by simpa using e);exact⟨u,by simpa using h1,h2⟩
theorem aP.set{x:V}{u:Value}(r:bc x u):∀{xs:List V} {us:List Value} (i:Nat),aP xs us→aP (xs.set i x) (us.set i u)
 |_,_,_,.nil=>.nil
 |_,_,0,.cons _ t=>.cons r t
 |_,_,i+1,.cons q t=>.cons q (aP.set r i t)
theorem aP.append:∀{xs ys:List V} {us ws:List Value},aP xs us→aP ys ws→aP (xs++ys) (us++ws)
 |_,_,_,_,.nil,s=>s
 |_,_,_,_,.cons r t,s=>.cons r (aP.append t s)
theorem aP.take:∀{xs:List V} {us:List Value} (n:Nat),aP xs us→aP (xs.take n) (us.take n)
 |_,_,0,_=>.nil
 |_,_,_+1,.nil=>.nil
 |_,_,n+1,.cons r t=>.cons r (aP.take n t)
theorem aP.drop:∀{xs:List V} {us:List Value} (n:Nat),aP xs us→aP (xs.drop n) (us.drop n)
 |_,_,0,r=>r
 |_,_,_+1,.nil=>.nil
 |_,_,n+1,.cons _ t=>aP.drop n t
def j4:Option V→Option Value→Prop
 |some v,some u=>bc v u
 |none,none=>True
 |_,_=>False
def KV{κ : Type}:List (κ×V)→List (κ×Value)→Prop:=Paired fun(p:κ×V) (q:κ×Value)=>p.1=q.1∧bc p.2 q.2
def kV:fJ→V
 |.inl i=>.int i
 |.inr x=>.str x
inductive HO where
 |lst (xs:List V)
 |tup (xs:List V)
 |dK (aH:List (fJ×V))|dT (aH:List (List fJ×V))
 |set (S:Int→Bool) (n:Nat)
 |ins (C dx:Addr) (fs:List (Str×V))
 |own (x:Addr)
 |xd (fs:List (Str×V))
 |met (f x:Addr)
 |rng (lo hi:Int)
 |frz (o:Obj) (u:HO)
 |tbl (ps:Array Value)
 |ext (φ : Heap→Prop)
abbrev Hp:=Addr→Option HO
def upd(H:Hp)(a:Addr)(o:HO):Hp:=fun b=>if b=a then some o else H b
theorem eB{H:Hp}{a:Addr}{o:HO}:upd H a o a=some o:=by unfold upd;rw[if_pos rfl]
theorem bp{H:Hp}{a b:Addr}{o:HO}(h:b≠a):upd H a o b=H b:=by unfold upd;rw[if_neg h]
theorem GV{H:Hp}{a b:Addr}{o u:HO}(h:H a=some o)(h':H b=some u)(d:o≠u):a≠b:=by
 intro e;subst e;rw[h]at h';exact d (cP h')
theorem db{H:Hp}{a b:Addr}{o:HO}(h:H a=some o)(h':H b=none):a≠b:=by
 intro e;subst e;rw[h]at h';cases h'
section
variable(P:aG)(w:av)
def cS(H:Hp)(h:Heap)(a:Addr):HO→Prop
 |.lst xs=>xs.length≤sizeLine∧∃(its:List Value) (n:Nat),aP xs its∧h.get? a=some {cls:=.type "list",data:=.seq its.toArray n}
 |.tup xs=>xs.length≤sizeLine∧∃its:List Value,aP xs its∧IsTup h a its.toArray
 |.dK aH=>aH.length≤sizeLine∧(a==rV)=false∧∃vs,KV aH vs∧h.DictOf (DC P w) a vs
 |.dT aH=>aH.length≤sizeLine∧(a==rV)=false∧∃xs:List (List fJ×Addr×Value),
   Paired (fun(p:List fJ×V) (q:List fJ×Addr×Value)=>p.1=q.1∧H q.2.1=some (.tup (p.1.map kV))∧bc p.2 q.2.2) aH xs∧
   ∃o es ep,h.get? a=some o∧o.ExactDict∧o.data=.dict es ep∧es.toList=xs.map (entryOfKey (tupleKind (DC P w)))∧(xs.map (·.1)).Nodup
 |.set S n=>h.SetOf (intKind P w) a S n
 |.ins C dx fs=>H dx=some (.own a)∧fs.length≤1000∧dx≠a∧h.get? a=some (nB C dx)∧
   ∃mA,h.Ns1 dx mA∧(∀f,j4 (fs.lookup f) (mA f))∧FV mA (fs.map (·.1))
 |.own _=>∃o,h.get? a=some o
 |.xd fs=>∃mA,h.Ns1 a mA∧∀f,j4 (fs.lookup f) (mA f)
 |.rng lo hi=>∃t u v,h.get? a=some {cls:=.type "range",data:=.fields #[.int lo t,.int hi u,.int 1 v]}
 |.frz o u=>h.get? a=some o∧cS H h a u
 |.tbl ps=>h.get? a=some {cls:=.none,data:=.fields ps}
 |.met f x=>h.get? a=some (FQ (.ref f) (.ref x))
 |.ext φ=>φ h∧(∃o,h.get? a=some o)∧∀h1 h2:Heap,φ h1→(∀o,h1.get? a=some o→h2.get? a=some o)→φ h2
def cq(H:Hp)(h:Heap):Prop:=∀a o,H a=some o→cS P w H h a o
end
section
variable{P:aG}{w:av}{H H':Hp}{h h':Heap}{a:Addr}{o:HO}
theorem cS.lt(x:cS P w H h a o):a<h.objs.size:=by
 cases o with
 |lst xs=>obtain⟨_,_,_,_,e⟩:=x;exact bC e
 |tup xs=>obtain⟨_,_,_,p⟩:=x;exact p.lt
 |dK aH=>obtain⟨_,_,_,_,o,_,_,e,_⟩:=x;exact bC e
 |dT aH=>obtain⟨_,_,_,_,o,_,_,e,_⟩:=x;exact bC e
 |set S n=>obtain⟨o,_,_,_,e,_⟩:=x;exact bC e
 |ins C dx fs=>obtain⟨_,_,_,e,_⟩:=x;exact bC e
 |own y=>obtain⟨_,e⟩:=x;exact bC e
 |xd fs=>obtain⟨_,⟨_,_,_,e,_⟩,_⟩:=x;exact bC e
 |rng lo hi=>obtain⟨_,_,_,e⟩:=x;exact bC e
 |frz ob u=>obtain⟨e,_⟩:=x;exact bC e
 |tbl ps=>exact bC (show h.get? a=some _ from x)
 |met f y=>exact bC (show h.get? a=some _ from x)
 |ext φ=>obtain⟨_,⟨_,e⟩,_⟩:=x;exact bC e
theorem Paired.mapP{α β : Type}{F G:α→β→Prop}:∀{l₁ : List α} {l₂ : List β},Paired F l₁ l₂→(∀a b,F a b→G a b)→Paired G l₁ l₂
 |_,_,.nil,_=>.nil
 |_,_,.cons r t,f=>.cons (f _ _ r) (Paired.mapP t f)
theorem cS.stay(x:cS P w H h a o)(k:∀b u,(b=a∨H b=some (.own a))→h.get? b=some u→h'.get? b=some u)
  (ho:∀b,H b=some (.own a)→H' b=some (.own a)) (ht:∀b xs,H b=some (.tup xs)→H' b=some (.tup xs)):cS P w H' h' a o:=by
 induction o with
 |lst xs=>obtain⟨z,its,n,r,e⟩:=x;exact⟨z,its,n,r,k _ _ (.inl rfl) e⟩
 |tup xs=>obtain⟨z,its,r,ob,e,c⟩:=x;exact⟨z,its,r,ob,k _ _ (.inl rfl) e,c⟩
 |dK aH=>obtain⟨z,y,vs,r,ob,es,ep,e,c⟩:=x;exact⟨z,y,vs,r,ob,es,ep,k _ _ (.inl rfl) e,c⟩
 |dT aH=>
  obtain⟨z,y,xs,r,ob,es,ep,e,c⟩:=x;exact⟨z,y,xs,Paired.mapP r fun p q z=>⟨z.1,ht _ _ z.2.1,z.2.2⟩,ob,es,ep,k _ _ (.inl rfl) e,c⟩
 |set S n=>obtain⟨ob,es,ep,t,e,c⟩:=x;exact⟨ob,es,ep,t,k _ _ (.inl rfl) e,c⟩
 |ins C dx fs=>
  obtain⟨d,z,ne,e,mA,⟨od,es,ep,e2,c⟩,r⟩:=x;exact⟨ho _ d,z,ne,k _ _ (.inl rfl) e,mA,⟨od,es,ep,k _ _ (.inr d) e2,c⟩,r⟩
 |own y=>obtain⟨ob,e⟩:=x;exact⟨ob,k _ _ (.inl rfl) e⟩
 |xd fs=>obtain⟨mA,⟨od,es,ep,e,c⟩,r⟩:=x;exact⟨mA,⟨od,es,ep,k _ _ (.inl rfl) e,c⟩,r⟩
 |rng lo hi=>obtain⟨t,u,v,e⟩:=x;exact⟨t,u,v,k _ _ (.inl rfl) e⟩
 |frz ob u ih=>obtain⟨e,q⟩:=x;exact⟨k _ _ (.inl rfl) e,ih q⟩
 |tbl ps=>
  have e:h.get? a=some {cls:=.none,data:=.fields ps}:=x;show h'.get? a=some {cls:=.none,data:=.fields ps};exact k a _ (.inl rfl) e
 |met f y=>
  have e:h.get? a=some (FQ (.ref f) (.ref y)):=x;show h'.get? a=some (FQ (.ref f) (.ref y));exact k a _ (.inl rfl) e
 |ext φ=>obtain⟨p,⟨o,e⟩,st⟩:=x;exact⟨st _ _ p fun o q=>k _ _ (.inl rfl) q,⟨o,k _ _ (.inl rfl) e⟩,st⟩
theorem cq.lt(x:cq P w H h)(e:H a=some o):a<h.objs.size:=(x a o e).lt
theorem cq.fresh(x:cq P w H h)(e:h.objs.size≤a):H a=none:=by
 cases q:H a with
 |none=>rfl
 |some u=>exact absurd (dq (x.lt q) e) (fA _)
theorem cq.kept(x:cq P w H h)(k:∀b u,h.get? b=some u→h'.get? b=some u):cq P w H h':=fun a o e=>
 (x a o e).stay (fun b u _ q=>k b u q) (fun _ q=>q) fun _ _ q=>q
theorem cq.laid(x:cq P w H h)(k:∀b u,h.get? b=some u→h'.get? b=some u)(hp:h.objs.size≤a)(new:cS P w (upd H a o) h' a o):cq P w (upd H a o) h':=fun b u e=>by
 have hn:=x.fresh hp;by_cases hb:b=a
 ·subst hb;rw[eB]at e;cases e;exact new
 ·rw[bp hb]at e;exact(x b u e).stay (fun c v _ q=>k c v q) (fun c q=>by rw[bp (db q hn)];exact q) fun c xs q=>by rw[bp (db q hn)];exact q
end
def Rd(H:Hp)(a:Addr)(u:HO):Prop:=H a=some u∨∃o,H a=some (.frz o u)
theorem Rd.ok{P:aG}{w:av}{H:Hp}{h:Heap}{a:Addr}{u:HO}(r:Rd H a u)(x:cq P w H h):cS P w H h a u:=by
 rcases r with r|⟨o,r⟩
 ·exact x a u r
 ·obtain⟨_,q⟩:=x a _ r;exact q
def y4:Option HO→Prop
 |some (.lst _)=>True
 |some (.dK _)=>True
 |some (.dT _)=>True
 |some (.set _ _)=>True
 |some (.ins _ _ _)=>True
 |some (.ext _)=>True
 |_=>False
section
variable{P:aG}{w:av}{H:Hp}{h h':Heap}{x e:Addr}{o':HO}
theorem cq.write(ok:cq P w H h)(mu:y4 (H x))(he:e=x∨H e=some (.own x))(k:∀b u,b≠e→h.get? b=some u→h'.get? b=some u)(heo:∃u,h'.get? e=some u)
  (new:cS P w (upd H x o') h' x o'):cq P w (upd H x o') h':=fun b u q=>by
 have nown:∀c y,H c=some (.own y)→c≠x:=fun c y r z=>by subst z;rw[r]at mu;exact mu
 have ntup:∀c xs,H c=some (.tup xs)→c≠x:=fun c xs r z=>by subst z;rw[r]at mu;exact mu
 by_cases hb:b=x
 ·subst hb;rw[eB]at q;cases q;exact new
 ·rw[bp hb]at q;by_cases hbe:b=e
  ·have q':H b=some (.own x):=by
    rcases he with z|z
    ·exact absurd (hbe.trans z) hb
    ·rw[hbe];exact z
   rw[q]at q';cases q';obtain⟨v,hv⟩:=heo;exact⟨v,by rw[hbe];exact hv⟩
  ·refine(ok b u q).stay (fun c v hc r=>k c v ?_ r) (fun c r=>by rw[bp (nown c b r)];exact r) fun c xs r=>by rw[bp (ntup c xs r)];exact r
   rcases hc with rfl|hc
   ·exact hbe
   ·rintro rfl;rcases he with z|z
    ·exact nown c b hc z
    ·rw[hc]at z;cases z;exact hb rfl
end
structure Un(fs ex:List Addr)(H H':Hp)(h h':Heap):Prop where
 keep:∀b o,h.get? b=some o→H b=none→b∉fs→b∉ex→h'.get? b=some o
 slot:∀b o,h.get? b=some o→H b=none→b∈fs→b∉ex→∃sl,h'.get? b=some {o with slots:=sl}
 free:∀b o,h.get? b=some o→H b=none→b∉ex→H' b=none
 there:∀b o,h.get? b=some o→b∉ex→∃o',h'.get? b=some o'
 tups:∀b xs,H b=some (.tup xs)→H' b=some (.tup xs)
 frzs:∀b o u,H b=some (.frz o u)→H' b=some (.frz o u)
 tbls:∀b ps,H b=some (.tbl ps)→∃more,H' b=some (.tbl (ps++more))
section
variable{fs fs' ex ex':List Addr}{H H1 H2:Hp}{h h1 h2 h':Heap}{a x e:Addr}{o:HO}
theorem Un.any(u:Un fs ex H H1 h h1){b:Addr}{ob:Obj}(q:h.get? b=some ob)(n:H b=none)(hx:b∉ex):∃sl,h1.get? b=some {ob with slots:=sl}:=by
 by_cases hb:b∈fs
 ·exact u.slot b ob q n hb hx
 ·exact⟨ob.slots,u.keep b ob q n hb hx⟩
theorem Un.kept(k:∀b u,h.get? b=some u→h'.get? b=some u):Un fs ex H H h h':=
 ⟨fun b ob q _ _ _=>k b ob q,fun b ob q _ _ _=>⟨ob.slots,k b ob q⟩,fun _ _ _ n _=>n,fun b ob q _=>⟨ob,k b ob q⟩,fun _ _ q=>q,fun _ _ _ q=>q,fun _ ps q=>⟨#[],by rw[q];simp⟩⟩
theorem Un.refl:Un fs ex H H h h:=Un.kept fun _ _ q=>q
theorem Un.laid(k:∀b u,h.get? b=some u→h'.get? b=some u)(hp:h.objs.size≤a)(hn:H a=none):Un fs ex H (upd H a o) h h' where
 keep:=fun b u q _ _ _=>k b u q
 slot:=fun b u q _ _ _=>⟨u.slots,k b u q⟩
 free:=fun b u q n _=>by rw[bp (cC (dq (bC q) hp))];exact n
 there:=fun b u q _=>⟨u,k b u q⟩
 tups:=fun b xs q=>by rw[bp (db q hn)];exact q
 frzs:=fun b u xs q=>by rw[bp (db q hn)];exact q
 tbls:=fun b ps q=>⟨#[],by rw[bp (db q hn),q];simp⟩
theorem Un.write(mu:y4 (H x))(he:e=x∨H e=some (.own x))(k:∀b u,b≠e→h.get? b=some u→h'.get? b=some u)(heo:∃u,h'.get? e=some u):Un fs ex H (upd H x o) h h':=by
 have hx:∀b,H b=none→b≠x:=fun b n z=>by subst z;rw[n]at mu;exact mu
 have hb:∀b,H b=none→b≠e:=fun b n z=>by
  subst z;rcases he with r|r
  ·exact hx b n r
  ·rw[n]at r;cases r
 have hm:∀b u,H b=some u→¬y4 (some u)→b≠x:=fun b u q nm z=>by subst z;rw[q]at mu;exact nm mu
 refine⟨fun b u q n _ _=>k b u (hb b n) q,fun b u q n _ _=>⟨u.slots,k b u (hb b n) q⟩,fun b u q n _=>by rw[bp (hx b n)];exact n,fun b u q _=>?_,
  fun b xs q=>by rw[bp (hm b _ q fun z=>z)];exact q,fun b u xs q=>by rw[bp (hm b _ q fun z=>z)];exact q,fun b ps q=>⟨#[],by rw[bp (hm b _ q fun z=>z),q];simp⟩⟩
 by_cases hbe:b=e
 ·subst hbe;exact heo
 ·exact⟨u,k b u hbe q⟩
end
def xT(h:Heap)(H:Hp):List Addr:=(fT h.objs.size).filter fun a=>(H a).isSome
def lr(h:Heap)(H:Hp):Heap:=ma h (xT h H)
theorem ZI(h:Heap)(H:Hp):(lr h H).objs.size=h.objs.size:=PySem.W.hideAll_size _ _
theorem aca{h:Heap}{H:Hp}{b:Addr}{o:Obj}(e:h.get? b=some o)(n:H b=none):(lr h H).get? b=some o:=
 Au _ e fun hm=>by
  have q:(H b).isSome=true:=(eQ.mp hm).2;rw[n]at q;simp at q
theorem V3{h:Heap}{H:Hp}{b:Addr}{o:Obj}(e:(lr h H).get? b=some o):h.get? b=some o∧H b=none:=by
 have e':h.get? b=some o:=Ay (xT h H) e;refine⟨e',?_⟩;cases q:H b with
 |none=>rfl
 |some x=>
  have hm:b∈xT h H:=eQ.mpr ⟨rF.mpr (bC e'),by simp[q]⟩;have z:(lr h H).get? b=none:=vA (xT h H) hm;rw[z]at e;cases e
def Su(g h:Heap)(L:Addr):List (Addr×Obj):=(fT h.objs.size).filterMap fun a=>if a=L∨(g.get? a).isSome=true then none else(h.get? a).map fun o=>(a,o)
def bO(g h:Heap)(L d:Addr):List (Addr×Obj):=(Su g h L).filter fun p=>decide (p.1≠d)
structure Mod(K:aq)(mg:Str→Option Value)(base:Heap):Prop where
 kin:K.In base
 glob:base.Ns fV mg
 blt:∃mb,base.Ns rP mb∧∀x:Str,x≠"__name__"→mb x=fU x
 nolimit:base.NoLimit
structure Cx where
 prog:aG
 w:av
 K:aq
 mg:Str→Option Value
 base:Heap
 A:bH
 N:List Str
 s₀ : Shared
 H₀ : Hp
 env:Env
 outer:List Env
 stack:List Env
 ex:List Addr
 fn:Str→Bool
 calm:Bool
 pn:List (Addr×Obj)
 xe:Value→Shared→Prop
def bf(l:List Env):List Addr:=l.filterMap (·.frame)
abbrev Cx.fs(X:Cx):List Addr:=bf X.outer
def uT(sc:cQ)(x:Str):Prop:=sc.names.lookup x=some .local∨sc.names.lookup x=some .cell∨sc.names.lookup x=some .free
def tD(sc:cQ)(x:Str):Prop:=sc.names.lookup x=some .local∨sc.names.lookup x=some .cell
def Lw(env:Env)(h:Heap)(m:Str→Option Value)(x:Str)(u:Value):Prop:=
 (env.kindOf x=some .local∧m x=some u)∨((env.kindOf x=some .cell∨env.kindOf x=some .free)∧∃c,env.cells.lookup x=some c∧h.IsCell c (some u))
structure Cx.Ok(X:Cx):Prop where
 mod:Mod X.K X.mg X.base
 kind:X.env.scope.kind=.function
 glob:X.env.globals=fV
 blt:X.env.builtins=rP
 above:X.s₀.heap.objs.size≤X.env.locals
 inj:∀x y c,X.env.cells.lookup x=some c→X.env.cells.lookup y=some c→x=y
 has:∀x,(X.env.kindOf x=some .cell∨X.env.kindOf x=some .free)→∃c,X.env.cells.lookup x=some c
 cab:∀x c,X.fn x=true→X.env.cells.lookup x=some c→X.s₀.heap.objs.size≤c
 hd:X.calm=true→X.A.handled=none
 frames:X.A.frames=some X.stack
 stk:X.stack=X.outer∨(X.stack=X.env::X.outer∧X.env.frame=some X.env.locals)
 exf:∀b∈X.ex,b≠X.env.locals∧∀x c,X.env.cells.lookup x=some c→c≠b
 bs:∀b o,X.base.get? b=some o→X.s₀.heap.get? b=some o∧X.H₀ b=none
 bsz:X.base.objs.size≤X.s₀.heap.objs.size
 noex:∀b o,X.base.get? b=some o→b∉X.ex
 exfs:∀b∈X.ex,b∉X.fs
 funs:X.s₀.heap.FunFrames X.base X.outer
 frf:∀b∈X.fs,X.H₀ b=none
structure ag(X:Cx)(aa:List (Addr×Obj))(σ : List (Option V))(H:Hp)(s:Shared):Prop where
 ok:X.Ok
 os:s.os=X.s₀.os
 bare:kD s.gens
 base:Un X.fs X.ex X.H₀ H X.s₀.heap s.heap
 loc:∃m,s.heap.Ns X.env.locals m∧∀(i:Nat) (x:Str) (v:V),X.N[i]?=some x→σ[i]?=some (some v)→uT X.env.scope x→∃u,bc v u∧Lw X.env s.heap m x u
 cell:∀x c,X.env.cells.lookup x=some c→∃v,s.heap.IsCell c v
 free:H X.env.locals=none
 freeC:∀x c,X.env.cells.lookup x=some c→H c=none
 pin:∀p∈X.pn++aa,s.heap.get? p.1=some p.2∧H p.1=none∧p.1≠X.env.locals∧p.1∉X.fs∧∀v,p.2.data≠.cell v
 hok:cq X.prog X.w H s.heap
 len:σ.length=X.N.length
section
variable{X:Cx}{aa:List (Addr×Obj)}{σ : List (Option V)}{H H':Hp}{s:Shared}{h':Heap}
theorem Cx.Ok.nofr(ok:X.Ok){b:Addr}{o:Obj}(e:X.base.get? b=some o):b∉X.fs:=fun hb=>by
 have:=(ok.funs.mem hb).1;rw[e]at this;cases this
theorem ag.bs(I:ag X aa σ H s):∀b o,X.base.get? b=some o→s.heap.get? b=some o∧H b=none:=fun b o e=>
 ⟨I.base.keep b o (I.ok.bs b o e).1 (I.ok.bs b o e).2 (I.ok.nofr e) (I.ok.noex b o e),I.base.free b o (I.ok.bs b o e).1 (I.ok.bs b o e).2 (I.ok.noex b o e)⟩
theorem ag.bk(I:ag X aa σ H s):∀b o,X.base.get? b=some o→s.heap.get? b=some o:=fun b o e=>(I.bs b o e).1
theorem ag.mod(I:ag X aa σ H s):Mod X.K X.mg X.base:=I.ok.mod
theorem ag.kIn(I:ag X aa σ H s):X.K.In s.heap:=I.ok.mod.kin.keeps I.bk
theorem ag.lt(I:ag X aa σ H s):X.env.locals<s.heap.objs.size:=let⟨_,hn,_⟩:=I.loc;hn.lt
theorem ag.sz(I:ag X aa σ H s):X.s₀.heap.objs.size≤s.heap.objs.size:=cB I.ok.above (Ak I.lt)
theorem ag.nofs(I:ag X aa σ H s){a:Addr}(h:s.heap.objs.size≤a):a∉X.fs:=fun hb=>by
 obtain⟨_,o,ho,_⟩:=I.ok.funs.mem hb;exact absurd (dq (bC ho) (cB I.sz h)) (fA _)
theorem ag.cne(I:ag X aa σ H s):∀x c,X.env.cells.lookup x=some c→c≠X.env.locals:=fun x c e z=>by
 obtain⟨v,o,ho,hd⟩:=I.cell x c e;obtain⟨m,⟨o',es,ep,ho',hd',_⟩,_⟩:=I.loc;rw[z,ho']at ho;cases ho;rw[hd']at hd;cases hd
theorem ag.funs(I:ag X aa σ H s):s.heap.FunFrames X.base X.outer:=by
 have all:∀(l:List Env),(∀b∈bf l,b∈X.fs)→X.s₀.heap.FunFrames X.base l→s.heap.FunFrames X.base l:=by
  intro l
  induction l with
  |nil=>intro _ _;trivial
  |cons env r ih=>
   intro hs hl;obtain⟨hk,⟨L,o,hf,hn,ho,hd⟩,hr⟩:=hl;have hL:L∈X.fs:=hs L (by unfold bf;rw[rD,hf];exact m9);obtain⟨sl,e⟩:=I.base.slot L o ho (I.ok.frf L hL) hL fun z=>I.ok.exfs L z hL;exact⟨hk,⟨L,_,hf,hn,e,hd⟩,ih (fun b hb=>hs b (by unfold bf;rw[rD,hf];exact jp _ hb)) hr⟩
 exact all X.outer (fun _ hb=>hb) I.ok.funs
theorem ag.stack(I:ag X aa σ H s):s.heap.FunFrames X.base X.stack:=by
 rcases I.ok.stk with e|⟨e,hf⟩
 ·rw[e];exact I.funs
 ·rw[e];obtain⟨m,hn,_⟩:=I.loc;refine .cons (by rw[I.ok.kind];decide) hf hn ?_ I.funs;exact Heap.get?_none_of_le (cB I.ok.bsz I.ok.above)
theorem ag.stkSub(I:ag X aa σ H s):∀b∈bf X.stack,b∈X.env.locals::X.fs:=fun b hb=>by
 rcases I.ok.stk with e|⟨e,hf⟩
 ·rw[e]at hb;exact jp _ hb
 ·rw[e]at hb;unfold bf at hb;rw[rD,hf]at hb;exact hb
theorem ag.stkFree(I:ag X aa σ H s):∀b∈bf X.stack,H b=none:=fun b hb=>by
 rcases bu.mp (I.stkSub b hb)with e|hb
 ·rw[e];exact I.free
 ·obtain⟨_,o,ho,_⟩:=I.ok.funs.mem hb;exact I.base.free b o ho (I.ok.frf b hb) fun z=>I.ok.exfs b z hb
theorem ag.step{g':Array zR}{t':Nat}{d':Drawn}{ch:List Addr}(I:ag X aa σ H s)
  (hch:∀b∈ch,(b∈X.ex∨X.s₀.heap.objs.size≤b)∧b≠X.env.locals∧(∀x c,X.env.cells.lookup x=some c→c≠b)∧∀p∈X.pn++aa,p.1≠b)
  (keep:∀b o,b≠X.env.locals→b∉X.fs→b∉ch→s.heap.get? b=some o→H b=none→h'.get? b=some o)
  (slot:∀b o,b≠X.env.locals→b∈X.fs→b∉ch→s.heap.get? b=some o→H b=none→∃sl,h'.get? b=some {o with slots:=sl}) (free:∀b o,b∉ch→s.heap.get? b=some o→H b=none→H' b=none)
  (there:∀b o,b∉ch→s.heap.get? b=some o→∃o',h'.get? b=some o')
  (tups:∀b xs,H b=some (.tup xs)→H' b=some (.tup xs)) (frzs:∀b o u,H b=some (.frz o u)→H' b=some (.frz o u)) (tbls:∀b ps,H b=some (.tbl ps)→∃more,H' b=some (.tbl (ps++more)))
  (ns:∀m,s.heap.Ns X.env.locals m→h'.Ns X.env.locals m) (hok:cq X.prog X.w H' h') (hg:kD g') :
  ag X aa σ H' {s with heap:=h',gens:=g',drawn:=d',toks:=t'}:=by
 have neL:∀b o,X.s₀.heap.get? b=some o→b≠X.env.locals:=fun b o e=>cC (dq (bC e) I.ok.above);have neC:∀b o,X.s₀.heap.get? b=some o→b∉X.ex→b∉ch:=fun b o e hx hb=>by
  rcases(hch b hb).1 with z|z
  ·exact hx z
  ·exact absurd (dq (bC e) z) (fA _)
 have cellK:∀x c,X.env.cells.lookup x=some c→∀v,s.heap.IsCell c v→h'.IsCell c v:=fun x c e v ⟨o,ho,hd⟩=>by
  have nch:c∉ch:=fun z=>(hch c z).2.2.1 x c e rfl;by_cases hc:c∈X.fs
  ·obtain⟨sl,q⟩:=slot c o (I.cne x c e) hc nch ho (I.freeC x c e);exact⟨_,q,hd⟩
  ·exact⟨o,keep c o (I.cne x c e) hc nch ho (I.freeC x c e),hd⟩
 refine⟨I.ok,I.os,hg,⟨fun b o e n hb hx=>?_,fun b o e n hb hx=>?_,fun b o e n hx=>?_,fun b o e hx=>?_,fun b xs e=>tups b xs (I.base.tups b xs e),fun b o xs e=>frzs b o xs (I.base.frzs b o xs e),fun b ps e=>?_⟩,?_,fun x c e=>?_,?_,fun x c e=>?_,fun p hp=>?_,hok,I.len⟩
 ·exact keep b o (neL b o e) hb (neC b o e hx) (I.base.keep b o e n hb hx) (I.base.free b o e n hx)
 ·obtain⟨sl,e1⟩:=I.base.slot b o e n hb hx;obtain⟨sl',e2⟩:=slot b _ (neL b o e) hb (neC b o e hx) e1 (I.base.free b o e n hx);exact⟨sl',e2⟩
 ·obtain⟨o',e1⟩:=I.base.there b o e hx;exact free b o' (neC b o e hx) e1 (I.base.free b o e n hx)
 ·obtain⟨o',e1⟩:=I.base.there b o e hx;exact there b o' (neC b o e hx) e1
 ·obtain⟨m1,e1⟩:=I.base.tbls b ps e;obtain⟨m2,e2⟩:=tbls b _ e1;exact⟨m1++m2,by rw[e2,NW]⟩
 ·obtain⟨m,hn,hl⟩:=I.loc;refine⟨m,ns m hn,fun i x v e1 e2 e3=>?_⟩;obtain⟨u,r,l⟩:=hl i x v e1 e2 e3;refine⟨u,r,?_⟩;rcases l with l|⟨k,c,e,z⟩
  ·exact .inl l
  ·exact .inr ⟨k,c,e,cellK x c e _ z⟩
 ·obtain⟨v,z⟩:=I.cell x c e;exact⟨v,cellK x c e v z⟩
 ·obtain⟨m,⟨o,_,_,ho,_⟩,_⟩:=I.loc;exact free _ o (fun z=>(hch _ z).2.1 rfl) ho I.free
 ·obtain⟨v,o,ho,hd⟩:=I.cell x c e;exact free c o (fun z=>(hch c z).2.2.1 x c e rfl) ho (I.freeC x c e)
 ·obtain⟨e,n,ne,nf,d⟩:=I.pin p hp;have nch:p.1∉ch:=fun z=>(hch p.1 z).2.2.2 p hp rfl;exact⟨keep p.1 p.2 ne nf nch e n,free p.1 p.2 nch e n,ne,nf,d⟩
theorem ag.un{t':Nat}(I:ag X aa σ H s)(u:Un X.fs [] H H' s.heap h')(hok:cq X.prog X.w H' h'):ag X aa σ H' {s with heap:=h',toks:=t'}:=by
 obtain⟨m,⟨o,es,ep,ho,r⟩,_⟩:=id I.loc;obtain⟨sl,hL⟩:=u.any ho I.free (by simp);exact I.step (g':=s.gens) (d':=s.drawn) (ch:=[]) (fun _ z=>nomatch z) (fun b o _ hb _ e n=>u.keep b o e n hb (by simp)) (fun b o _ hb _ e n=>u.slot b o e n hb (by simp)) (fun b o _ e n=>u.free b o e n (by simp)) (fun b o _ e=>u.there b o e (by simp)) u.tups u.frzs u.tbls (fun m' hm=>by
  obtain⟨o',es',ep',ho',r'⟩:=hm;rw[ho]at ho';cases ho';exact⟨_,es',ep',hL,r'⟩) hok I.bare
theorem ag.call{g':Array zR}{t':Nat}{d':Drawn}{ch:List Addr}(I:ag X aa σ H s)(u:Un (bf X.stack) ch H H' s.heap h')(hok:cq X.prog X.w H' h')(hg:kD g')
  (hch:∀b∈ch,(b∈X.ex∨X.s₀.heap.objs.size≤b)∧b≠X.env.locals∧(∀x c,X.env.cells.lookup x=some c→c≠b)∧∀p∈X.pn++aa,p.1≠b) :
  ag X aa σ H' {s with heap:=h',gens:=g',drawn:=d',toks:=t'}:=by
 obtain⟨m,⟨o,es,ep,ho,r⟩,_⟩:=id I.loc;obtain⟨sl,hL⟩:=u.any ho I.free fun z=>(hch _ z).2.1 rfl;exact I.step (ch:=ch) hch (fun b o hL hb hc e n=>u.keep b o e n (fun z=>(bu.mp (I.stkSub b z)).elim hL hb) hc) (fun b o _ _ hc e n=>u.any e n hc) (fun b o hc e n=>u.free b o e n hc) (fun b o hc e=>u.there b o e hc) u.tups u.frzs u.tbls (fun m' hm=>by
  obtain⟨o',es',ep',ho',r'⟩:=hm;rw[ho]at ho';cases ho';exact⟨_,es',ep',hL,r'⟩) hok hg
theorem ag.turned{t':Nat}{it:Addr}(I:ag X aa σ H s)(k:∀b o,b≠it→s.heap.get? b=some o→h'.get? b=some o)(hn:H it=none)(hL:it≠X.env.locals)
  (h1:it∈X.ex∨X.s₀.heap.objs.size≤it) (h2:∀x c,X.env.cells.lookup x=some c→c≠it) (h3:∀p∈X.pn++aa,p.1≠it):ag X aa σ H {s with heap:=h',toks:=t'}:=by
 have nit:∀b u,H b=some u→b≠it:=fun b u e z=>by rw[z,hn]at e;cases e
 refine I.step (g':=s.gens) (d':=s.drawn) (ch:=[it]) (fun b hb=>?_) (fun b o _ _ hc e _=>k b o (fun z=>hc (by simp[z])) e) (fun b o _ _ hc e _=>⟨o.slots,k b o (fun z=>hc (by simp[z])) e⟩) (fun _ _ _ _ n=>n)
  (fun b o hc e=>⟨o,k b o (fun z=>hc (by simp[z])) e⟩) (fun _ _ e=>e) (fun _ _ _ e=>e) (fun b ps e=>⟨#[],by rw[e];simp⟩) (fun m hm=>?_) (fun b u e=>?_) I.bare
 ·have e:b=it:=by simpa using hb
  subst e;exact⟨h1,hL,h2,h3⟩
 ·obtain⟨o,es,ep,ho,r⟩:=hm;exact⟨o,es,ep,k _ o (cH hL) ho,r⟩
 ·refine(I.hok b u e).stay (fun c v hc q=>k c v ?_ q) (fun _ q=>q) fun _ _ q=>q;rcases hc with z|z
  ·rw[z];exact nit b u e
  ·exact nit c _ z
theorem ag.tok(I:ag X aa σ H s)(t:Nat):ag X aa σ H {s with toks:=t}:=I.un (h':=s.heap) (t':=t) Un.refl I.hok
theorem ag.kept{t':Nat}(I:ag X aa σ H s)(k:∀b u,s.heap.get? b=some u→h'.get? b=some u):ag X aa σ H {s with heap:=h',toks:=t'}:=I.un (Un.kept k) (I.hok.kept k)
theorem ag.laid{a:Addr}{o:HO}{t':Nat}(I:ag X aa σ H s)(k:∀b u,s.heap.get? b=some u→h'.get? b=some u)(hp:s.heap.objs.size≤a)(new:cS X.prog X.w (upd H a o) h' a o):
  ag X aa σ (upd H a o) {s with heap:=h',toks:=t'}:=I.un (Un.laid k hp (I.hok.fresh hp)) (I.hok.laid k hp new)
theorem ag.write{x e:Addr}{o:HO}{t':Nat}(I:ag X aa σ H s)(mu:y4 (H x))(he:e=x∨H e=some (.own x))(k:∀b u,b≠e→s.heap.get? b=some u→h'.get? b=some u)(heo:∃u,h'.get? e=some u)
  (new:cS X.prog X.w (upd H x o) h' x o):ag X aa σ (upd H x o) {s with heap:=h',toks:=t'}:=I.un (Un.write mu he k heo) (I.hok.write mu he k heo new)
theorem ag.weak{σ':List (Option V)}(I:ag X aa σ H s)(hl:σ'.length=σ.length)(w:∀(i:Nat) v,σ'[i]?=some (some v)→σ[i]?=some (some v)):ag X aa σ' H s:=
 ⟨I.ok,I.os,I.bare,I.base,let⟨m,hn,hl'⟩:=I.loc;⟨m,hn,fun i x v e1 e2 e3=>hl' i x v e1 (w i v e2) e3⟩,I.cell,I.free,I.freeC,I.pin,I.hok,hl.trans I.len⟩
theorem ag.pins_of{pins':List (Addr×Obj)}(I:ag X aa σ H s)(h:∀p∈pins',s.heap.get? p.1=some p.2∧H p.1=none∧p.1≠X.env.locals∧p.1∉X.fs∧∀v,p.2.data≠.cell v):ag X pins' σ H s:=
 ⟨I.ok,I.os,I.bare,I.base,I.loc,I.cell,I.free,I.freeC,fun p hp=>(jQ.mp hp).elim (fun z=>I.pin p (lV _ z)) (h p),I.hok,I.len⟩
theorem CV{N:List Str}(hN:N.Nodup){i j:Nat}{x:Str}(a:N[i]?=some x)(b:N[j]?=some x):i=j:=by
 obtain⟨h1,e1⟩:=gO.mp a;obtain⟨h2,e2⟩:=gO.mp b;exact(List.getElem_inj hN).mp (e1.trans e2.symm)
theorem Lu{M:jq}{A:bH}{E:Value→Shared→Prop}{i:Nat}{x:Str}{v:V}{u:Value}{Q:Unit→Shared→Prop}(I:ag X aa σ H s)(hN:X.N.Nodup)(hi:X.N[i]?=some x)(hx:tD X.env.scope x)(r:bc v u)
  (h:∀s',ag X aa (σ.set i (some v)) H s'→(∃a,zW a s.heap s'.heap∧(a=X.env.locals∨X.env.cells.lookup x=some a))→Q () s') (hf:X.fn x=true∨X.env.scope.names.lookup x=some .local:=by first|exact .inl rfl|exact .inr rfl|assumption):ax M A (Gf X.env x u) Q E s:=by
 obtain⟨m,hn,hl⟩:=id I.loc;have hcls:(X.env.scope.kind == .class||(X.env.scope.kind == .module&&X.env.locals != X.env.globals))=false:=by rw[I.ok.kind];rfl
 have hiσ : i < σ.length:=by rw[I.len];exact(gO.mp hi).1
 have cne:=I.cne;have tracked:∀{a:Addr} {h':Heap},(∃o,s.heap.get? a=some o∧H a=none)→zW a s.heap h'→cq X.prog X.w H h':=fun{a h'} ha hs b ob e=>by
  obtain⟨_,_,hfree⟩:=ha;refine(I.hok b ob e).stay (fun c w' hc q=>(hs.2 c ?_).trans q) (fun _ q=>q) fun _ _ q=>q;rintro rfl;rcases hc with rfl|hc
  ·rw[hfree]at e;cases e
  ·rw[hfree]at hc;cases hc
 rcases hx with hk|hk
 ·refine wpAny_storeName_local hk hn (fun h' hn' hs=>?_) hcls;obtain⟨oL,_,_,hoL,_⟩:=id hn;refine h _ ⟨I.ok,I.os,I.bare,⟨fun b o e n hb hx=>?_,fun b o e n hb hx=>?_,I.base.free,fun b o e hx=>?_,I.base.tups,I.base.frzs,I.base.tbls⟩,⟨_,hn',fun j y v' e1 e2 e3=>?_⟩,fun y c e=>?_,I.free,I.freeC,fun p hp=>?_,tracked ⟨oL,hoL,I.free⟩ hs,by simpa using I.len⟩ ⟨_,hs,.inl rfl⟩
  ·exact(hs.2 b (cC (dq (bC e) I.ok.above))).trans (I.base.keep b o e n hb hx)
  ·obtain⟨sl,e1⟩:=I.base.slot b o e n hb hx;exact⟨sl,(hs.2 b (cC (dq (bC e) I.ok.above))).trans e1⟩
  ·obtain⟨o',e1⟩:=I.base.there b o e hx;exact⟨o',(hs.2 b (cC (dq (bC e) I.ok.above))).trans e1⟩
  ·by_cases hj:j=i
   ·subst hj;rw[hi]at e1;cases e1;rw[Ad hiσ]at e2;cases e2;exact⟨u,r,.inl ⟨hk,by simp⟩⟩
   ·rw[Fz (cH hj)]at e2;obtain⟨u',r',q⟩:=hl j y v' e1 e2 e3;refine⟨u',r',?_⟩;rcases q with⟨k,e⟩|⟨k,c,e,z⟩
    ·refine .inl ⟨k,?_⟩;have:y≠x:=fun e=>hj (CV hN e1 (e▸hi));simp[this,e]
    ·exact .inr ⟨k,c,e,z.sameBut hs (cne y c e)⟩
  ·obtain⟨w',z⟩:=I.cell y c e;exact⟨w',z.sameBut hs (cne y c e)⟩
  ·obtain⟨e,n,ne,nf,d⟩:=I.pin p hp;exact⟨(hs.2 p.1 ne).trans e,n,ne,nf,d⟩
 ·have hfn:X.fn x=true:=by
   rcases hf with z|z
   ·exact z
   ·rw[z]at hk;cases hk
  obtain⟨c,hc⟩:=I.ok.has x (.inl hk);obtain⟨w',z⟩:=I.cell x c hc;refine wpAny_storeName_cell I.ok.kind hk hc z (fun h' hc' hs=>?_);obtain⟨oc,hoc,hocd⟩:=id z;refine h {s with heap:=h'} ⟨I.ok,I.os,I.bare,⟨fun b o e n hb hx=>?_,fun b o e n hb hx=>?_,I.base.free,fun b o e hx=>?_,I.base.tups,I.base.frzs,I.base.tbls⟩,⟨m,hn.sameBut hs (cH (cne x c hc)),fun j y v' e1 e2 e3=>?_⟩,fun y c' e=>?_,I.free,I.freeC,fun p hp=>?_,tracked ⟨oc,hoc,I.freeC x c hc⟩ hs,by simpa using I.len⟩ ⟨c,hs,.inr hc⟩
  ·exact(hs.2 b (cC (dq (bC e) (I.ok.cab x c hfn hc)))).trans (I.base.keep b o e n hb hx)
  ·obtain⟨sl,e1⟩:=I.base.slot b o e n hb hx;exact⟨sl,(hs.2 b (cC (dq (bC e) (I.ok.cab x c hfn hc)))).trans e1⟩
  ·obtain⟨o',e1⟩:=I.base.there b o e hx;exact⟨o',(hs.2 b (cC (dq (bC e) (I.ok.cab x c hfn hc)))).trans e1⟩
  ·by_cases hj:j=i
   ·subst hj;rw[hi]at e1;cases e1;rw[Ad hiσ]at e2;cases e2;exact⟨u,r,.inr ⟨.inl hk,c,hc,hc'⟩⟩
   ·rw[Fz (cH hj)]at e2;obtain⟨u',r',q⟩:=hl j y v' e1 e2 e3;refine⟨u',r',?_⟩;rcases q with q|⟨k,c',e,z'⟩
    ·exact .inl q
    ·refine .inr ⟨k,c',e,z'.sameBut hs ?_⟩;rintro rfl;exact hj (CV hN e1 (I.ok.inj _ _ _ e hc▸hi))
  ·by_cases hcc:c'=c
   ·subst hcc;exact⟨_,hc'⟩
   ·obtain⟨w2,z2⟩:=I.cell y c' e;exact⟨w2,z2.sameBut hs hcc⟩
  ·obtain⟨e,n,ne,nf,d⟩:=I.pin p hp;refine⟨(hs.2 p.1 ?_).trans e,n,ne,nf,d⟩;intro q;rw[q,hoc]at e;have q':oc=p.2:=cP e;exact d w' (by rw[←q'];exact hocd)
theorem sY{M:jq}{A:bH}{E:Value→Shared→Prop}{i:Nat}{x:Str}{v:V}{u:Value}{Q:Unit→Shared→Prop}(I:ag X aa σ H s)(hN:X.N.Nodup)(hi:X.N[i]?=some x)(hx:tD X.env.scope x)(r:bc v u)
  (h:∀s',ag X aa (σ.set i (some v)) H s'→Q () s') (hf:X.fn x=true∨X.env.scope.names.lookup x=some .local:=by first|exact .inl rfl|exact .inr rfl|assumption):ax M A (Gf X.env x u) Q E s:=
 Lu I hN hi hx r (fun s' I' _=>h s' I') hf
theorem ag.call'{s':Shared}{ch:List Addr}(I:ag X aa σ H s)(ho:s'.os=s.os)(u:Un (bf X.stack) ch H H' s.heap s'.heap)(hok:cq X.prog X.w H' s'.heap)(hg:kD s'.gens)
  (hch:∀b∈ch,(b∈X.ex∨X.s₀.heap.objs.size≤b)∧b≠X.env.locals∧(∀x c,X.env.cells.lookup x=some c→c≠b)∧∀p∈X.pn++aa,p.1≠b):ag X aa σ H' s':=by
 obtain⟨h',g',d',t',o'⟩:=s';have e:o'=s.os:=ho;subst e;exact I.call (g':=g') (t':=t') (d':=d') u hok hg hch
end
abbrev XK:=Value→Option Addr→Hp→Prop
abbrev St:=List (Option V)
abbrev VK:=V→Hp→Prop
abbrev TE:=St→Hp→VK→Prop
abbrev TT:=St→Hp→(Bool→Hp→Prop)→Prop
abbrev TA:=St→Hp→(List V→Hp→Prop)→Prop
structure fi where
 nx:St→Hp→Prop
 rt:VK
 bk:St→Hp→Prop:=fun _ _=>False
 ct:St→Hp→Prop:=fun _ _=>False
abbrev TS:=fi→St→Hp→Prop
def EP(X:Cx)(aa:List (Addr×Obj))(σ : St)(Q:VK)(u:Value)(s':Shared):Prop:=∃v H',ag X aa σ H' s'∧bc v u∧Q v H'
def TP(X:Cx)(aa:List (Addr×Obj))(σ : St)(Q:Bool→Hp→Prop)(b:Bool)(s':Shared):Prop:=∃H',ag X aa σ H' s'∧Q b H'
def AP(X:Cx)(aa:List (Addr×Obj))(σ : St)(Q:List V→Hp→Prop)(us:List Value)(s':Shared):Prop:=∃vs H',ag X aa σ H' s'∧aP vs us∧Q vs H'
def SP(X:Cx)(aa:List (Addr×Obj))(D:fi)(f:mY)(s':Shared):Prop:=
 match f with
 |.next=>∃σ' H',ag X aa σ' H' s'∧D.nx σ' H'
 |.brk=>∃σ' H',ag X aa σ' H' s'∧D.bk σ' H'
 |.cont=>∃σ' H',ag X aa σ' H' s'∧D.ct σ' H'
 |.ret u=>∃v σ' H',ag X aa σ' H' s'∧bc v u∧D.rt v H'
def PE(X:Cx)(e:Expr)(t:TE):Prop:=
 ∀(aa:List (Addr×Obj)) (s:Shared) (σ : St) (H:Hp) (Q:VK),ag X aa σ H s→t σ H Q→ax (au X.prog X.w) X.A (eval e X.env) (EP X aa σ Q) X.xe s
def PT(X:Cx)(e:Expr)(t:TT):Prop:=
 ∀(aa:List (Addr×Obj)) (s:Shared) (σ : St) (H:Hp) (Q:Bool→Hp→Prop),ag X aa σ H s→t σ H Q→ax (au X.prog X.w) X.A (isTrue e X.env (eval e X.env)) (TP X aa σ Q) X.xe s
def PW(X:Cx)(e:Expr)(t:TT):Prop:=
 ∀(whole:Sem Value) (aa:List (Addr×Obj)) (s:Shared) (σ : St) (H:Hp) (Q:Bool→Hp→Prop),ag X aa σ H s→t σ H Q→ax (au X.prog X.w) X.A (isTrue e X.env whole) (TP X aa σ Q) X.xe s
theorem PW.pt{X:Cx}{e:Expr}{t:TT}(h:PW X e t):PT X e t:=h _
def PA(X:Cx)(es:List Expr)(t:TA):Prop:=
 ∀(pos:Pos) (aa:List (Addr×Obj)) (s:Shared) (σ : St) (H:Hp) (Q:List V→Hp→Prop),ag X aa σ H s→t σ H Q→ax (au X.prog X.w) X.A (spliced (dN pos (bz es X.env))) (AP X aa σ Q) X.xe s
def PS(X:Cx)(st:aw)(t:TS):Prop:=
 ∀(aa:List (Addr×Obj)) (s:Shared) (σ : St) (H:Hp) (D:fi),ag X aa σ H s→t D σ H→ax (au X.prog X.w) X.A (exec st X.env) (SP X aa D) X.xe s
def fq(X:Cx)(st:List aw)(t:TS):Prop:=
 ∀(aa:List (Addr×Obj)) (s:Shared) (σ : St) (H:Hp) (D:fi),ag X aa σ H s→t D σ H→ax (au X.prog X.w) X.A (execs st X.env) (SP X aa D) X.xe s
theorem aK{α : Type}{t:Sem α}{Q Q':α→Shared→Prop}{M:jq}{A:bH}{E:Value→Shared→Prop}{s:Shared}(h:ax M A t Q E s)(hQ:∀a s,Q a s→Q' a s):ax M A t Q' E s:=bT h hQ fun _ _ x=>x
section
variable{X:Cx}
def xa(i:Nat):TE:=fun σ H Q=>∃v,σ[i]?=some (some v)∧Q v H
def tC(v:V):TE:=fun _ H Q=>Q v H
theorem abP{i:Nat}{x:Str}{pos:Pos}(hN:X.N[i]?=some x)(hv:uT X.env.scope x)(hd:(x==("__debug__" : Str))=false:=by decide)(hcd:(x==("__classdict__" : Str))=false:=by decide):PE X (.Name x pos) (xa i):=by
 intro aa s σ H Q I h;obtain⟨v,e,h⟩:=h;obtain⟨m,hn,hl⟩:=I.loc;obtain⟨u,r,l⟩:=hl i x v hN e hv;have fin:EP X aa σ Q u s:=⟨v,H,I,r,h⟩;rcases l with⟨hk,hm⟩|⟨hk,c,hc,hcell⟩
 ·exact AM (Gi I.ok.kind hk hn hm fin) hd
 ·rcases hk with hk|hk
  ·exact AM (Qi I.ok.kind hk hc hcell fin) hd
  ·exact AM (wpAny_loadName_free I.ok.kind hk hc hcell fin hcd) hd
theorem aj{i j pos}:PE X (.Constant (.int i) j pos) (tC (.int i)):=fun _ _ _ H _ I h=>wpAny_Constant_int ⟨.int i,H,I.tok _,⟨_,rfl⟩,h⟩
theorem gh{b j pos}:PE X (.Constant (.bool b) j pos) (tC (.bl b)):=fun _ _ _ H _ I h=>Constant_bool ⟨.bl b,H,I,rfl,h⟩
theorem ie{j pos}:PE X (.Constant .none j pos) (tC .non):=fun _ _ _ H _ I h=>Constant_none ⟨.non,H,I,rfl,h⟩
theorem ai{x j pos}:PE X (.Constant (.str x) j pos) (tC (.str x)):=fun _ _ _ H _ I h=>Fe ⟨.str x,H,I.tok _,⟨_,rfl⟩,h⟩
def Gl(X:Cx)(x:Str):Prop:=X.env.kindOf x=some .globalImplicit
theorem mV{E:Value→Shared→Prop}{aa:List (Addr×Obj)}{s:Shared}{σ : St}{H:Hp}{x:Str}{u:Value}{pos:Pos}{Q:Value→Shared→Prop}(I:ag X aa σ H s)(hg:Gl X x)(hm:X.mg x=some u)(h:Q u s)
  (hd:(x==("__debug__" : Str))=false:=by decide):ax (au X.prog X.w) X.A (eval (.Name x pos) X.env) Q E s:=
 N5 I.ok.kind hg (Calls.loadGlobal_global (by rw[I.ok.glob];exact I.mod.glob.keeps I.bk) hm h) hd
theorem qf{E:Value→Shared→Prop}{aa:List (Addr×Obj)}{s:Shared}{σ : St}{H:Hp}{x:Str}{u:Value}{pos:Pos}{Q:Value→Shared→Prop}(I:ag X aa σ H s)(hg:Gl X x)(hm:X.mg x=none)(hv:fU x=some u)(h:Q u s)
  (hn:x≠"__name__":=by decide) (hd:(x==("__debug__" : Str))=false:=by decide):ax (au X.prog X.w) X.A (eval (.Name x pos) X.env) Q E s:=by
 obtain⟨mb,h1,h2⟩:=I.mod.blt;exact N5 I.ok.kind hg (Calls.loadGlobal_builtin (by rw[I.ok.glob];exact I.mod.glob.keeps I.bk) hm (by rw[I.ok.blt];exact h1.keeps I.bk) ((h2 x hn).trans hv) h) hd
theorem dC{x:Str}{v:V}{u:Value}{pos:Pos}(hg:Gl X x)(hm:X.mg x=some u)(r:bc v u)(hd:(x==("__debug__" : Str))=false:=by decide):PE X (.Name x pos) (tC v):=
 fun _ _ _ H _ I h=>mV I hg hm ⟨v,H,I,r,h⟩ hd
theorem rj{x:Str}{v:V}{u:Value}{pos:Pos}(hg:Gl X x)(hm:X.mg x=none)(hv:fU x=some u)(r:bc v u)(hn:x≠"__name__":=by decide)(hd:(x==("__debug__" : Str))=false:=by decide):PE X (.Name x pos) (tC v):=
 fun _ _ _ H _ I h=>qf I hg hm hv ⟨v,H,I,r,h⟩ hn hd
variable{a b:Expr}{ta tb:TE}{pos:Pos}
def tB(t:TE):TT:=fun σ H Q=>t σ H fun x H1=>∃c,x=.bl c∧Q c H1
theorem cy{e:Expr}{t:TE}(h:PE X e t)(he:∀whole,isTrue e X.env whole=(do let v ←whole;standAt e.pos;holding [v] (truthy v)):=by intro _;rfl):PT X e (tB t):=by
 intro aa s σ H Q I hw;refine isTrue_plain (aK (h aa s σ H _ I hw) fun v s1 aA=>?_) (he _);obtain⟨x,H1,I1,r1,q1⟩:=aA;obtain⟨d,rfl,q⟩:=q1;cases r1;exact nN ⟨H1,I1,q⟩
variable{tA tB':TT}{bO:List Expr}
def Kd(t u:TT):TT:=fun σ H Q=>t σ H fun c H1=>if c=true then u σ H1 Q else Q false H1
def Hh(t u:TT):TT:=fun σ H Q=>t σ H fun c H1=>if c=true then Q true H1 else u σ H1 Q
def LJ(t:TT):TT:=fun σ H Q=>t σ H fun c H1=>Q (!c) H1
theorem kQ(ha:PT X a tA):PW X (.BoolOp .And [a] pos) tA:=by
 intro wh aa s σ H Q I h;refine isTrue_and (aK (ha aa s σ H Q I h) fun c s1 e=>?_);cases c with
 |true=>exact isTrue_and_nil e
 |false=>exact e
theorem fW(ha:PT X a tA):PW X (.BoolOp .Or [a] pos) tA:=by
 intro wh aa s σ H Q I h;refine isTrue_or (aK (ha aa s σ H Q I h) fun c s1 e=>?_);cases c with
 |false=>exact isTrue_or_nil e
 |true=>exact e
theorem lD(ha:PT X a tA)(hb:PW X (.BoolOp .And (b::bO) pos) tB'):PW X (.BoolOp .And (a::b::bO) pos) (Kd tA tB'):=by
 intro wh aa s σ H Q I h;refine isTrue_and (aK (ha aa s σ H _ I h) fun c s1 aA=>?_);obtain⟨H1,I1,q1⟩:=aA;cases c with
 |true=>exact hb wh aa s1 σ H1 Q I1 q1
 |false=>exact⟨H1,I1,q1⟩
theorem fg(ha:PT X a tA)(hb:PW X (.BoolOp .Or (b::bO) pos) tB'):PW X (.BoolOp .Or (a::b::bO) pos) (Hh tA tB'):=by
 intro wh aa s σ H Q I h;refine isTrue_or (aK (ha aa s σ H _ I h) fun c s1 aA=>?_);obtain⟨H1,I1,q1⟩:=aA;cases c with
 |true=>exact⟨H1,I1,q1⟩
 |false=>exact hb wh aa s1 σ H1 Q I1 q1
theorem fk(ha:PT X a tA):PT X (.UnaryOp .Not a pos) (LJ tA):=by
 intro aa s σ H Q I h;exact isTrue_not (ha aa s σ H (fun c H1=>Q (!c) H1) I h)
def Jx(ta tb:TE):TE:=fun σ H Q=>ta σ H fun x H1=>∃c,x=.bl c∧if c=true then tb σ H1 Q else Q (.bl false) H1
def IA(ta tb:TE):TE:=fun σ H Q=>ta σ H fun x H1=>∃c,x=.bl c∧if c=true then Q (.bl true) H1 else tb σ H1 Q
def R4(ta:TE):TE:=fun σ H Q=>ta σ H fun x H1=>∃c,x=.bl c∧Q (.bl (!c)) H1
theorem oE{op}{t:TE}(h:PE X a t):PE X (.BoolOp op [a] pos) t:=fun aa s σ H Q I hw=>BoolOp_one (h aa s σ H Q I hw)
theorem nO(ha:PE X a ta)(hb:PE X (.BoolOp .And (b::bO) pos) tb):PE X (.BoolOp .And (a::b::bO) pos) (Jx ta tb):=by
 intro aa s σ H Q I h;refine BoolOp_and (aK (ha aa s σ H _ I h) fun v s1 aA=>?_);obtain⟨x,H1,I1,r1,q1⟩:=aA;obtain⟨c,rfl,q1⟩:=q1;cases r1;refine nN ?_;cases c with
 |true=>exact hb aa s1 σ H1 Q I1 q1
 |false=>exact⟨.bl false,H1,I1,rfl,q1⟩
theorem KZ(ha:PE X a ta)(hb:PE X (.BoolOp .Or (b::bO) pos) tb):PE X (.BoolOp .Or (a::b::bO) pos) (IA ta tb):=by
 intro aa s σ H Q I h;refine BoolOp_or (aK (ha aa s σ H _ I h) fun v s1 aA=>?_);obtain⟨x,H1,I1,r1,q1⟩:=aA;obtain⟨c,rfl,q1⟩:=q1;cases r1;refine nN ?_;cases c with
 |false=>exact hb aa s1 σ H1 Q I1 q1
 |true=>exact⟨.bl true,H1,I1,rfl,q1⟩
theorem U3(ha:PE X a ta):PE X (.UnaryOp .Not a pos) (R4 ta):=by
 intro aa s σ H Q I h;refine UnaryOp_ (aK (ha aa s σ H _ I h) fun v s1 aA=>?_);obtain⟨x,H1,I1,r1,q1⟩:=aA;obtain⟨c,rfl,q1⟩:=q1;cases r1;exact not_of (nN ⟨.bl (!c),H1,I1,rfl,q1⟩)
def HI(t:TT)(ta tb:TE):TE:=fun σ H Q=>t σ H fun c H1=>if c=true then ta σ H1 Q else tb σ H1 Q
theorem xx{c:Expr}(hc:PT X c tA)(ha:PE X a ta)(hb:PE X b tb):PE X (.IfExp c a b pos) (HI tA ta tb):=by
 intro aa s σ H Q I h;refine wpAny_IfExp (aK (hc aa s σ H _ I h) fun d s1 aA=>?_);obtain⟨H1,I1,q1⟩:=aA;cases d with
 |true=>exact ha aa s1 σ H1 Q I1 q1
 |false=>exact hb aa s1 σ H1 Q I1 q1
end
def ay(K:aq)(H:Hp)(a:Addr)(xs:List V):Prop:=
 Rd H a (.lst xs)∨
  ∃(o:Obj) (its:Array Value) (n:Nat),K.lookup a=some o∧o.cls=.type "list"∧o.dict=none∧o.data=.seq its n∧its.size≤sizeLine∧aP xs its.toList
def di(K:aq)(H:Hp)(a:Addr)(xs:List V):Prop:=
 Rd H a (.tup xs)∨
  ∃(o:Obj) (its:Array Value) (n:Nat),K.lookup a=some o∧o.cls=.type "tuple"∧o.data=.seq its n∧its.size≤sizeLine∧aP xs its.toList
def Wd:Value→Option V
 |.none=>some .non
 |.bool b=>some (.bl b)
 |.int i _=>some (.int i)
 |.str x _=>some (.str x)
 |.bytes b _=>some (.byt b)
 |.float b _=>some (.flt b)
 |.ref a=>some (.ref a)
 |.type n=>some (.ty n)
 |_=>none
theorem bc.abs{x:V}{u:Value}(r:bc x u):Wd u=some x:=by
 cases x with
 |non=>cases r;rfl
 |bl _=>cases r;rfl
 |int _=>obtain⟨t,rfl⟩:=r;rfl
 |str _=>obtain⟨t,rfl⟩:=r;rfl
 |byt _=>obtain⟨t,rfl⟩:=r;rfl
 |flt _=>obtain⟨t,rfl⟩:=r;rfl
 |ref _=>cases r;rfl
 |ty _=>cases r;rfl
theorem bc.inj{x y:V}{u:Value}(r:bc x u)(q:bc y u):x=y:=cP (r.abs.symm.trans q.abs)
theorem aP.inj:∀{xs ys:List V} {us:List Value},aP xs us→aP ys us→xs=ys
 |_,_,_,.nil,.nil=>rfl
 |_,_,_,.cons r t,.cons r' t'=>by rw[r.inj r',aP.inj t t']
section
variable{X:Cx}{aa:List (Addr×Obj)}{σ : St}{H:Hp}{s:Shared}{a:Addr}{xs ys:List V}
theorem ay.of{K:aq}(h:H a=some (.lst xs)):ay K H a xs:=.inl (.inl h)
theorem di.of{K:aq}(h:H a=some (.tup xs)):di K H a xs:=.inl (.inl h)
theorem ag.list(I:ag X aa σ H s)(h:ay X.K H a xs):∃its:List Value,aP xs its∧PlainL s.heap a its.toArray∧xs.length≤sizeLine:=by
 rcases h with h|⟨o,its,n,hk,hc,hd,hs,hz,r⟩
 ·obtain⟨z,its,n,r,e⟩:=h.ok I.hok;exact⟨its,r,⟨_,n,e,rfl,rfl,rfl⟩,z⟩
 ·refine⟨its.toList,r,⟨o,n,I.kIn a o hk,hc,hd,by simpa using hs⟩,?_⟩;have e:=r.length;simp only[jM]at e;omega
theorem ag.tuple(I:ag X aa σ H s)(h:di X.K H a xs):∃its:List Value,aP xs its∧IsTup s.heap a its.toArray∧xs.length≤sizeLine:=by
 rcases h with h|⟨o,its,n,hk,hc,hs,hz,r⟩
 ·obtain⟨z,its,r,p⟩:=h.ok I.hok;exact⟨its,r,p,z⟩
 ·refine⟨its.toList,r,⟨o,I.kIn a o hk,hc,n,by simpa using hs⟩,?_⟩;have e:=r.length;simp only[jM]at e;omega
theorem ag.list_inj(I:ag X aa σ H s)(h:ay X.K H a xs)(h':ay X.K H a ys):xs=ys:=by
 obtain⟨its,r,⟨o,n,e,_,_,d⟩,_⟩:=I.list h;obtain⟨its',r',⟨o',n',e',_,_,d'⟩,_⟩:=I.list h';rw[e]at e';cases e';rw[d]at d';injection d' with d1 _;have:its=its':=by simpa using congrArg Array.toList d1
 subst this;exact r.inj r'
end
abbrev Cx.wish(X:Cx)(E:Value→Shared→Prop):Cx:={X with xe:=E}
abbrev Cx.nox(X:Cx):Cx:=X.wish fun _ _=>False
theorem Cx.Ok.wish{X:Cx}(ok:X.Ok)(E:Value→Shared→Prop):(X.wish E).Ok:=
 ⟨ok.mod,ok.kind,ok.glob,ok.blt,ok.above,ok.inj,ok.has,ok.cab,ok.hd,ok.frames,ok.stk,ok.exf,ok.bs,ok.bsz,ok.noex,ok.exfs,ok.funs,ok.frf⟩
theorem Cx.Ok.unwish{X:Cx}{E:Value→Shared→Prop}(ok:(X.wish E).Ok):X.Ok:=
 ⟨ok.mod,ok.kind,ok.glob,ok.blt,ok.above,ok.inj,ok.has,ok.cab,ok.hd,ok.frames,ok.stk,ok.exf,ok.bs,ok.bsz,ok.noex,ok.exfs,ok.funs,ok.frf⟩
section
variable{X:Cx}{aa:List (Addr×Obj)}{σ : St}{H:Hp}{s:Shared}{E:Value→Shared→Prop}
theorem ag.wish(I:ag X aa σ H s)(E:Value→Shared→Prop):ag (X.wish E) aa σ H s:=⟨I.ok.wish E,I.os,I.bare,I.base,I.loc,I.cell,I.free,I.freeC,I.pin,I.hok,I.len⟩
theorem ag.unwish(I:ag (X.wish E) aa σ H s):ag X aa σ H s:=⟨I.ok.unwish,I.os,I.bare,I.base,I.loc,I.cell,I.free,I.freeC,I.pin,I.hok,I.len⟩
theorem SP.unwish{D:fi}{f:mY}{s':Shared}(h:SP (X.wish E) aa D f s'):SP X aa D f s':=by
 cases f with
 |next=>obtain⟨σ',H',I,q⟩:=h;exact⟨σ',H',I.unwish,q⟩
 |brk=>obtain⟨σ',H',I,q⟩:=h;exact⟨σ',H',I.unwish,q⟩
 |cont=>obtain⟨σ',H',I,q⟩:=h;exact⟨σ',H',I.unwish,q⟩
 |ret u=>obtain⟨v,σ',H',I,r,q⟩:=h;exact⟨v,σ',H',I.unwish,r,q⟩
theorem fq.nox{st:List aw}{t:TS}(h:fq X.nox st t):fq X st t:=fun aa s σ H D I hw=>
 bT (h aa s σ H D (I.wish _) hw) (fun _ _ q=>q.unwish) fun _ _ z=>ej z
end
section
variable{X:Cx}{st:aw}{bO:List aw}{t u:TS}{e:Expr}{te:TE}{pos:Pos}
def HG:TS:=fun D σ H=>D.nx σ H
def LQ(t u:TS):TS:=fun D σ H=>t {D with nx:=u D} σ H
theorem aS:fq X [] HG:=fun _ _ σ H _ I h=>vQ ⟨σ,H,I,h⟩
theorem ao(h1:PS X st t)(h2:fq X bO u):fq X (st::bO) (LQ t u):=by
 intro aa s σ H D I h;refine Gh (aK (h1 aa s σ H {D with nx:=u D} I h) fun f s1 q=>?_);cases f with
 |next=>
  obtain⟨σ',H',I',q⟩:=q;exact h2 aa s1 σ' H' D I' q
 |ret v=>exact q
 |brk=>exact q
 |cont=>exact q
theorem ap(h1:PS X st t):fq X [st] t:=by
 intro aa s σ H D I h;refine Gh (aK (h1 aa s σ H D I h) fun f s1 q=>?_);cases f with
 |next=>exact vQ q
 |ret v=>exact q
 |brk=>exact q
 |cont=>exact q
theorem ag.quiet{aa:List (Addr×Obj)}{σ : St}{H:Hp}{s:Shared}(I:ag X aa σ H s):interactive X.env=false:=by simp[interactive,I.ok.kind]
def Ks(te:TE):TS:=fun D σ H=>te σ H fun _ H1=>D.nx σ H1
theorem dB(he:PE X e te)(hs:AJ e none pos.line X.env=pure false:=by rfl):PS X (.Expr e pos) (Ks te):=by
 intro aa s σ H D I h;exact wpAny_Expr_any (aK (he aa s σ H _ I h) fun v s1 ⟨x,H1,I1,r1,q1⟩=>⟨σ,H1,I1,q1⟩) I.quiet hs
def MX(te:TE):TS:=fun D σ H=>te σ H D.rt
theorem az(he:PE X e te):PS X (.Return (some e) pos) (MX te):=by
 intro aa s σ H D I h;exact wpAny_Return_some (aK (he aa s σ H _ I h) fun v s1 ⟨x,H1,I1,r1,q1⟩=>⟨x,σ,H1,I1,r1,q1⟩)
def Jv(c:TT)(t u:TS):TS:=fun D σ H=>c σ H fun b H1=>if b=true then t D σ H1 else u D σ H1
theorem aQ{c:Expr}{a b:List aw}{tc:TT}(hc:PT X c tc)(ha:fq X a t)(hb:fq X b u):PS X (.If c a b pos) (Jv tc t u):=by
 intro aa s σ H D I h;refine wpAny_If (aK (hc aa s σ H _ I h) fun d s1 aA=>?_);obtain⟨H1,I1,q1⟩:=aA;cases d with
 |true=>exact ha aa s1 σ H1 D I1 q1
 |false=>exact hb aa s1 σ H1 D I1 q1
def Us:TS:=fun _ _ _=>False
theorem Sr:PS X st Us:=fun _ _ _ _ _ _ h=>h.elim
end
abbrev TG:=V→St→Hp→(St→Hp→Prop)→Prop
abbrev ke:=List V→St→Hp→(St→Hp→Prop)→Prop
def PG(X:Cx)(target:Expr)(t:TG):Prop:=
 ∀(aa:List (Addr×Obj)) (s:Shared) (σ : St) (H:Hp) (v:V) (u:Value) (Q:St→Hp→Prop),ag X aa σ H s→bc v u→t v σ H Q→
  ax (au X.prog X.w) X.A (assign target X.env u) (fun _ s'=>∃σ' H',ag X aa σ' H' s'∧Q σ' H') X.xe s
def q5(X:Cx)(ts:List Expr)(t:ke):Prop:=
 ∀(aa:List (Addr×Obj)) (s:Shared) (σ : St) (H:Hp) (vs:List V) (us:List Value) (Q:St→Hp→Prop),ag X aa σ H s→aP vs us→t vs σ H Q→
  ax (au X.prog X.w) X.A (assignInOrder ((nH ts X.env).map (·.2)) us) (fun _ s'=>∃σ' H',ag X aa σ' H' s'∧Q σ' H') X.xe s
abbrev sf:=V→V→V→Hp→(Hp→Prop)→Prop
def ph(X:Cx)(t:sf):Prop:=
 ∀(aa:List (Addr×Obj)) (s:Shared) (σ : St) (H:Hp) (o i v:V) (ov iv u:Value) (Q:Hp→Prop),ag X aa σ H s→bc o ov→bc i iv→bc v u→t o i v H Q→
  ax (au X.prog X.w) X.A (setItem ov iv u) (fun _ s'=>∃H',ag X aa σ H' s'∧Q H') X.xe s
abbrev vS:=V→V→Hp→VK→Prop
def G3(X:Cx)(op:FJ)(t:vS):Prop:=
 ∀(aa:List (Addr×Obj)) (s:Shared) (σ : St) (H:Hp) (x y:V) (v u:Value) (Q:VK),ag X aa σ H s→bc x v→bc y u→t x y H Q→
  ax (au X.prog X.w) X.A (inplaceOp op v u) (EP X aa σ Q) X.xe s
section
variable{X:Cx}{pos:Pos}
def qY(i:Nat):TG:=fun v σ H Q=>Q (σ.set i (some v)) H
theorem kW{i:Nat}{x:Str}(hN:X.N.Nodup)(hi:X.N[i]?=some x)(hx:tD X.env.scope x)(hf:X.fn x=true∨X.env.scope.names.lookup x=some .local:=by first|exact .inl rfl|exact .inr rfl|assumption):PG X (.Name x pos) (qY i):=by
 intro aa s σ H v u Q I r h;exact Qf (sY I hN hi hx r (fun s' I'=>⟨_,H,I',h⟩) hf)
def xm:ke:=fun vs σ H Q=>vs=[]∧Q σ H
def qV(t:TG)(u:ke):ke:=fun vs σ H Q=>∃v r,vs=v::r∧t v σ H fun σ' H'=>u r σ' H' Q
theorem Nl:q5 X [] xm:=by
 intro aa s σ H vs us Q I r h;obtain⟨e,h⟩:=h;subst e;cases r;exact assignInOrder_nil ⟨σ,H,I,h⟩
theorem yO{e:Expr}{es:List Expr}{t:TG}{u:ke}(h1:PG X e t)(h2:q5 X es u)
  (hs:(nH (e::es) X.env).map (·.2)=assign e X.env::(nH es X.env).map (·.2):=by rfl):q5 X (e::es) (qV t u):=by
 intro aa s σ H vs us Q I r h;obtain⟨v,vr,e1,h⟩:=h;subst e1;cases r with
 |cons r rr=>
  rw[hs];refine assignInOrder_cons (aK (h1 aa s σ H _ _ _ I r h) fun _ s1 aA=>?_);obtain⟨σ1,H1,I1,q1⟩:=aA;exact h2 aa s1 σ1 H1 _ _ Q I1 rr q1
def ug(K:aq)(n:Nat)(t:ke):TG:=fun v σ H Q=>∃a xs,v=.ref a∧di K H a xs∧xs.length=n∧t xs σ H Q
theorem GQ{es:List Expr}{k:Nat}{t:ke}{n:Nat}(hc:X.calm=true)(h:q5 X es t)
  (hn:(nH es X.env).length=n:=by rfl) (hst:(nH es X.env).findIdx? (·.1)=none:=by rfl):PG X (.Tuple es k pos) (ug X.K n t):=by
 intro aa s σ H v u Q I r hw;obtain⟨a,xs,e1,hq,hl,hw⟩:=hw;subst e1;cases r;obtain⟨its,rv,ht,hz⟩:=I.tuple hq;refine assign_Tuple_tuple (I.ok.hd hc) ht (by simp[hn,←hl,rv.length]) hst fun h' hx=>?_;have I1:ag X aa σ H {s with heap:=h'}:=I.kept (t':=s.toks) fun b o e=>hx b o (cC (bC e)) e;exact h aa _ σ H xs _ Q I1 (by simpa using rv) hw
def Lk(to ti:TE)(t:sf):TG:=fun v σ H Q=>to σ H fun o H1=>ti σ H1 fun i H2=>t o i v H2 fun H3=>Q σ H3
theorem tV{o i:Expr}{to ti:TE}{t:sf}(ho:PE X o to)(hi:PE X i ti)(hs:ph X t)
  (ha:∀v,assign (.Subscript o i pos) X.env v=(do
   let ov ←holding [v] (eval o X.env)
   let iv ←holding [v,ov] (eval i X.env)
   standAt pos
   holding [v,ov,iv] (setItem ov iv v)
   release [v,ov,iv] []):=by intro _;rfl):PG X (.Subscript o i pos) (Lk to ti t):=by
 intro aa s σ H v u Q I r h;rw[ha];refine aE (jW (aK (ho aa s σ H _ I h) fun ov s1 aA=>?_));obtain⟨x,H1,I1,r1,q1⟩:=aA;refine aE (jW (aK (hi aa s1 σ H1 _ I1 q1) fun iv s2 aA=>?_));obtain⟨y,H2,I2,r2,q2⟩:=aA;refine aE (kO (aE (jW (aK (hs aa s2 σ H2 x y v ov iv u _ I2 r1 r2 r q2) fun _ s3 aA=>?_))));obtain⟨H3,I3,q3⟩:=aA;exact wpAny_release ⟨σ,H3,I3,q3⟩
def Ei(te:TE)(g:TG):TS:=fun D σ H=>te σ H fun x H1=>g x σ H1 D.nx
theorem tm{tg e:Expr}{te:TE}{g:TG}(he:PE X e te)(hg:PG X tg g)(hs:swapsWithSole [tg] e pos.line X.env=pure false:=by rfl)(hw:swappedStores [tg] e X.env=pure none:=by rfl)
  (h1:(nH [tg] X.env).map (·.2)=[assign tg X.env]:=by rfl):PS X (.Assign [tg] e pos) (Ei te g):=by
 intro aa s σ H D I h;refine wpAny_Assign_stores (aK (he aa s σ H _ I h) fun v s1 aA=>?_) hs hw;obtain⟨x,H1,I1,r1,q1⟩:=aA;rw[h1];exact aK (hg aa s1 σ H1 x v _ I1 r1 q1) fun _ s2 q=>q
theorem aW{i:Nat}{x:Str}{e:Expr}{te:TE}{pos':Pos}(hN:X.N.Nodup)(hi:X.N[i]?=some x)(hx:tD X.env.scope x)(he:PE X e te)(hs:AJ e (some (.Name x pos')) pos.line X.env=pure false:=by rfl)(hf:X.fn x=true∨X.env.scope.names.lookup x=some .local:=by first|exact .inl rfl|exact .inr rfl|assumption):
  PS X (.Assign [.Name x pos'] e pos) (Ei te (qY i)):=by
 intro aa s σ H D I h;refine wpAny_Assign_Name (aK (he aa s σ H _ I h) fun v s1 aA=>?_) hs;obtain⟨y,H1,I1,r1,q1⟩:=aA;exact sY I1 hN hi hx r1 (fun s2 I2=>⟨_,H1,I2,q1⟩) hf
def HZ(i:Nat)(te:TE)(ti:vS):TS:=fun D σ H=>∃x,σ[i]?=some (some x)∧te σ H fun y H1=>ti x y H1 fun z H2=>D.nx (σ.set i (some z)) H2
theorem TF{i:Nat}{x:Str}{e:Expr}{te:TE}{op:FJ}{ti:vS}{pos':Pos}(hN:X.N.Nodup)(hi:X.N[i]?=some x)(hx:tD X.env.scope x)(he:PE X e te)(ho:G3 X op ti)(hf:X.fn x=true∨X.env.scope.names.lookup x=some .local:=by first|exact .inl rfl|exact .inr rfl|assumption):
  PS X (.AugAssign (.Name x pos') op e pos) (HZ i te ti):=by
 intro aa s σ H D I h;obtain⟨v,e1,h⟩:=h;obtain⟨m,hn,hl⟩:=I.loc;have vis:uT X.env.scope x:=by rcases hx with k|k;exact .inl k;exact .inr (.inl k)
 obtain⟨u,r,l⟩:=hl i x v hi e1 vis;refine wpAny_AugAssign_Name ?_;have go:ax (au X.prog X.w) X.A (eval e X.env) (fun w s₂=>ax (au X.prog X.w) X.A (inplaceOp op u w) (fun r s₃=>ax (au X.prog X.w) X.A (Gf X.env x r) (fun _=>SP X aa D .next) X.xe s₃) X.xe s₂) X.xe s:=by
  refine aK (he aa s σ H _ I h) fun w s1 ⟨y,H1,I1,r1,q1⟩=>?_;refine aK (ho aa s1 σ H1 v y u w _ I1 r r1 q1) fun z s2 ⟨zv,H2,I2,r2,q2⟩=>?_;exact sY I2 hN hi hx r2 (fun s3 I3=>⟨_,H2,I3,q2⟩) hf
 rcases l with⟨hk,hm⟩|⟨hk,c,hc,hcell⟩
 ·exact Gi I.ok.kind hk hn hm go
 ·rcases hk with hk|hk
  ·exact Qi I.ok.kind hk hc hcell go
  ·rcases hx with k|k
   ·have:X.env.scope.names.lookup x=some .free:=hk;rw[k]at this;cases this
   ·have:X.env.scope.names.lookup x=some .free:=hk;rw[k]at this;cases this
def yQ(f:Int→Int→Int):vS:=fun x y H Q=>∃i j,x=.int i∧y=.int j∧Q (.int (f i j)) H
theorem ZO:G3 X .Add (yQ fun i j=>i+j):=by
 intro aa s σ H x y v u Q I r1 r2 h;obtain⟨i,j,e1,e2,q⟩:=h;subst e1;subst e2;obtain⟨t,rfl⟩:=r1;obtain⟨t',rfl⟩:=r2;exact iadd_int ⟨.int _,H,I.tok _,⟨_,rfl⟩,q⟩
end
section
variable{X:Cx}{pos:Pos}
def U5(c:TT)(tb:TS):TS:=fun D σ H=>∃W:Nat→St→Hp→Prop,(∃m,W m σ H)∧∀m σ H,W m σ H→
 c σ H fun b H1=>if b=true then∃N:St→Hp→Prop,(∀σ' H',N σ' H'→∃m',m'<m∧W m' σ' H')∧tb {D with nx:=N,ct:=N,bk:=D.nx} σ H1 else D.nx σ H1
theorem Hr{c:Expr}{body:List aw}{tc:TT}{tb:TS}(hp:PassesOwn (au X.prog X.w) X.A X.env X.xe)(hc:PT X c tc)(hb:fq X body tb):PS X (.While c body [] pos) (U5 tc tb):=by
 intro aa s σ H D I h;obtain⟨W,⟨m0,w0⟩,turn⟩:=h;refine wpAny_While (codeAny_whileLoop (fun n s'=>∃σ' H',ag X aa σ' H' s'∧W n σ' H') ?_ m0 ⟨σ,H,I,w0⟩);rintro n s1 ⟨σ1,H1,I1,w1⟩;refine qd hp (aK (hc aa s1 σ1 H1 _ I1 (turn n σ1 H1 w1)) fun b s2 aA=>?_);obtain⟨H2,I2,q2⟩:=aA;cases b with
 |true=>
  obtain⟨N,hN,q2⟩:=q2;rw[if_pos rfl];refine qd hp (aK (hb aa s2 σ1 H2 _ I2 q2) fun f s3 q3=>?_);cases f with
  |next=>
   obtain⟨σ3,H3,I3,n3⟩:=q3;obtain⟨m',hm,w3⟩:=hN σ3 H3 n3;exact⟨m',hm,σ3,H3,I3,w3⟩
  |cont=>
   obtain⟨σ3,H3,I3,n3⟩:=q3;obtain⟨m',hm,w3⟩:=hN σ3 H3 n3;exact⟨m',hm,σ3,H3,I3,w3⟩
  |brk=>exact q3
  |ret v=>exact q3
 |false=>
  rw[if_neg bK];exact vQ ⟨σ1,H2,I2,q2⟩
end
structure It where
 go:Nat→Hp→Prop
 yld:Nat→Hp→V→Hp→Prop
 stop:Nat→Hp→Prop
def cX(X:Cx)(aa:List (Addr×Obj))(H:Hp)(b:Addr):Prop:=
 H b=none∧b≠X.env.locals∧b∉X.fs∧(b∈X.ex∨X.s₀.heap.objs.size≤b)∧(∀x c,X.env.cells.lookup x=some c→c≠b)∧∀p∈X.pn++aa,p.1≠b
theorem ag.fpOk{X:Cx}{aa:List (Addr×Obj)}{σ : St}{H H':Hp}{s:Shared}{b:Addr}(I:ag X aa σ H s)(hb:s.heap.objs.size≤b)(hn:H' b=none):cX X aa H' b:=by
 refine⟨hn,jR (dq I.lt hb),I.nofs hb,.inr (cB I.sz hb),fun x c e z=>?_,fun p hp z=>?_⟩
 ·obtain⟨v,q⟩:=I.cell x c e;exact absurd (dq q.lt (by rw[z];exact hb)) (fA _)
 ·exact absurd (dq (bC (I.pin p hp).1) (by rw[z];exact hb)) (fA _)
structure qG(P:aG)(w:av)(K:aq)(tg:Expr)(J:It)(fp:List Addr)(it:Addr)(tn:Nat→Heap→Prop):Prop where
 mem:it∈fp
 obj:∀i h,tn i h→∀b∈fp,∃o,h.get? b=some o∧∀v,o.data≠.cell v
 keep:∀i h h',tn i h→(∀b∈fp,∀o,h.get? b=some o→h'.get? b=some o)→tn i h'
 item:∀(X:Cx),X.prog=P→X.w=w→X.K=K→X.calm=true→∀(i:Nat) (aa:List (Addr×Obj)) (s:Shared) (σ : St) (H:Hp) (E:Value→Shared→Prop),ag X aa σ H s→(∀b∈fp,cX X aa H b)→tn i s.heap→J.go i H→
  ax (au P w) X.A (pyNext (.ref it)) (fun r s1=>∃u,r=some u∧
   ax (au P w) X.A (rS tg (.ref it) u) (fun _ s2=>∃x H',ag X aa σ H' s2∧bc x u∧J.yld i H x H'∧tn (i+1) s2.heap∧∀b∈fp,H' b=none) E s1) E s
 done:∀(X:Cx),X.prog=P→X.w=w→X.K=K→X.calm=true→∀(i:Nat) (aa:List (Addr×Obj)) (s:Shared) (σ : St) (H:Hp) (E:Value→Shared→Prop),ag X aa σ H s→(∀b∈fp,cX X aa H b)→tn i s.heap→J.stop i H→
  ax (au P w) X.A (pyNext (.ref it)) (fun r s1=>r=none∧ag X aa σ H s1) E s
 self:∀(A:bH) (i:Nat) (s:Shared) (Q:Value→Shared→Prop) (E:Value→Shared→Prop),tn i s.heap→Q (.ref it) s→ax (au P w) A (pyIter (.ref it)) Q E s
abbrev TI:=St→Hp→(It→Hp→Prop)→Prop
def sL(X:Cx)(aa:List (Addr×Obj))(σ : St)(tg:Expr)(R:It→Hp→Prop)(itv:Value)(s2:Shared):Prop:=
 ∃(it:Addr) (fp:List Addr) (tn:Nat→Heap→Prop) (J:It) (H':Hp),itv=.ref it∧ag X aa σ H' s2∧qG X.prog X.w X.K tg J fp it tn∧tn 0 s2.heap∧(∀b∈fp,cX X aa H' b)∧R J H'
def PI(X:Cx)(tg iter:Expr)(wi:TI):Prop:=
 ∀(aa:List (Addr×Obj)) (s:Shared) (σ : St) (H:Hp) (R:It→Hp→Prop),ag X aa σ H s→wi σ H R→
  ax (au X.prog X.w) X.A (eval iter X.env) (fun v s1=>ax (au X.prog X.w) X.A (pyIter v) (sL X aa σ tg R) X.xe s1) X.xe s
theorem Du{M:jq}{A:bH}{E:Value→Shared→Prop}{s:Shared}{tg:Expr}{it:Addr}{u:Value}{o:Obj}{n:String}{vs:Array Value}{Q:Unit→Shared→Prop}(ho:s.heap.get? it=some o)(hc:o.cls=.type n)(hd:o.data=.fields vs)
  (hn:["enumerate","zip","dict_itemiterator","dict_reverseitemiterator","odict_iterator","itertools.zip_longest","itertools.pairwise"].contains n=false) (hQ:Q () s):ax M A (rS tg (.ref it) u) Q E s:=by
 unfold rS;cases tg<;>first
  |exact wpAny_pure hQ
  |(cases u<;>first
    |exact wpAny_pure hQ
    |(refine aE (wpAny_load ho ?_);rw[hc,hd];show ax M A (if(["enumerate","zip","dict_itemiterator","dict_reverseitemiterator","odict_iterator","itertools.zip_longest","itertools.pairwise"].contains n&&vs[0]? == some (rawInt _))=true then _ else _) Q E s;rw[if_neg (by intro h;rw[hn,pJ]at h;cases h)];exact wpAny_pure hQ))
def kx(K:aq)(a:Addr):It:=
 ⟨fun i H=>∃xs x,ay K H a xs∧xs[i]?=some x,fun i H x H'=>H'=H∧∀xs,ay K H a xs→xs[i]?=some x,fun i H=>∃xs,ay K H a xs∧xs.length≤i⟩
def oX(lo:Int)(n:Nat):It:=⟨fun i _=>i<n,fun i H x H'=>H'=H∧x=.int (lo+i),fun i _=>n≤i⟩
theorem ab9{P:aG}{w:av}{K:aq}{tg:Expr}(a it:Addr):qG P w K tg (kx K a) [it] it (fun i h=>h.IsListIter it a i) where
 mem:=by simp
 obj:=fun i h st b hb=>by
  have e:b=it:=by simpa using hb
  subst e;obtain⟨o,e,c,d⟩:=st;exact⟨o,e,fun v z=>by rw[d]at z;cases z⟩
 keep:=fun i h h' st k=>st.at fun o e=>k it (by simp) o e
 item:=by
  intro X hP hw hK hc i aa s σ H E I hf st hg;subst hP hw hK;obtain⟨xs,x,hq,hx⟩:=hg;obtain⟨its,rv,p,hz⟩:=I.list hq;obtain⟨u,hu,ru⟩:=rv.get hx;obtain⟨f0,f1,f2,f3,f4,f5⟩:=hf it (by simp);refine wpAny_pyNext_list_item st p.isList (x:=u) (by simpa using hu) fun h' st' sb=>?_;have I1:ag X aa σ H {s with heap:=h'}:=I.turned (t':=s.toks) (fun b o hb e=>(sb.2 b hb).trans e) f0 f1 f3 f4 f5;obtain⟨o,e,c,d⟩:=id st';exact⟨u,rfl,Du (s:={s with heap:=h'}) e c d (by decide) ⟨x,H,I1,ru,⟨rfl,fun ys hy=>by rw[I.list_inj hy hq];exact hx⟩,st',fun b hb=>(hf b hb).1⟩⟩
 done:=by
  intro X hP hw hK hc i aa s σ H E I hf st hg;subst hP hw hK;obtain⟨xs,hq,hx⟩:=hg;obtain⟨its,rv,p,hz⟩:=I.list hq;obtain⟨f0,f1,f2,f3,f4,f5⟩:=hf it (by simp);have hl:=rv.length;exact wpAny_pyNext_list_end (I.ok.hd hc) st p.isList (by simp;omega) fun h' eb=>⟨rfl,I.turned (t':=s.toks) (fun b o hb e=>eb b o hb e) f0 f1 f3 f4 f5⟩
 self:=fun _ _ _ _ _ st h=>wpAny_pyIter_listiter st h
theorem WQ{P:aG}{w:av}{K:aq}{tg:Expr}(it:Addr)(lo:Int)(n:Nat):qG P w K tg (oX lo n) [it] it (fun i h=>IsRangeIter h it (lo+(i:Nat)*1) ((n:Int)-(i:Nat)) 1) where
 mem:=by simp
 obj:=fun i h st b hb=>by
  have e:b=it:=by simpa using hb
  subst e;exact⟨_,st,fun v z=>by
   have z':iW _=Data.cell v:=z;cases z'⟩
 keep:=fun i h h' st k=>k it (by simp) _ st
 item:=by
  intro X hP hw hK hc i aa s σ H E I hf st hg;subst hP hw hK;obtain⟨f0,f1,f2,f3,f4,f5⟩:=hf it (by simp);have W:=Walks.range (prog:=X.prog) (w:=X.w) (I.ok.hd hc) it lo 1 n;refine W.item i s _ _ hg st fun v h' tk hv st' kk=>?_;obtain⟨t,rfl⟩:=hv;have I1:ag X aa σ H {s with heap:=h',toks:=tk}:=I.turned (fun b o hb e=>kk b o (by simpa using hb) e) f0 f1 f3 f4 f5;refine⟨_,rfl,Du (s:={s with heap:=h',toks:=tk}) (n:="range_iterator") st' rfl rfl (by decide) ⟨.int (lo+i),H,I1,⟨t,?_⟩,⟨rfl,rfl⟩,st',fun b hb=>(hf b hb).1⟩⟩;rw[On]
 done:=by
  intro X hP hw hK hc i aa s σ H E I hf st hg;subst hP hw hK;obtain⟨f0,f1,f2,f3,f4,f5⟩:=hf it (by simp);exact wpAny_pyNext_range_end (I.ok.hd hc) st (by have:n≤i:=hg;omega) fun h' eb=>⟨rfl,I.turned (t':=s.toks) (fun b o hb e=>eb b o hb e) f0 f1 f3 f4 f5⟩
 self:=fun _ _ _ _ _ st h=>wpAny_pyIter_rangeiter st h
section
variable{X:Cx}{tg:Expr}
def Ea(K:aq)(tl:TE):TI:=fun σ H R=>tl σ H fun x H1=>∃a,x=.ref a∧(∃xs,ay K H1 a xs)∧R (kx K a) H1
theorem Vn{l:Expr}{tl:TE}(hl:PE X l tl):PI X tg l (Ea X.K tl):=by
 intro aa s σ H R I h;refine aK (hl aa s σ H _ I h) fun v s1 ⟨x,H1,I1,r1,q1⟩=>?_;obtain⟨a,e,⟨xs,hq⟩,q⟩:=q1;subst e;cases r1;obtain⟨its,rv,p,hz⟩:=I1.list hq;refine Qo p.isList ?_;refine⟨s1.heap.objs.size,[s1.heap.objs.size],_,_,H1,rfl,I1.kept (t':=s1.toks) fun b o e=>dL _ e,ab9 a _,⟨_,iA _ rfl,rfl,rfl⟩,fun b hb=>?_,q⟩;have e:b=s1.heap.objs.size:=by simpa using hb
 subst e;exact I1.fpOk (bv _) (I1.hok.fresh (bv _))
theorem Tl{aa:List (Addr×Obj)}{σ : St}{H:Hp}{s:Shared}{R:It→Hp→Prop}{E:Value→Shared→Prop}{lo hi:Int}{t u v:Tok}{tk:Nat}(I:ag X aa σ H s)(h1:-(2^62)≤lo)(h2:lo<2^62)(h3:-(2^62)≤hi)(h4:hi<2^62)
  (q:R (oX lo (hi-lo).toNat) H):ax (au X.prog X.w) X.A (pyIter (.ref s.heap.objs.size)) (sL X aa σ tg R) E {s with heap:=s.heap.push {cls:=.type "range",data:=.fields #[.int lo t,.int hi u,.int 1 v]},toks:=tk}:=by
 refine wpAny_pyIter_range (IsRange.new ..) (small_one h1 h2 h3 h4) ?_;have I1:ag X aa σ H {s with heap:=s.heap.push {cls:=.type "range",data:=.fields #[.int lo t,.int hi u,.int 1 v]},toks:=tk}:=I.kept fun b o e=>dL _ e;refine⟨(s.heap.push {cls:=.type "range",data:=.fields #[.int lo t,.int hi u,.int 1 v]}).objs.size,[(s.heap.push {cls:=.type "range",data:=.fields #[.int lo t,.int hi u,.int 1 v]}).objs.size],_,_,H,rfl,
  I1.kept (t':=tk) fun b o e=>dL _ e,WQ _ lo (hi-lo).toNat,?_,fun b hb=>?_,q⟩
 ·have e1:lo+((0:Nat):Int)*1=lo:=by simp
  have e2:(((hi-lo).toNat:Nat):Int)-((0:Nat):Int)=acO lo hi 1:=by rw[rangeSize_one];split<;>omega
  show IsRangeIter _ _ (lo+((0:Nat):Int)*1) ((((hi-lo).toNat:Nat):Int)-((0:Nat):Int)) 1;rw[e1,e2];exact iA _ rfl
 ·have e:b=(s.heap.push {cls:=.type "range",data:=.fields #[.int lo t,.int hi u,.int 1 v]}).objs.size:=by simpa using hb
  subst e;exact I1.fpOk (bv _) (I1.hok.fresh (bv _))
def Nb(ta:TA):TI:=fun σ H R=>ta σ H fun vs H1=>∃j:Int,vs=[.int j]∧-(2^62)≤j∧j<2^62∧R (oX 0 j.toNat) H1
theorem Xv{a:Expr}{ta:TA}{p pos:Pos}(hg:Gl X "range")(hm:X.mg "range" = none)(ha:PA X [a] ta)(hs:bz [a] X.env=[(false,eval a X.env)]:=by rfl):PI X tg (.Call (.Name "range" p) [a] [] pos) (Nb ta):=by
 intro aa s σ H R I h;refine Call_ (qf I hg hm boot_range (Aq (aK (ha pos aa s σ H _ I h) fun us s1 aA=>?_) hs rfl));obtain⟨vs,H1,I1,r1,q1⟩:=aA;obtain⟨j,e,q1,q2,q⟩:=q1;subst e;cases r1 with
 |cons r rr=>
  cases rr;obtain⟨t,rfl⟩:=r;exact call_range_1 (Tl I1 (by omega) (by omega) q1 q2 (by simpa using q))
def Iy(wi:TI)(g:TG)(tb:TS):TS:=fun D σ H=>wi σ H fun J H1=>∃W:Nat→Nat→St→Hp→Prop,(∃m,W 0 m σ H1)∧∀i m σ H,W i m σ H→
 (J.stop i H∧D.nx σ H)∨(J.go i H∧∃N:St→Hp→Prop,(∀σ' H',N σ' H'→∃m',m'<m∧W (i+1) m' σ' H')∧∀x H',J.yld i H x H'→g x σ H' fun σ2 H2=>tb {D with nx:=N,ct:=N,bk:=D.nx} σ2 H2)
def oG(fp:List Addr)(h:Heap):List (Addr×Obj):=fp.filterMap fun b=>(h.get? b).map fun o=>(b,o)
theorem mQ{fp:List Addr}{h:Heap}{b:Addr}{o:Obj}(hb:b∈fp)(e:h.get? b=some o):(b,o)∈oG fp h:=fu.mpr ⟨b,hb,by rw[e];rfl⟩
theorem SF{fp:List Addr}{h:Heap}{p:Addr×Obj}(hp:p∈oG fp h):p.1∈fp∧h.get? p.1=some p.2:=by
 obtain⟨b,hb,e⟩:=fu.mp hp;cases q:h.get? b with
 |none=>rw[q]at e;cases e
 |some o=>
  rw[q]at e;have e':(b,o)=p:=cP e;subst e';exact⟨hb,q⟩
theorem ag.pinned{aa:List (Addr×Obj)}{σ : St}{H:Hp}{s:Shared}{fp:List Addr}(I:ag X aa σ H s)(hf:∀b∈fp,cX X aa H b)(ho:∀b∈fp,∃o,s.heap.get? b=some o∧∀v,o.data≠.cell v):ag X (aa++oG fp s.heap) σ H s:=
 I.pins_of fun p hp=>(jQ.mp hp).elim (fun z=>I.pin p (bZ _ z)) fun z=>by
  obtain⟨hb,e⟩:=SF z;obtain⟨f0,f1,f2,_⟩:=hf p.1 hb;obtain⟨o,e',d⟩:=ho p.1 hb;rw[e]at e';cases e';exact⟨e,f0,f1,f2,d⟩
theorem ag.unpinned{aa pl:List (Addr×Obj)}{σ : St}{H:Hp}{s:Shared}(I:ag X (aa++pl) σ H s):ag X aa σ H s:=I.pins_of fun p hp=>I.pin p (bZ _ (lV _ hp))
theorem uJ{iter:Expr}{body:List aw}{wi:TI}{g:TG}{tb:TS}{pos:Pos}(hp:PassesOwn (au X.prog X.w) X.A X.env X.xe)(hc:X.calm=true)(hi:PI X tg iter wi)(hg:PG X tg g)(hb:fq X body tb)
  (hs:∀x,vK iter X.env x=pure x:=by intro _;rfl):PS X (.For tg iter body [] pos) (Iy wi g tb):=by
 intro aa s σ H D I h;refine wpAny_For (aK (hi aa s σ H _ I h) fun v s1 h1=>aK h1 fun itv s2 h2=>?_) hs;obtain⟨it,fp,tn,J,H2,e,I2,T,st2,f2,W,⟨m0,w0⟩,turn⟩:=h2;subst e;have stat:∀{H':Hp},(∀b∈fp,H' b=none)→∀b∈fp,cX X aa H' b:=fun hn b hb=>⟨hn b hb,(f2 b hb).2⟩;refine codeAny_forLoop_any (fun n s'=>∃i σ' H',ag X aa σ' H' s'∧tn i s'.heap∧(∀b∈fp,H' b=none)∧W i n σ' H') ?_ m0 ⟨0,σ,H2,I2,st2,fun b hb=>(f2 b hb).1,w0⟩;rintro n s3 ⟨i,σ3,H3,I3,st3,fr3,w3⟩;rcases turn i n σ3 H3 w3 with⟨stop,qn⟩|⟨go,N,hN,step⟩
 ·refine qd hp (aK (T.done X rfl rfl rfl hc i aa s3 σ3 H3 X.xe I3 (stat fr3) st3 stop) fun r s4 ⟨hr,I4⟩=>?_);subst hr;exact vQ ⟨σ3,H3,I4,qn⟩
 ·refine qd hp (aK (T.item X rfl rfl rfl hc i aa s3 σ3 H3 X.xe I3 (stat fr3) st3 go) fun r s4 ⟨u,hr,h4⟩=>?_);subst hr;refine qd hp (aK h4 fun _ s5 aA=>?_);obtain⟨x,H5,I5,r5,y5,st5,fr5⟩:=aA;have I5':=I5.pinned (stat fr5) (T.obj _ _ st5);refine qd hp (aK (hg _ s5 σ3 H5 x u _ I5' r5 (step x H5 y5)) fun _ s6 aA=>?_);obtain⟨σ6,H6,I6,q6⟩:=aA;refine qd hp (aK (hb _ s6 σ6 H6 _ I6 q6) fun f s7 q7=>?_);have again:∀{σ7:St} {H7:Hp},ag X (aa++oG fp s5.heap) σ7 H7 s7→N σ7 H7→∃m,m<n∧∃i σ' H',ag X aa σ' H' s7∧tn i s7.heap∧(∀b∈fp,H' b=none)∧W i m σ' H':=fun{σ7 H7} I7 n7=>by
   obtain⟨m',hm,w7⟩:=hN σ7 H7 n7;refine⟨m',hm,i+1,σ7,H7,I7.unpinned,T.keep _ _ _ st5 fun b hb o e=>(I7.pin (b,o) (bZ _ (bZ _ (mQ hb e)))).1,fun b hb=>?_,w7⟩;obtain⟨o,e,d⟩:=T.obj _ _ st5 b hb;exact(I7.pin (b,o) (bZ _ (bZ _ (mQ hb e)))).2.1
  cases f with
  |next=>obtain⟨σ7,H7,I7,n7⟩:=q7;exact again I7 n7
  |cont=>obtain⟨σ7,H7,I7,n7⟩:=q7;exact again I7 n7
  |brk=>obtain⟨σ7,H7,I7,q7⟩:=q7;exact⟨σ7,H7,I7.unpinned,q7⟩
  |ret v=>obtain⟨x7,σ7,H7,I7,r7,q7⟩:=q7;exact⟨x7,σ7,H7,I7.unpinned,r7,q7⟩
end
theorem DU{K:aq}{a:Addr}{xs:List V}{g:TG}{tb:TS}{D:fi}{σ : St}{H:Hp}(Pv:Nat→St→Hp→Prop)(h0:Pv 0 σ H)(hl:∀i σ H,i≤xs.length→Pv i σ H→ay K H a xs)
  (hs:∀i x σ H,xs[i]?=some x→Pv i σ H→g x σ H fun σ2 H2=>tb {D with nx:=Pv (i+1),ct:=Pv (i+1),bk:=D.nx} σ2 H2) (hd:∀σ H,Pv xs.length σ H→D.nx σ H) :
  ∃W:Nat→Nat→St→Hp→Prop,(∃m,W 0 m σ H)∧∀i m σ H,W i m σ H→
   ((kx K a).stop i H∧D.nx σ H)∨((kx K a).go i H∧∃N:St→Hp→Prop,(∀σ' H',N σ' H'→∃m',m'<m∧W (i+1) m' σ' H')∧∀x H',(kx K a).yld i H x H'→g x σ H' fun σ2 H2=>tb {D with nx:=N,ct:=N,bk:=D.nx} σ2 H2):=by
 refine⟨fun i m σ H=>m=xs.length-i∧i≤xs.length∧Pv i σ H,⟨xs.length,by simp,fe _,h0⟩,?_⟩;rintro i m σ H ⟨rfl,hi,p⟩;have q:=hl i σ H hi p;by_cases hlt:i<xs.length
 ·refine .inr ⟨⟨xs,xs[i],q,by simp[hlt]⟩,Pv (i+1),fun σ' H' p'=>⟨xs.length-(i+1),by omega,rfl,hlt,p'⟩,fun x H' y=>?_⟩;obtain⟨e,y⟩:=y;subst e;exact hs i x σ _ (y xs q) p
 ·have e:i=xs.length:=by omega
  subst e;exact .inl ⟨⟨xs,q,bv _⟩,hd σ H p⟩
theorem acv{lo:Int}{n:Nat}{g:TG}{tb:TS}{D:fi}{σ : St}{H:Hp}(Pv:Nat→St→Hp→Prop)(h0:Pv 0 σ H)
  (hs:∀i σ H,i<n→Pv i σ H→g (.int (lo+i)) σ H fun σ2 H2=>tb {D with nx:=Pv (i+1),ct:=Pv (i+1),bk:=D.nx} σ2 H2) (hd:∀σ H,Pv n σ H→D.nx σ H) :
  ∃W:Nat→Nat→St→Hp→Prop,(∃m,W 0 m σ H)∧∀i m σ H,W i m σ H→
   ((oX lo n).stop i H∧D.nx σ H)∨((oX lo n).go i H∧∃N:St→Hp→Prop,(∀σ' H',N σ' H'→∃m',m'<m∧W (i+1) m' σ' H')∧∀x H',(oX lo n).yld i H x H'→g x σ H' fun σ2 H2=>tb {D with nx:=N,ct:=N,bk:=D.nx} σ2 H2):=by
 refine⟨fun i m σ H=>m=n-i∧i≤n∧Pv i σ H,⟨n,by simp,fe _,h0⟩,?_⟩;rintro i m σ H ⟨rfl,hi,p⟩;by_cases hlt:i<n
 ·refine .inr ⟨hlt,Pv (i+1),fun σ' H' p'=>⟨n-(i+1),by omega,rfl,hlt,p'⟩,fun x H' y=>?_⟩;obtain⟨e,y⟩:=y;subst e y;exact hs i σ _ hlt p
 ·have e:i=n:=by omega
  subst e;exact .inl ⟨bv _,hd σ H p⟩
abbrev R2:=V→V→Hp→VK→Prop
def bE(X:Cx)(f:Value→Value→Sem Value)(r:R2):Prop:=
 ∀(aa:List (Addr×Obj)) (s:Shared) (σ : St) (H:Hp) (x y:V) (v u:Value) (Q:VK),ag X aa σ H s→bc x v→bc y u→r x y H Q→
  ax (au X.prog X.w) X.A (f v u) (EP X aa σ Q) X.xe s
def sx(X:Cx)(f:Value→Sem Value)(r:V→Hp→VK→Prop):Prop:=
 ∀(aa:List (Addr×Obj)) (s:Shared) (σ : St) (H:Hp) (x:V) (v:Value) (Q:VK),ag X aa σ H s→bc x v→r x H Q→
  ax (au X.prog X.w) X.A (f v) (EP X aa σ Q) X.xe s
def gu(X:Cx)(f:Value)(r:List V→Hp→VK→Prop):Prop:=
 ∀(aa:List (Addr×Obj)) (s:Shared) (σ : St) (H:Hp) (xs:List V) (us:List Value) (Q:VK),ag X aa σ H s→aP xs us→r xs H Q→
  ax (au X.prog X.w) X.A (call f us) (EP X aa σ Q) X.xe s
def Yl(X:Cx)(r:V→Hp→(Bool→Hp→Prop)→Prop):Prop:=
 ∀(aa:List (Addr×Obj)) (s:Shared) (σ : St) (H:Hp) (x:V) (v:Value) (Q:Bool→Hp→Prop),ag X aa σ H s→bc x v→r x H Q→
  ax (au X.prog X.w) X.A (truthy v) (TP X aa σ Q) X.xe s
def sV(r:R2)(ta tb:TE):TE:=fun σ H Q=>ta σ H fun x H1=>tb σ H1 fun y H2=>r x y H2 Q
def KU(r:V→Hp→VK→Prop)(ta:TE):TE:=fun σ H Q=>ta σ H fun x H1=>r x H1 Q
def rI(C:Int→Int→Prop)(g:Int→Int→V):R2:=fun x y H Q=>∃i j,x=.int i∧y=.int j∧C i j∧Q (g i j) H
def kq(g:Int→Int→V):R2:=fun x y H Q=>∃i j,x=.int i∧y=.int j∧Q (g i j) H
def rU(g:Int→V):V→Hp→VK→Prop:=fun x H Q=>∃i,x=.int i∧Q (g i) H
section
variable{X:Cx}{a b c:Expr}{ta tb tc:TE}{pos:Pos}
theorem A6(ha:PE X a ta)(hb:PE X b tb){aa:List (Addr×Obj)}{s:Shared}{σ : St}{H:Hp}{R:V→V→Hp→Prop}(I:ag X aa σ H s)
  (h:ta σ H fun x H1=>tb σ H1 fun y H2=>R x y H2) {Q:Value→Shared→Prop} {f:Value→Value→Sem Value}
  (hf:∀v u s2 x y H2,ag X aa σ H2 s2→bc x v→bc y u→R x y H2→ax (au X.prog X.w) X.A (f v u) Q X.xe s2) :
  ax (au X.prog X.w) X.A (eval a X.env) (fun v s₁=>ax (au X.prog X.w) X.A (eval b X.env) (fun u s₂=>ax (au X.prog X.w) X.A (f v u) Q X.xe s₂) X.xe s₁) X.xe s:=by
 refine aK (ha aa s σ H _ I h) fun v s1 ⟨x,H1,I1,r1,q1⟩=>?_;refine aK (hb aa s1 σ H1 _ I1 q1) fun u s2 ⟨y,H2,I2,r2,q2⟩=>?_;exact hf v u s2 x y H2 I2 r1 r2 q2
theorem be{op:FJ}{r:R2}(ho:bE X (eG op) r)(ha:PE X a ta)(hb:PE X b tb):PE X (.BinOp a op b pos) (sV r ta tb):=by
 intro aa s σ H Q I h;exact wpAny_BinOp (A6 ha hb I h fun v u s2 x y H2 I2 rx ry q=>ho aa s2 σ H2 x y v u Q I2 rx ry q)
theorem mK{op:UnaryOp}{r:V→Hp→VK→Prop}(ho:sx X (unaryOp op) r)(ha:PE X a ta):PE X (.UnaryOp op a pos) (KU r ta):=by
 intro aa s σ H Q I h;exact UnaryOp_ (aK (ha aa s σ H _ I h) fun v s1 ⟨x,H1,I1,r1,q1⟩=>ho aa s1 σ H1 x v Q I1 r1 q1)
theorem oA{f:Value→Value→Sem Value}{C:Int→Int→Prop}{g:Int→Int→Int}
  (rule:∀(i j:Int) (t u:Tok) (s:Shared) (Q:Value→Shared→Prop) (E:Value→Shared→Prop),C i j→Q (.int (g i j) s.toks) {s with toks:=s.toks+1}→ax (au X.prog X.w) X.A (f (.int i t) (.int j u)) Q E s) :
  bE X f (rI C fun i j=>.int (g i j)):=by
 intro aa s σ H x y v u Q I rx ry h;obtain⟨i,j,rfl,rfl,hc,q⟩:=h;obtain⟨t,rfl⟩:=rx;obtain⟨t',rfl⟩:=ry;exact rule i j t t' s _ _ hc ⟨.int (g i j),H,I.tok _,⟨_,rfl⟩,q⟩
theorem yf{f:Value→Value→Sem Value}{g:Int→Int→Int}
  (rule:∀(i j:Int) (t u:Tok) (s:Shared) (Q:Value→Shared→Prop) (E:Value→Shared→Prop),Q (.int (g i j) s.toks) {s with toks:=s.toks+1}→ax (au X.prog X.w) X.A (f (.int i t) (.int j u)) Q E s) :
  bE X f (kq fun i j=>.int (g i j)):=by
 intro aa s σ H x y v u Q I rx ry h;obtain⟨i,j,rfl,rfl,q⟩:=h;obtain⟨t,rfl⟩:=rx;obtain⟨t',rfl⟩:=ry;exact rule i j t t' s _ _ ⟨.int (g i j),H,I.tok _,⟨_,rfl⟩,q⟩
theorem vT{f:Value→Value→Sem Value}{g:Int→Int→Bool}
  (rule:∀(i j:Int) (t u:Tok) (s:Shared) (Q:Value→Shared→Prop) (E:Value→Shared→Prop),Q (.bool (g i j)) s→ax (au X.prog X.w) X.A (f (.int i t) (.int j u)) Q E s) :
  bE X f (kq fun i j=>.bl (g i j)):=by
 intro aa s σ H x y v u Q I rx ry h;obtain⟨i,j,rfl,rfl,q⟩:=h;obtain⟨t,rfl⟩:=rx;obtain⟨t',rfl⟩:=ry;exact rule i j t t' s _ _ ⟨.bl (g i j),H,I,rfl,q⟩
def Ky(i j:Int):Prop:=0≤j∧j≤1000000∧i.natAbs<2^64
theorem YZ(k:Nat):(0:Int)≤2^k:=by
 rw[two_pow_cast];exact Oq _
theorem abo:bE X (eG .Add) (kq fun i j=>.int (i+j)):=yf fun _ _ _ _ _ _ _ q=>add_int q
theorem QJ:bE X (eG .Sub) (kq fun i j=>.int (i-j)):=yf fun _ _ _ _ _ _ _ q=>sub_int q
theorem SJ:bE X (eG .Mod) (rI (fun _ j=>0<j) fun i j=>.int (i%j)):=oA fun i j _ _ _ _ _ hc q=>by
 have h1:(0:Int)<j:=hc;exact mod_int' (by omega) (by rw[Int.fmod_eq_emod_of_nonneg i (by omega)];exact q)
theorem TZ:bE X (eG .Pow) (rI Ky fun i j=>.int (i^j.toNat)):=oA fun _ _ _ _ _ _ _ hc q=>pow_int_small hc.1 hc.2.1 hc.2.2 q
theorem ZX:bE X (eG .RShift) (rI (fun _ j=>0≤j) fun i j=>.int (i/2^j.toNat)):=oA fun i j _ _ _ _ _ hc q=>
 rshift_int hc (by rw[Oi i (YZ _)];exact q)
theorem S7:bE X (eG .BitAnd) (kq fun i j=>.int (lR i j)):=yf fun _ _ _ _ _ _ _ q=>and_int q
theorem acl:bE X (eG .BitXor) (kq fun i j=>.int (gc i j)):=yf fun _ _ _ _ _ _ _ q=>xor_int q
theorem Wh{f:Value→Sem Value}{g:Int→Int}
  (rule:∀(i:Int) (t:Tok) (s:Shared) (Q:Value→Shared→Prop) (E:Value→Shared→Prop),Q (.int (g i) s.toks) {s with toks:=s.toks+1}→ax (au X.prog X.w) X.A (f (.int i t)) Q E s) :
  sx X f (rU fun i=>.int (g i)):=by
 intro aa s σ H x v Q I rx h;obtain⟨i,rfl,q⟩:=h;obtain⟨t,rfl⟩:=rx;exact rule i t s _ _ ⟨.int (g i),H,I.tok _,⟨_,rfl⟩,q⟩
theorem ack:sx X (unaryOp .USub) (rU fun i=>.int (-i)):=Wh fun _ _ _ _ _ q=>neg_int q
end
def HX:V→V→Bool
 |.non,.non=>true | .non,.int _=>true | .int _,.non=>true | .non,.bl _=>true | .bl _,.non=>true | .non,.str _=>true | .str _,.non=>true
 |.int _,.int _=>true | .bl _,.bl _=>true | .str _,.str _=>true | .byt _,.byt _=>true
 |.int _,.str _=>true | .str _,.int _=>true | .bl _,.str _=>true | .str _,.bl _=>true
 |_,_=>false
def BE:R2:=fun x y H Q=>HX x y=true∧Q (.bl (decide (x=y))) H
def BI:R2:=fun x y H Q=>HX x y=true∧Q (.bl (!decide (x=y))) H
theorem oZ{i j:Int}:decide (V.int i=V.int j)=(i==j):=by
 rw[rA];simp
theorem Ko{i j:Bool}:decide (V.bl i=V.bl j)=(i==j):=by
 rw[rA];simp
theorem JV{i j:Str}:decide (V.str i=V.str j)=(i==j):=by
 rw[rA];simp
theorem Hj{i j:Array UInt8}:decide (V.byt i=V.byt j)=(i.toList==j.toList):=by
 rw[rA];cases i;cases j;simp
section
variable{X:Cx}{a b c:Expr}{ta tb tc:TE}{pos:Pos}
theorem cF{aa:List (Addr×Obj)}{σ : St}{H:Hp}{s:Shared}{Q:VK}{k k':Bool}(I:ag X aa σ H s)(q:Q (.bl k) H)(e:k=k'):EP X aa σ Q (.bool k') s:=by
 subst e;exact⟨.bl k,H,I,rfl,q⟩
theorem br:bE X (dw .Eq) BE:=by
 intro aa s σ H x y v u Q I rx ry h;obtain⟨hs,q⟩:=h;cases x with
 |non=>
  cases rx;cases y with
  |non=>cases ry;exact ac6 (cF I q (by simp))
  |bl j=>cases ry;exact ac4 (cF I q (by simp))
  |int j=>obtain⟨t',rfl⟩:=ry;exact ac5 (cF I q (by simp))
  |str j=>obtain⟨t',rfl⟩:=ry;exact ac7 (cF I q (by simp))
  |_=>exact absurd (show false=true from hs) bK
 |bl i=>
  cases rx;cases y with
  |non=>cases ry;exact ac2 (cF I q (by simp))
  |bl j=>cases ry;exact eq_bool (cF I q Ko)
  |str j=>obtain⟨t',rfl⟩:=ry;exact acU (cF I q (by simp))
  |_=>exact absurd (show false=true from hs) bK
 |int i=>
  obtain⟨t,rfl⟩:=rx;cases y with
  |non=>cases ry;exact ac3 (cF I q (by simp))
  |int j=>obtain⟨t',rfl⟩:=ry;exact eq_int (cF I q oZ)
  |str j=>obtain⟨t',rfl⟩:=ry;exact acV (cF I q (by simp))
  |_=>exact absurd (show false=true from hs) bK
 |str i=>
  obtain⟨t,rfl⟩:=rx;cases y with
  |non=>cases ry;exact ac8 (cF I q (by simp))
  |bl j=>cases ry;exact acW (cF I q (by simp))
  |int j=>obtain⟨t',rfl⟩:=ry;exact acX (cF I q (by simp))
  |str j=>obtain⟨t',rfl⟩:=ry;exact eq_str (cF I q JV)
  |_=>exact absurd (show false=true from hs) bK
 |byt i=>
  obtain⟨t,rfl⟩:=rx;cases y with
  |byt j=>obtain⟨t',rfl⟩:=ry;exact PySem.W.eq_bytes (cF I q Hj)
  |_=>exact absurd (show false=true from hs) bK
 |_=>cases y<;>exact absurd (show false=true from hs) bK
theorem lG:bE X (dw .NotEq) BI:=by
 intro aa s σ H x y v u Q I rx ry h;obtain⟨hs,q⟩:=h;cases x with
 |non=>
  cases rx;cases y with
  |non=>cases ry;exact ade (cF I q (by simp))
  |bl j=>cases ry;exact adb (cF I q (by simp))
  |int j=>obtain⟨t',rfl⟩:=ry;exact adc (cF I q (by simp))
  |str j=>obtain⟨t',rfl⟩:=ry;exact adf (cF I q (by simp))
  |_=>exact absurd (show false=true from hs) bK
 |bl i=>
  cases rx;cases y with
  |non=>cases ry;exact ac9 (cF I q (by simp))
  |bl j=>cases ry;exact ne_bool (cF I q (congrArg not Ko))
  |str j=>obtain⟨t',rfl⟩:=ry;exact acY (cF I q (by simp))
  |_=>exact absurd (show false=true from hs) bK
 |int i=>
  obtain⟨t,rfl⟩:=rx;cases y with
  |non=>cases ry;exact ada (cF I q (by simp))
  |int j=>obtain⟨t',rfl⟩:=ry;exact ne_int (cF I q (congrArg not oZ))
  |str j=>obtain⟨t',rfl⟩:=ry;exact acZ (cF I q (by simp))
  |_=>exact absurd (show false=true from hs) bK
 |str i=>
  obtain⟨t,rfl⟩:=rx;cases y with
  |non=>cases ry;exact adg (cF I q (by simp))
  |bl j=>cases ry;exact ac0 (cF I q (by simp))
  |int j=>obtain⟨t',rfl⟩:=ry;exact ac1 (cF I q (by simp))
  |str j=>obtain⟨t',rfl⟩:=ry;exact ne_str (cF I q (congrArg not JV))
  |_=>exact absurd (show false=true from hs) bK
 |byt i=>
  obtain⟨t,rfl⟩:=rx;cases y with
  |byt j=>obtain⟨t',rfl⟩:=ry;exact PySem.W.ne_bytes (cF I q (congrArg not Hj))
  |_=>exact absurd (show false=true from hs) bK
 |_=>cases y<;>exact absurd (show false=true from hs) bK
theorem U0:bE X (dw .Lt) (kq fun i j=>.bl (decide (i<j))):=vT fun _ _ _ _ _ _ _ q=>lt_int q
theorem Wl:bE X (dw .LtE) (kq fun i j=>.bl (decide (i≤j))):=vT fun _ _ _ _ _ _ _ q=>le_int q
theorem abD:bE X (dw .Gt) (kq fun i j=>.bl (decide (j<i))):=vT fun _ _ _ _ _ _ _ q=>gt_int q
theorem T1:bE X (dw .GtE) (kq fun i j=>.bl (decide (j≤i))):=vT fun _ _ _ _ _ _ _ q=>ge_int q
theorem HK:bE X (dw .In) (fun x y H Q=>∃i j,x=.str i∧y=.str j∧Q (.bl (!(Fb j i 0 j.length 1).isEmpty)) H):=by
 intro aa s σ H x y v u Q I rx ry h;obtain⟨i,j,rfl,rfl,q⟩:=h;obtain⟨t,rfl⟩:=rx;obtain⟨t',rfl⟩:=ry;exact in_str (cF I q rfl)
theorem zb:bE X (dw .Is) (fun x y H Q=>y=.non∧Q (.bl (decide (x=.non))) H):=by
 intro aa s σ H x y v u Q I rx ry h;obtain⟨rfl,q⟩:=h;cases ry;refine is_none_gen (cF I q ?_);cases x<;>first
  |(cases rx;rfl)
  |(obtain⟨t,rfl⟩:=rx;rfl)
theorem L0:bE X (dw .IsNot) (fun x y H Q=>y=.non∧Q (.bl (!decide (x=.non))) H):=by
 intro aa s σ H x y v u Q I rx ry h;obtain⟨rfl,q⟩:=h;cases ry;refine isnot_none_gen (cF I q ?_);cases x<;>first
  |(cases rx;rfl)
  |(obtain⟨t,rfl⟩:=rx;rfl)
theorem aD(b:Expr){op:CmpOp}(h:op≠.In:=by decide)(h2:op≠.NotIn:=by decide):AE op b=false:=by
 have e1:(op==CmpOp.In)=false:=by cases op<;>first|rfl|exact absurd rfl h
 have e2:(op==CmpOp.NotIn)=false:=by cases op<;>first|rfl|exact absurd rfl h2
 cases b<;>simp[AE,e1,e2]
theorem eg{op:CmpOp}{r:R2}(ho:bE X (dw op) r)(ha:PE X a ta)(hb:PE X b tb)(hm:AE op b=false):PE X (.Compare a [op] [b] pos) (sV r ta tb):=by
 intro aa s σ H Q I h;exact wpAny_Compare1 (A6 ha hb I h fun v u s2 x y H2 I2 rx ry q=>ho aa s2 σ H2 x y v u Q I2 rx ry q) hm
def JP(t:TE):TT:=fun σ H Q=>t σ H fun x H'=>∃k,x=.bl k∧Q k H'
theorem aO{op:CmpOp}{r:R2}(ho:bE X (dw op) r)(ha:PE X a ta)(hb:PE X b tb)(hm:AE op b=false):PT X (.Compare a [op] [b] pos) (JP (sV r ta tb)):=by
 intro aa s σ H Q I h;refine wpAny_isTrue_Compare1 (aK (ha aa s σ H _ I h) fun v s1 ⟨x,H1,I1,r1,q1⟩=>aK (hb aa s1 σ H1 _ I1 q1) fun u s2 ⟨y,H2,I2,r2,q2⟩=>
  aK (ho aa s2 σ H2 x y v u _ I2 r1 r2 q2) fun c s3 ⟨z,H3,I3,r3,k,e,q3⟩=>?_) hm
 subst e;cases r3;exact nN ⟨H3,I3,q3⟩
def GW(r r':R2)(ta tb tc:TE):TE:=fun σ H Q=>ta σ H fun x H1=>tb σ H1 fun y H2=>r x y H2 fun z H3=>∃k,z=.bl k∧
 (if k=true then tc σ H3 fun w' H4=>r' y w' H4 Q else Q (.bl false) H3)
theorem T7{op op':CmpOp}{r r':R2}(ho:bE X (dw op) r)(ho':bE X (dw op') r')(ha:PE X a ta)(hb:PE X b tb)(hc:PE X c tc)
  (hm:lastMarks [op,op'] [b,c]=false:=by with_unfolding_all rfl):PE X (.Compare a [op,op'] [b,c] pos) (GW r r' ta tb tc):=by
 intro aa s σ H Q I h;refine Compare_chain (aK (ha aa s σ H _ I h) fun v s1 ⟨x,H1,I1,r1,q1⟩=>chain_link (aK (hb aa s1 σ H1 _ I1 q1) fun u s2 ⟨y,H2,I2,r2,q2⟩=>
  aK (ho aa s2 σ H2 x y v u _ I2 r1 r2 q2) fun d s3 ⟨z,H3,I3,r3,k,e,q3⟩=>?_)) hm
 subst e;cases r3;refine nN ?_;cases k with
 |false=>exact ite_ff ⟨.bl false,H3,I3,rfl,q3⟩
 |true=>exact ite_tt (chain_last (aK (hc aa s3 σ H3 _ I3 q3) fun w' s4 ⟨z',H4,I4,r4,q4⟩=>ho' aa s4 σ H4 y z' u w' Q I4 r2 r4 q4))
def D7(K:aq)(x:V)(H:Hp)(k:Bool):Prop:=
 match x with
 |.non=>k=false
 |.bl b=>k=b
 |.int i=>k=(i != 0)
 |.str y=>y.length≤sizeLine∧k=((y.length:Int) != 0)
 |.byt y=>y.size≤sizeLine∧k=((y.size:Int) != 0)
 |.ref p=>(∃xs,ay K H p xs∧k=!xs.isEmpty)∨(∃xs,di K H p xs∧k=!xs.isEmpty)∨∃aH,H p=some (.dK aH)∧k=!aH.isEmpty
 |_=>False
theorem abt{κ : Type}{aH:List (κ×V)}{vs:List (κ×Value)}(r:KV aH vs):(!vs.isEmpty)=!aH.isEmpty:=by
 cases r<;>rfl
theorem Gr{xs:List V}{its:List Value}(r:aP xs its):(!its.toArray.isEmpty)=!xs.isEmpty:=by
 cases r<;>simp
theorem pH:(sizeLine:Nat)<2^63:=by rw[vP];decide
theorem aaG:Yl X (fun x H Q=>∃k,D7 X.K x H k∧Q k H):=by
 intro aa s σ H x v Q I rx h;obtain⟨k,e,q⟩:=h;have hl:=pH;have hs:sizeLine=16777216:=vP;cases x with
 |non=>
  cases rx;have e':k=false:=e;subst e';exact truthy_none ⟨H,I,q⟩
 |bl b=>
  cases rx;have e':k=b:=e;subst e';exact nN ⟨H,I,q⟩
 |int i=>
  obtain⟨t,rfl⟩:=rx;have e':k=(i != 0):=e;subst e';exact PySem.P.truthy_int ⟨H,I,q⟩
 |str y=>
  obtain⟨t,rfl⟩:=rx;obtain⟨hy,e'⟩:y.length≤sizeLine∧k=((y.length:Int) != 0):=e;subst e';exact PySem.P.truthy_str (by omega) ⟨H,I.tok _,q⟩
 |byt y=>
  obtain⟨t,rfl⟩:=rx;obtain⟨hy,e'⟩:y.size≤sizeLine∧k=((y.size:Int) != 0):=e;subst e';exact PySem.W.truthy_bytes (by omega) ⟨H,I.tok _,q⟩
 |ref p=>
  cases rx;have e':(∃xs,ay X.K H p xs∧k=!xs.isEmpty)∨(∃xs,di X.K H p xs∧k=!xs.isEmpty)∨∃aH,H p=some (.dK aH)∧k=!aH.isEmpty:=e;rcases e' with⟨xs,hx,e'⟩|⟨xs,hx,e'⟩|⟨aH,hx,e'⟩
  ·subst e';obtain⟨its,r,pl,hz⟩:=I.list hx;have dO:=r.length;exact wpAny_truthy_list pl.isList (by simp only[dM];omega) ⟨H,I.tok _,by rw[Gr r];exact q⟩
  ·subst e';obtain⟨its,r,pl,hz⟩:=I.tuple hx;have dO:=r.length;exact truthy_tuple pl (by simp only[dM];omega) ⟨H,I.tok _,by rw[Gr r];exact q⟩
  ·subst e';obtain⟨hz,hS,vs,r,m⟩:aH.length≤sizeLine∧(p==rV)=false∧∃vs,KV aH vs∧s.heap.DictOf (DC X.prog X.w) p vs:=I.hok p _ hx;have dO:aH.length=vs.length:=Paired.length r;exact wpAny_truthy_dict hS m (by omega) ⟨H,I.tok _,by rw[abt r];exact q⟩
 |_=>exact(show False from e).elim
theorem XH(ha:PE X a ta)(he:∀whole,isTrue a X.env whole=(do let v ←whole;standAt a.pos;holding [v] (truthy v))):
  PT X a (fun σ H Q=>ta σ H fun x H'=>∃k,D7 X.K x H' k∧Q k H'):=by
 intro aa s σ H Q I h;exact isTrue_plain (aK (ha aa s σ H _ I h) fun v s1 ⟨x,H1,I1,r1,q1⟩=>aaG aa s1 σ H1 x v Q I1 r1 q1) (he _)
theorem fY:bE X (eG .Add) (fun x y H Q=>∃i j,x=.str i∧y=.str j∧i.length+j.length≤sizeLine∧Q (.str (i++j)) H):=by
 intro aa s σ H x y v u Q I rx ry h;obtain⟨i,j,rfl,rfl,hz,q⟩:=h;obtain⟨t,rfl⟩:=rx;obtain⟨t',rfl⟩:=ry;exact add_str (fun t' tk=>⟨.str (i++j),H,I.tok _,⟨_,rfl⟩,q⟩) hz
theorem iE{x:V}{us:List Value}(r:aP [x] us):∃u,us=[u]∧bc x u:=by
 cases r with
 |cons r1 r2=>cases r2;exact⟨_,rfl,r1⟩
theorem wB{x y:V}{us:List Value}(r:aP [x,y] us):∃u w',us=[u,w']∧bc x u∧bc y w':=by
 cases r with
 |cons r1 r2=>
  cases r2 with
  |cons r3 r4=>cases r4;exact⟨_,_,rfl,r1,r3⟩
theorem Rr(hc:X.calm=true):gu X (.builtin "max") (fun xs H Q=>∃i j,xs=[.int i,.int j]∧Q (.int (if j>i then j else i)) H):=by
 intro aa s σ H xs us Q I r h;obtain⟨i,j,rfl,q⟩:=h;obtain⟨u,w',rfl,⟨t,rfl⟩,⟨t',rfl⟩⟩:=wB r;refine max_two_ints (I.ok.hd hc) fun h' tk k=>⟨_,H,I.kept k,?_,q⟩;by_cases hj:j>i
 ·rw[if_pos hj,if_pos hj];exact⟨_,rfl⟩
 ·rw[if_neg hj,if_neg hj];exact⟨_,rfl⟩
theorem jF:gu X (.type "str") (fun xs H Q=>∃i,xs=[.int i]∧i.natAbs.log2<1920∧Q (.str (AL i)) H):=by
 intro aa s σ H xs us Q I r h;obtain⟨i,rfl,hz,q⟩:=h;obtain⟨u,rfl,t,rfl⟩:=iE r;exact PySem.P.str_of_int hz ⟨.str _,H,I.tok _,⟨_,rfl⟩,q⟩
end
structure pj(h:Heap)(x dx C:Addr)(mA:Str→Option Value):Prop where
 obj:h.get? x=some (nB C dx)
 ns:h.Ns1 dx mA
 ne:dx≠x
theorem W5{h:Heap}{dx:Addr}{mA:Str→Option Value}(n:h.Ns1 dx mA):∃od,h.get? dx=some od∧∀name,Av name od=some (mA name):=by
 obtain⟨o,es,ep,ho,hd,hk,_,hm⟩:=n;refine⟨o,ho,fun name=>?_⟩;have e:=hm name;unfold nsFind findBy at e;rw[←Array.find?_toList]at e;unfold Av;rw[hd]
 dsimp only
 split
 ·rename_i y q;rw[q]at e;exact congrArg some e
 ·rename_i q;rw[q]at e;have a:es.toList.any (·.refKey)=false:=by
   rw[List.any_eq_false];intro y hy;obtain⟨z,t,hkey⟩:=hk y (Array.mem_toList_iff.mp hy);simp[DictEntry.refKey,hkey]
  have a':¬es.toList.any (·.refKey)=true:=by rw[a];exact bK
  rw[if_neg a'];exact congrArg some e
theorem pj.look{h:Heap}{x dx C:Addr}{mA:Str→Option Value}(I:pj h x dx C mA):∃od,PySem.W.InstAt h x (nB C dx) C (some od)∧∀name,Av name od=some (mA name):=
 let⟨od,ho,hl⟩:=W5 I.ns
 ⟨od,⟨I.obj,rfl,rfl,ho⟩,hl⟩
section
variable{prog:aG}{w:av}{A:bH}{E:Value→Shared→Prop}{s:Shared}{K:aq}{x dx C f:Addr}{mA:Str→Option Value}{name:Str}{v:Value}
theorem RN{expr:Bool}{Q:Value→Shared→Prop}(X:K.In s.heap)(I:pj s.heap x dx C mA)(hg:Az K C name=true)(hh:FO K C=true)
  (ha:jr K (.ref C) name=some none) (hv:mA name=some v) (hv':Pm v=true) (h:Q v {s with toks:=s.toks+1}) :
  ax (au prog w) A (getAttr (.ref x) name expr) Q E s:=by
 obtain⟨od,J,hl⟩:=I.look;exact PySem.W.get_value X J (FS hg).1 (PySem.W.findObj_own hh ha rfl (by rw[hl,hv])) hv' h
theorem acm{pl:Sem Bool}{Q:Value×List Value→Shared→Prop}(X:K.In s.heap)(I:pj s.heap x dx C mA)(hg:Az K C name=true)
  (hf:jr K (.ref C) name=some (some (.ref f))) (ht:FP K (.ref f)=true) (hv:mA name=none) (h:Q (.ref f,[.ref x]) s) :
  ax (au prog w) A (getMethod (.ref x) name pl) Q E s:=by
 obtain⟨od,J,hl⟩:=I.look;exact PySem.W.method_fn X J (FS hg).1 (FS hg).2 hf (beq_iff_eq.mp ht) (by show(Av name od).map (·.isSome)=some false;rw[hl,hv];rfl) h
theorem Zb{ns:List Str}{Q:Unit→Shared→Prop}(X:K.In s.heap)(I:pj s.heap x dx C mA)
  (hs:jr K (.ref C) "__setattr__" = some (some (.builtin "object.__setattr__"))) (hp:Pr K C=true) (ht:FU K C name=some none) (hh:FO K C=true)
  (hw:FV mA ns) (hsz:ns.length≤sizeLine)
  (h:∀h',pj h' x dx C (fun y=>if y=name then some v else mA y)→zW dx s.heap h'→Q () {s with heap:=h',toks:=s.toks+2}) :
  ax (au prog w) A (setAttr (.ref x) name v) Q E s:=by
 obtain⟨od,J,hl⟩:=I.look;refine PySem.W.set_plain X J hs (PySem.W.osa_open (s:={s with toks:=s.toks+1}) (r:=none) X J hp ht fun b=>?_);obtain⟨cd,hc,hd'⟩:=PySem.W.any_some hh;have hx:s.heap.get? x=some ⟨.ref C,some dx,.plain,#[]⟩:=I.obj;refine aE (wpAny_pure (aE (aE (Qj hx (aE (aea (s:={s with toks:=s.toks+1}) (PySem.W.looks_clsIn X hc) ?_))))));rw[hd'];refine wpAny_pure (a:=some dx) (aE (wpAny_pure (aE ?_)));refine wpAny_nsSet1 (s:={s with toks:=s.toks+1}) I.ns fun h' hn2 hs2=>?_;obtain⟨oD,esD,epD,hoD,hdD,hcD⟩:=hn2.count (aec name v hw);refine aE (wpAny_lookBehind hoD (by rw[hdD];exact pastItsLine_dict (cB hcD (by rw[bI];omega))) ?_);exact wpAny_pure (h _ ⟨(hs2.2 _ (cH I.ne)).trans I.obj,hn2,I.ne⟩ hs2)
theorem J8{R:nD→Shared→Prop}{vs:List Value}{kw:List (Str×Value)}(X:K.In s.heap)(hm:Pp K C=true)
  (hi:jr K (.ref C) "__init__" = some (some (.ref f))) (hf:PySem.W.typeIn K (.ref f)=some (.type "function"))
  (h:gE (au prog w) (A.under (.builtin "type.__call__" ⟨.ref C::vs,kw⟩)) (.call (.ref f) ⟨.ref (s.heap.objs.size+1)::vs,kw⟩) (PySem.W.InitBack (s.heap.objs.size+1) R)
   {s with heap:=(s.heap.push lZ).push (nB C s.heap.objs.size)}) :
  gE (au prog w) A (.call (.ref C) ⟨vs,kw⟩) R s:=by
 obtain⟨hh,g,d,t,os⟩:=s;exact PySem.W.make_core (PySem.W.makes_of X hm) (PySem.W.looks_findIn X hi) (fun self=>PySem.W.bind_fn X self hf) (.inl rfl) h
end
def cD(f:Str)(v:V):List (Str×V)→List (Str×V)
 |[]=>[(f,v)]
 |(g,x)::r=>if g=f then(g,v)::r else(g,x)::cD f v r
theorem hJ(f g:Str)(v:V):∀fs:List (Str×V),(cD f v fs).lookup g=if g=f then some v else fs.lookup g
 |[]=>by
  show iZ g [(f,v)]=_;by_cases h:g=f
  ·have hb:(g==f)=true:=beq_iff_eq.mpr h;simp only[iZ,hb,if_pos h]
  ·have hb:(g==f)=false:=beq_eq_false_iff_ne.mpr h;simp only[iZ,hb,if_neg h]
 |(k,x)::r=>by
  have ih:=hJ f g v r;rw[show cD f v ((k,x)::r)=(if k=f then(k,v)::r else(k,x)::cD f v r)from rfl];by_cases hk:k=f
  ·rw[if_pos hk];by_cases h:g=k
   ·have hb:(g==k)=true:=beq_iff_eq.mpr h;simp only[iZ,hb,if_pos (h.trans hk)]
   ·have hb:(g==k)=false:=beq_eq_false_iff_ne.mpr h;simp only[iZ,hb,if_neg (fun e:g=f=>h (e.trans hk.symm))]
  ·rw[if_neg hk];by_cases h:g=k
   ·have hb:(g==k)=true:=beq_iff_eq.mpr h;simp only[iZ,hb,if_neg (fun e:g=f=>hk (h.symm.trans e))]
   ·have hb:(g==k)=false:=beq_eq_false_iff_ne.mpr h;simp only[iZ,hb];exact ih
theorem Cz(f:Str)(v:V):∀fs:List (Str×V),f∈(cD f v fs).map (·.1)∧∀g,g∈fs.map (·.1)→g∈(cD f v fs).map (·.1)
 |[]=>⟨by simp[cD],fun g h=>by simp at h⟩
 |(k,x)::r=>by
  obtain⟨i1,i2⟩:=Cz f v r;rw[show cD f v ((k,x)::r)=(if k=f then(k,v)::r else(k,x)::cD f v r)from rfl];by_cases hk:k=f
  ·rw[if_pos hk];subst hk;exact⟨by simp,fun g h=>by simpa using h⟩
  ·rw[if_neg hk];refine⟨?_,fun g h=>?_⟩
   ·rw[eD];exact jp _ i1
   ·rw[eD]at h⊢;rcases bu.mp h with e|e
    ·exact bu.mpr (.inl e)
    ·exact jp _ (i2 g e)
theorem NJ(f:Str)(v:V):∀fs:List (Str×V),(cD f v fs).length≤fs.length+1
 |[]=>by simp[cD]
 |(k,x)::r=>by
  have ih:=NJ f v r;rw[show cD f v ((k,x)::r)=(if k=f then(k,v)::r else(k,x)::cD f v r)from rfl];by_cases hk:k=f
  ·rw[if_pos hk,bI,bI];omega
  ·rw[if_neg hk,bI,bI];omega
theorem j4.some_of{v:V}{o:Option Value}(r:j4 (some v) o):∃u,o=some u∧bc v u:=by
 cases o with
 |none=>exact(show False from r).elim
 |some u=>exact⟨u,rfl,r⟩
theorem j4.none_of{o:Option Value}(r:j4 none o):o=none:=by
 cases o with
 |none=>rfl
 |some u=>exact(show False from r).elim
theorem YR{v:V}{u:Value}(r:bc v u):Pm u=true:=by
 cases v with
 |non=>cases(show u=cE from r);rfl
 |bl b=>cases(show u=nF b from r);rfl
 |int i=>obtain⟨t,e⟩:=(show∃t,u=nG i t from r);cases e;rfl
 |str x=>obtain⟨t,e⟩:=(show∃t,u=pY x t from r);cases e;rfl
 |byt b=>obtain⟨t,e⟩:=(show∃t,u=PF b t from r);cases e;rfl
 |flt b=>obtain⟨t,e⟩:=(show∃t,u=AD b t from r);cases e;rfl
 |ref a=>cases(show u=aZ a from r);rfl
 |ty n=>cases(show u=PK n from r);rfl
section
variable{P:aG}{w:av}{H H':Hp}{h h':Heap}{a C dx:Addr}{fs fs':List (Str×V)}
theorem uC(hok:cq P w H h)(e:H a=some (.ins C dx fs)):∃mA,pj h a dx C mA∧(∀f,j4 (fs.lookup f) (mA f))∧FV mA (fs.map (·.1))∧fs.length≤1000∧H dx=some (.own a):=by
 obtain⟨d,z,ne,ob,mA,n,r,q⟩:=(show cS P w H h a (.ins C dx fs)from hok a _ e);exact⟨mA,⟨ob,n,ne⟩,r,q,z,d⟩
end
structure fG(K:aq)(C:Addr):Prop where
 pg:Az K C mf=true
 hd:FO K C=true
 po:Pr K C=true
 sa:jr K (.ref C) "__setattr__" = some (some (.builtin "object.__setattr__"))
theorem fG.get{K:aq}{C:Addr}(c:fG K C)(f:Str):Az K C f=true:=c.pg
def e8(K:aq)(C:Addr)(f:Str):Prop:=jr K (.ref C) f=some none
theorem e8.taker{K:aq}{C:Addr}{f:Str}(n:e8 K C f):FU K C f=some none:=by
 unfold FU;rw[show jr K (.ref C) f=some none from n];rfl
structure Con(K:aq)(C:Addr)(f:Str)(v:V)(u:Value):Prop where
 at_:jr K (.ref C) f=some (some u)
 rel:bc v u
 get:FT K u "__get__" = some none
 cp:PySem.W.copiedNames.contains f=false
structure fM(K:aq)(C:Addr)(m:Str)(f:Addr):Prop where
 at_:jr K (.ref C) m=some (some (.ref f))
 fn:FP K (.ref f)=true
 kp:js K (.ref f)=true
section
variable{X:Cx}{aa:List (Addr×Obj)}{σ : St}{H:Hp}{s:Shared}{a C dx:Addr}{fs:List (Str×V)}{f:Str}{v:V}{A:bH}{E:Value→Shared→Prop}
theorem acM{b:Bool}{Q:Value→Shared→Prop}(I:ag X aa σ H s)(e:H a=some (.ins C dx fs))(c:fG X.K C)(n:e8 X.K C f)(l:fs.lookup f=some v)
  (h:∀u s',ag X aa σ H s'→bc v u→Q u s'):ax (au X.prog X.w) A (getAttr (.ref a) f b) Q E s:=by
 obtain⟨mA,O,r,_,_,_⟩:=uC I.hok e;obtain⟨u,hu,ru⟩:=j4.some_of (v:=v) (o:=mA f) (by rw[←l];exact r f);exact RN I.kIn O (c.get f) c.hd n hu (YR ru) (h u _ (I.tok _) ru)
theorem wu{m:Str}{g:Addr}{pl:Sem Bool}{Q:Value×List Value→Shared→Prop}(I:ag X aa σ H s)(e:H a=some (.ins C dx fs))(c:fG X.K C)(k:fM X.K C m g)(l:fs.lookup m=none)
  (h:Q (.ref g,[.ref a]) s):ax (au X.prog X.w) A (getMethod (.ref a) m pl) Q E s:=by
 obtain⟨mA,O,r,_,_,_⟩:=uC I.hok e;have hn:mA m=none:=j4.none_of (by rw[←l];exact r m);exact acm I.kIn O (c.get m) k.at_ k.fn hn h
theorem acG{y:V}{u:Value}{Q:Unit→Shared→Prop}(I:ag X aa σ H s)(e:H a=some (.ins C dx fs))(c:fG X.K C)(n:e8 X.K C f)(hl:fs.length<1000)(ry:bc y u)
  (h:∀s',ag X aa σ (upd H a (.ins C dx (cD f y fs))) s'→Q () s'):ax (au X.prog X.w) A (setAttr (.ref a) f u) Q E s:=by
 obtain⟨mA,O,r,wi,_,ho⟩:=uC I.hok e;have hz:(fs.map (·.1)).length≤sizeLine:=by rw[bo,vP];omega
 refine Zb I.kIn O c.sa c.po n.taker c.hd wi hz fun h' O' sb=>h _ ?_;have hd:∃o,h'.get? dx=some o:=let⟨o,_,_,e',_⟩:=O'.ns;⟨o,e'⟩;refine I.write (x:=a) (e:=dx) (by rw[e];exact jt) (.inr ho) (fun b q hb z=>(sb.2 b hb).trans z) hd ?_;refine⟨by rw[bp O.ne];exact ho,?_,O.ne,O'.obj,_,O'.ns,fun g=>?_,fun g hg=>?_⟩
 ·have:=NJ f y fs;omega
 ·show j4 ((cD f y fs).lookup g) (if g=f then some u else mA g);rw[hJ];by_cases q:g=f
  ·rw[if_pos q,if_pos q];exact ry
  ·rw[if_neg q,if_neg q];exact r g
 ·by_cases q:g=f
  ·rw[q];exact(Cz f y fs).1
  ·refine(Cz f y fs).2 g (wi g fun z=>hg ?_);show(if g=f then some u else mA g)=none;rw[if_neg q];exact z
theorem ag.made(I:ag X aa σ H s):ag X aa σ (upd (upd H s.heap.objs.size (.own (s.heap.objs.size+1))) (s.heap.objs.size+1) (.ins C s.heap.objs.size []))
  {s with heap:=(s.heap.push lZ).push (nB C s.heap.objs.size)}:=by
 have e1:(s.heap.push lZ).get? s.heap.objs.size=some lZ:=iA s.heap rfl;have e2:((s.heap.push lZ).push (nB C s.heap.objs.size)).get? (s.heap.objs.size+1)=some (nB C s.heap.objs.size):=by
  have:=iA (s.heap.push lZ) (o:=nB C s.heap.objs.size) rfl
  rwa [vh]at this
 have e3:(s.heap.push lZ).Ns s.heap.objs.size (fun _=>none):=⟨lZ,#[],_,e1,rfl,(fun e he=>absurd he (by simp)),fun _=>rfl⟩;have I1:=I.laid (a:=s.heap.objs.size) (o:=.own (s.heap.objs.size+1)) (h':=s.heap.push lZ) (t':=s.toks) (fun b u q=>dL _ q) (bv _) ⟨_,e1⟩;refine I1.laid (a:=s.heap.objs.size+1) (o:=.ins C s.heap.objs.size []) (t':=s.toks) (fun b u q=>dL _ q) (Aj (vh _ _)) ?_;have ne:s.heap.objs.size≠s.heap.objs.size+1:=cC (pS _);refine⟨by rw[bp ne,eB],fe _,ne,e2,fun _=>none,(Heap.Ns1.of_empty e3).at fun o q=>dL _ q,fun _=>jt,fun y hy=>absurd rfl hy⟩
theorem ZT{prog:aG}{w:av}{env:Env}{e:Expr}{f:Str}{pos:Pos}{s:Shared}{Q:Value→Shared→Prop}(hb:vF e f env (eval e env)=eval e env)
  (h:ax (au prog w) A (eval e env) (fun o s₁=>ax (au prog w) A (getAttr o f true) Q E s₁) E s):ax (au prog w) A (eval (.Attribute e f pos) env) Q E s:=
 Attribute_any_ h (by rw[arm_eval_Attribute,hb])
end
def Bw(K:aq)(ta:TE)(f:Str):TE:=fun σ H Q=>ta σ H fun x H1=>∃a C dx fs v,x=.ref a∧H1 a=some (.ins C dx fs)∧fG K C∧e8 K C f∧fs.lookup f=some v∧Q v H1
def aa6(K:aq)(ta tv:TE)(f:Str):TS:=fun D σ H=>tv σ H fun y H1=>ta σ H1 fun x H2=>∃a C dx fs,x=.ref a∧H2 a=some (.ins C dx fs)∧fG K C∧e8 K C f∧fs.length<1000∧
 D.nx σ (upd H2 a (.ins C dx (cD f y fs)))
section
variable{X:Cx}{o e value:Expr}{f:Str}{pos pos' tpos:Pos}{ta tv:TE}
theorem Xo(he:PE X e ta)(hb:vF e f X.env (eval e X.env)=eval e X.env):PE X (.Attribute e f pos) (Bw X.K ta f):=by
 intro aa s σ H Q I h;refine ZT hb (aK (he aa s σ H _ I h) fun u s1 aA=>?_);obtain⟨x,H1,I1,rx,a,C,dx,fs,v,ex,ea,c,n,l,q⟩:=aA;subst ex;obtain rfl:u=aZ a:=rx;exact acM I1 ea c n l fun u' s2 I2 ru=>⟨v,H1,I2,ru,q⟩
theorem mn(ha:PE X o ta)(hv:PE X value tv)(hs:AJ value (some (.Attribute o f pos')) pos.line X.env=pure false):PS X (.Assign [.Attribute o f pos'] value pos) (aa6 X.K ta tv f):=by
 intro aa s σ H D I h;refine plainObj_wpAny_Assign_Attribute (aK (hv aa s σ H _ I h) fun u s1 ⟨y,H1,I1,ry,q⟩=>aK (ha aa s1 σ H1 _ I1 q) fun ov s2 aA=>?_) hs;obtain⟨x,H2,I2,rx,a,C,dx,fs,ex,ea,c,n,l,q2⟩:=aA;subst ex;obtain rfl:ov=aZ a:=rx;exact acG I2 ea c n l ry fun s3 I3=>⟨σ,_,I3,q2⟩
end
section
variable{X:Cx}{aa:List (Addr×Obj)}{σ : St}{H:Hp}{s:Shared}{A:bH}{E:Value→Shared→Prop}{Q:Value→Shared→Prop}{c:Value}{b:Bool}
inductive de(K:aq)(H:Hp):V→Value→Prop where
 |non:de K H .non (.type "NoneType")
 |bl (x:Bool):de K H (.bl x) (.type "bool")
 |int (i:Int):de K H (.int i) (.type "int")
 |str (x:Str):de K H (.str x) (.type "str")
 |flt (x:UInt64):de K H (.flt x) (.type "float")
 |lst {a:Addr} {xs:List V} (e:H a=some (.lst xs)):de K H (.ref a) (.type "list")
 |frz {a:Addr} {o:Obj} {xs:List V} (e:H a=some (.frz o (.lst xs))):de K H (.ref a) (.type "list")
 |tup {a:Addr} {xs:List V} (e:H a=some (.tup xs)):de K H (.ref a) (.type "tuple")
 |dK {a:Addr} {aH:List (fJ×V)} (e:H a=some (.dK aH)):de K H (.ref a) (.type "dict")
 |dT {a:Addr} {aH:List (List fJ×V)} (e:H a=some (.dT aH)):de K H (.ref a) (.type "dict")
 |ins {a C dx:Addr} {fs:List (Str×V)} (e:H a=some (.ins C dx fs)) (cl:fG K C) (ha:jr K (.ref C) "__class__" = some (some (.builtin "object.__class__")))
   (hn:FT K (.builtin "object.__class__") "__get__" = some (some (.builtin "getset_descriptor.__get__"))) (htk:Pt K (.builtin "object.__class__")=some true)
   (hm:gC K C (.type "object")=some true):de K H (.ref a) (.ref C)
theorem Xj{x:V}{u t:Value}(I:ag X aa σ H s)(rx:bc x u)(ty:de X.K H x t)(e:eF X.K t c=some b)(h:∀tk,Q (.bool b) {s with toks:=tk}):
  ax (au X.prog X.w) A (call (.builtin "isinstance") [u,c]) Q E s:=by
 cases ty with
 |non=>cases(show u=cE from rx);exact jT PySem.W.kitx_none I.kIn jt e (fun z=>nomatch z) h
 |bl y=>cases(show u=nF y from rx);exact jT PySem.W.kitx_bool I.kIn jt e (fun z=>nomatch z) h
 |int i=>obtain⟨t,q⟩:=(show∃t,u=nG i t from rx);cases q;exact jT PySem.W.kitx_int I.kIn jt e (fun z=>nomatch z) h
 |str y=>obtain⟨t,q⟩:=(show∃t,u=pY y t from rx);cases q;exact jT PySem.W.kitx_str I.kIn jt e (fun z=>nomatch z) h
 |flt y=>obtain⟨t,q⟩:=(show∃t,u=AD y t from rx);cases q;exact jT PySem.W.kitx_float I.kIn jt e (fun z=>nomatch z) h
 | @lst a xs ea=>
  cases(show u=aZ a from rx);obtain⟨_,_,n,_,h1⟩:=(show cS X.prog X.w H s.heap a (.lst xs)from I.hok a _ ea);exact jT Po I.kIn ⟨_,h1,rfl⟩ e (fun z=>nomatch z) h
 | @frz a ob xs ea=>
  cases(show u=aZ a from rx);obtain⟨_,_,_,n,_,h1⟩:=(show cS X.prog X.w H s.heap a (.frz ob (.lst xs))from I.hok a _ ea);exact jT Po I.kIn ⟨_,h1,rfl⟩ e (fun z=>nomatch z) h
 | @tup a xs ea=>
  cases(show u=aZ a from rx);obtain⟨_,_,_,p⟩:=(show cS X.prog X.w H s.heap a (.tup xs)from I.hok a _ ea);obtain⟨o,h1,h2,_⟩:=p;exact jT PySem.W.kitx_tuple I.kIn ⟨o,h1,h2⟩ e (fun z=>nomatch z) h
 | @dK a aH ea=>
  cases(show u=aZ a from rx);obtain⟨_,_,vs,_,p⟩:=(show cS X.prog X.w H s.heap a (.dK aH)from I.hok a _ ea);obtain⟨o,es,ep,h1,h2,_⟩:=p;exact jT Pn I.kIn ⟨o,h1,h2.1⟩ e (fun z=>nomatch z) h
 | @dT a aH ea=>
  cases(show u=aZ a from rx);obtain⟨_,_,xs,_,o,es,ep,h1,h2,_⟩:=(show cS X.prog X.w H s.heap a (.dT aH)from I.hok a _ ea);exact jT Pn I.kIn ⟨o,h1,h2.1⟩ e (fun z=>nomatch z) h
 | @ins a C dx fs ea cl ha hn htk hm=>
  cases(show u=aZ a from rx);obtain⟨mA,O,_⟩:=uC I.hok ea;obtain⟨od,J,_⟩:=O.look;exact jT (PySem.W.kitx_own (cl.get _) cl.hd ha hn htk hm) I.kIn J e (fun z=>nomatch z) h
end
structure cA(k:Nat)(A:bH):Prop where
 hd:A.handled=none
 dp:A.depth+3*k+5<PY
 un:A.units+16*k+200<pZ
theorem cA.mono{j k:Nat}{A:bH}(r:cA k A)(h:j≤k):cA j A:=⟨r.hd,by have:=r.dp;omega,by have:=r.un;omega⟩
theorem cA.deeper{k:Nat}{A:bH}(r:cA (k+1) A)(env:Env):cA k (A.deeper env):=
 ⟨r.hd,by have:=r.dp;show A.depth+1+3*k+5<_;omega,by have:=r.un;show A.units+3+16*k+200<_;omega⟩
theorem T9{A:bH}{C:Addr}{us:List Value}{kw:List (Str×Value)}:(A.under (.builtin "type.__call__" ⟨.ref C::us,kw⟩)).depth=A.depth+1:=by
 first|rfl|simp[E6,Code.weight,Code.isCreation,Code.isGuard,Code.isCaller,N8,Fg,guardIds]
theorem QS{A:bH}{C:Addr}{us:List Value}{kw:List (Str×Value)}:(A.under (.builtin "type.__call__" ⟨.ref C::us,kw⟩)).units=A.units+1:=by
 first|rfl|simp[E6,Code.cUnits,N8,Fg]
theorem cA.make{k:Nat}{A:bH}(r:cA (k+1) A)(C:Addr)(us:List Value)(kw:List (Str×Value)):cA k (A.under (.builtin "type.__call__" ⟨.ref C::us,kw⟩)):=
 ⟨r.hd,by have:=r.dp;rw[T9];omega,by have:=r.un;rw[QS];omega⟩
theorem cA.depth{k:Nat}{A:bH}(r:cA k A):A.depth<PY:=by have:=r.dp;omega
theorem cA.units{k:Nat}{A:bH}(r:cA k A):A.units+64<pZ:=by have:=r.un;omega
def Bx:TA:=fun _ H Q=>Q [] H
def Hf(ta:TE)(tr:TA):TA:=fun σ H Q=>ta σ H fun x H1=>tr σ H1 fun xs H2=>Q (x::xs) H2
section
variable{X:Cx}{e:Expr}{es:List Expr}{te:TE}{t:TA}{pos:Pos}
theorem af:PA X [] Bx:=fun _ _ _ _ H Q I h=>Calls.spliced_nil ⟨[],H,I,.nil,h⟩
theorem ae(ha:PE X e te)(hr:PA X es t)(hs:bz (e::es) X.env=(false,eval e X.env)::bz es X.env:=by rfl):PA X (e::es) (Hf te t):=by
 intro pos aa s σ H Q I h;rw[hs];show ax _ _ (spliced ((false,eval e X.env)::dN pos (bz es X.env))) _ _ s;refine Calls.spliced_cons (aK (ha aa s σ H _ I h) fun u s1 aA=>?_);obtain⟨x,H1,I1,r1,q1⟩:=aA;exact aK (hr pos aa s1 σ H1 _ I1 q1) fun us s2 ⟨xs,H2,I2,r2,q2⟩=>⟨x::xs,H2,I2,.cons r1 r2,q2⟩
end
abbrev Sp:=List V→Hp→VK→XK→Prop
abbrev c9:=List Env→Hp→Shared→XK→Value→Shared→Prop
structure oh(P:aG)(w:av)(K:aq)(mg:Str→Option Value)(base:Heap)(A:bH)(outer:List Env)(s:Shared)(H:Hp):Prop where
 frames:A.frames=some outer
 mod:Mod K mg base
 bs:∀b o,base.get? b=some o→s.heap.get? b=some o∧H b=none
 bsz:base.objs.size≤s.heap.objs.size
 funs:s.heap.FunFrames base outer
 frf:∀b∈bf outer,H b=none
 hok:cq P w H s.heap
 bare:kD s.gens
def CE(outer:List Env)(P:aG)(w:av)(H:Hp)(s:Shared)(Q:VK)(u:Value)(s':Shared):Prop:=
 ∃v H',s'.os=s.os∧kD s'.gens∧Un (bf outer) [] H H' s.heap s'.heap∧cq P w H' s'.heap∧bc v u∧Q v H'
def CR(CX:c9)(outer:List Env)(P:aG)(w:av)(H:Hp)(s:Shared)(Q:VK)(E:XK)(r:nD)(s':Shared):Prop:=
 match r with
 |.ok (.ret u)=>CE outer P w H s Q u s'
 |.ok _=>False
 |.error e=>CX outer H s E e s'
structure aM(P:aG)(w:av)(K:aq)(mg:Str→Option Value)(base:Heap)(CX:c9)(k:Nat)(f:Addr)(fd:FuncData)(ps:List Str)(sp:Sp):Prop where
 len:∀vs H Q E,sp vs H Q E→vs.length=ps.length
 run:∀(A:bH) (outer:List Env) (s:Shared) (H:Hp) (args:Args) (us:List Value) (vs:List V) (Q:VK) (E:XK),cA k A→oh P w K mg base A outer s H→mX s fd args (ps.zip us)→aP vs us→sp vs H Q E→
  gE (au P w) A (.call (.ref f) args) (CR CX outer P w H s Q E) s
theorem aM.mono{P:aG}{w:av}{K:aq}{mg:Str→Option Value}{base:Heap}{CX:c9}{j k:Nat}{f:Addr}{fd:FuncData}{ps:List Str}{sp:Sp}(F:aM P w K mg base CX j f fd ps sp)(h:j≤k):
  aM P w K mg base CX k f fd ps sp:=⟨F.len,fun A outer s H args us vs Q E hr=>F.run A outer s H args us vs Q E (hr.mono h)⟩
theorem aM.imp{P:aG}{w:av}{K:aq}{mg:Str→Option Value}{base:Heap}{CX:c9}{k:Nat}{f:Addr}{fd:FuncData}{ps:List Str}{sp sp':Sp}(F:aM P w K mg base CX k f fd ps sp)
  (h:∀vs H Q E,sp' vs H Q E→sp vs H Q E):aM P w K mg base CX k f fd ps sp':=
 ⟨fun vs H Q E q=>F.len vs H Q E (h _ _ _ _ q),fun A outer s H args us vs Q E hr he hb hv hs=>F.run A outer s H args us vs Q E hr he hb hv (h _ _ _ _ hs)⟩
theorem oh.make{P:aG}{w:av}{K:aq}{mg:Str→Option Value}{base:Heap}{A:bH}{outer:List Env}{s:Shared}{H:Hp}(e:oh P w K mg base A outer s H)(C:Addr)(us:List Value)(kw:List (Str×Value)):
  oh P w K mg base (A.under (.builtin "type.__call__" ⟨.ref C::us,kw⟩)) outer s H:=⟨by first|exact e.frames|(simpa[E6,Code.envs,Fg,pushEnvs]using e.frames),e.mod,e.bs,e.bsz,e.funs,e.frf,e.hok,e.bare⟩
section
variable{X:Cx}{aa:List (Addr×Obj)}{σ : St}{H:Hp}{s s':Shared}
theorem ag.env0(I:ag X aa σ H s):oh X.prog X.w X.K X.mg X.base X.A X.stack s H:=
 ⟨I.ok.frames,I.ok.mod,I.bs,cB I.ok.bsz I.sz,I.stack,I.stkFree,I.hok,I.bare⟩
theorem ag.after{Q:VK}{u:Value}(I:ag X aa σ H s)(h:CE X.stack X.prog X.w H s Q u s'):EP X aa σ Q u s':=by
 obtain⟨v,H',os,bare,un,hok,r,q⟩:=h;obtain⟨hh,g,d,t,os'⟩:=s';obtain rfl:os'=s.os:=os;exact⟨v,H',I.call (h':=hh) (g':=g) (d':=d) (t':=t) (ch:=[]) un hok bare (fun b z=>absurd z (by simp)),r,q⟩
end
def sH(sp:Sp)(dvs:List V)(E:XK)(t:TA):TE:=fun σ H Q=>t σ H fun vs H1=>sp (vs++dvs) H1 Q E
def Hw(C:Addr)(m:Str)(sp:Sp)(dvs:List V)(E:XK)(ta:TE)(t:TA):TE:=fun σ H Q=>ta σ H fun x H1=>∃a dx fs,x=.ref a∧H1 a=some (.ins C dx fs)∧fs.lookup m=none∧
 t σ H1 fun vs H2=>sp (x::(vs++dvs)) H2 Q E
def fH(K:aq)(fd:FuncData)(ps:List Str)(ds:List Value):Prop:=
 ∀(s:Shared) (us:List Value),K.In s.heap→(us++ds).length=ps.length→mX s fd ⟨us,[]⟩ (ps.zip (us++ds))
theorem fH.all{K:aq}{fd:FuncData}{ps:List Str}(h:∀us:List Value,us.length=ps.length→AF fd ⟨us,[]⟩=pure (ps.zip us)):fH K fd ps []:=fun s us _ hl=>by
 rw[gg]at hl⊢;exact .of_eq (h us hl)
def jv(CX:c9)(X:Cx)(E:XK):Prop:=∀(aa:List (Addr×Obj)) (σ : St) (H:Hp) (s:Shared) (e:Value) (s':Shared),ag X aa σ H s→CX X.stack H s E e s'→X.xe e s'
section
variable{X:Cx}{CX:c9}{k:Nat}{f C:Addr}{fd:FuncData}{ps:List Str}{sp:Sp}{dvs:List V}{ds:List Value}{E:XK}{x m:Str}{p pos apos:Pos}{e o:Expr}{es:List Expr}{ta:TE}{t:TA}
theorem uo{aa:List (Addr×Obj)}{σ : St}{H:Hp}{s:Shared}{Q:VK}{us:List Value}{vs:List V}(F:aM X.prog X.w X.K X.mg X.base CX k f fd ps sp)(hr:cA k X.A)(hb:fH X.K fd ps ds)(hd:aP dvs ds)(hx:jv CX X E)
  (I:ag X aa σ H s) (r:aP vs us) (h:sp (vs++dvs) H Q E):ax (au X.prog X.w) X.A (call (.ref f) us) (EP X aa σ Q) X.xe s:=by
 have r2:aP (vs++dvs) (us++ds):=r.append hd;have hl:(us++ds).length=ps.length:=by rw[←r2.length];exact F.len _ _ _ _ h
 refine AN (rQ (F.run X.A X.stack s H ⟨us,[]⟩ (us++ds) (vs++dvs) Q E hr I.env0 (hb s us I.kIn hl) r2 h) fun r s' hq=>?_);cases r with
 |error e=>exact hx aa σ H s e s' I hq
 |ok fl=>
  cases fl with
  |ret u=>exact I.after hq
  |next=>exact ej hq
  |brk=>exact ej hq
  |cont=>exact ej hq
theorem aX(F:aM X.prog X.w X.K X.mg X.base CX k f fd ps sp)(hr:cA k X.A)(hg:Gl X x)(hm:X.mg x=some (.ref f))(hk:js X.K (.ref f)=true)(hb:fH X.K fd ps ds)(hd:aP dvs ds)(hx:jv CX X E)
  (ha:PA X (e::es) t) (hdb:(x==("__debug__" : Str))=false:=by decide) (he:bz (e::es) X.env=(false,eval e X.env)::bz es X.env:=by rfl) (hpl:(dN pos (bz es X.env)).any (·.1)=false:=by rfl) :
  PE X (.Call (.Name x p) (e::es) [] pos) (sH sp dvs E t):=by
 intro aa s σ H Q I h;refine nL (mV I hg hm ?_ hdb);refine ny (h₀:=X.base) I.ok.mod.kin hk (aK (ha pos aa s σ H _ I h) fun us s1 ⟨vs,H1,I1,r,q⟩=>⟨I1.kIn,?_⟩) he hpl;exact uo F hr hb hd hx I1 r q
theorem Eu{pl:Sem Bool}(he:PE X o ta)(c:fG X.K C)(hm:fM X.K C m f)(F:aM X.prog X.w X.K X.mg X.base CX k f fd ps sp)(hr:cA k X.A)(hb:fH X.K fd ps ds)(hd:aP dvs ds)(hx:jv CX X E)(ha:PA X (e::es) t)
  (hst:bz (e::es) X.env=(false,eval e X.env)::bz es X.env:=by rfl) (hpl:(dN pos (bz es X.env)).any (·.1)=false:=by rfl)
  (ht:eval (.Call (.Attribute o m apos) (e::es) [] pos) X.env=(do
   let ov ←eval o X.env
   standAt apos.atName
   let(f,first) ←holding [ov] (getMethod ov m pl)
   vH pos f first (dN pos (bz (e::es) X.env)) (vG pos (vO [] X.env))):=by rfl) :
  PE X (.Call (.Attribute o m apos) (e::es) [] pos) (Hw C m sp dvs E ta t):=by
 intro aa s σ H Q I h;refine Aw (pl:=pl) (aK (he aa s σ H _ I h) fun u s1 aA=>?_) ht;obtain⟨x,H1,I1,rx,a,dx,fs,ex,ea,l,q⟩:=aA;subst ex;obtain rfl:u=aZ a:=rx;refine wu I1 ea c hm l ?_;refine ny (first:=[.ref a]) (h₀:=X.base) I.ok.mod.kin hm.kp (aK (ha pos aa s1 σ H1 _ I1 q) fun us s2 ⟨vs,H2,I2,r,q2⟩=>⟨I2.kIn,?_⟩) hst hpl;exact uo (us:=.ref a::us) (vs:=.ref a::vs) F hr hb hd hx I2 (.cons rfl r) q2
structure Mk(K:aq)(C f:Addr):Prop where
 makes:Pp K C=true
 init:jr K (.ref C) "__init__" = some (some (.ref f))
 fn:FP K (.ref f)=true
 kp:js K (.ref C)=true
theorem NQ{aa:List (Addr×Obj)}{σ : St}{H:Hp}{s:Shared}{Q:VK}{us:List Value}{vs:List V}(M:Mk X.K C f)(F:aM X.prog X.w X.K X.mg X.base CX k f fd ps sp)(hr:cA (k+1) X.A)(hb:fH X.K fd ps ds)(hd:aP dvs ds)
  (hx:jv CX X E) (I:ag X aa σ H s) (r:aP vs us)
  (h:∀x dx,H x=none→H dx=none→dx≠x→sp (.ref x::(vs++dvs)) (upd (upd H dx (.own x)) x (.ins C dx [])) (fun v H2=>v=.non∧Q (.ref x) H2) E) :
  ax (au X.prog X.w) X.A (call (.ref C) us) (EP X aa σ Q) X.xe s:=by
 have hq:=h (s.heap.objs.size+1) s.heap.objs.size (I.hok.fresh (pR _)) (I.hok.fresh (bv _)) (cC (pS _));have I2:=ag.made (C:=C) I;have r2:aP (V.ref (s.heap.objs.size+1)::(vs++dvs)) (aZ (s.heap.objs.size+1)::(us++ds)):=.cons rfl (r.append hd);have hl:(aZ (s.heap.objs.size+1)::us++ds).length=ps.length:=by
  have e:=r2.length;rw[F.len _ _ _ _ hq]at e;exact e.symm
 refine AN (J8 (f:=f) I.kIn M.makes M.init (beq_iff_eq.mp M.fn) (rQ (F.run _ X.stack _ _ ⟨aZ (s.heap.objs.size+1)::us,[]⟩ (aZ (s.heap.objs.size+1)::(us++ds)) _ _ E (hr.make C us [])
  (I2.env0.make C us []) (hb _ (aZ (s.heap.objs.size+1)::us) I2.kIn hl) r2 hq) fun r s' hq'=>?_))
 cases r with
 |error e=>exact hx aa σ _ _ e s' I2 hq'
 |ok fl=>
  cases fl with
  |ret u=>
   obtain⟨v,H',I3,rv,ev,q3⟩:=I2.after hq';subst ev;exact⟨rv,⟨V.ref (s.heap.objs.size+1),H',I3,rfl,q3⟩⟩
  |next=>exact ej hq'
  |brk=>exact ej hq'
  |cont=>exact ej hq'
end
section
variable{X:Cx}{CX:c9}{k:Nat}{f C:Addr}{fd:FuncData}{ps ks:List Str}{sp:Sp}{E:XK}{x m:Str}{p pos apos kpos:Pos}{e o:Expr}{es:List Expr}{kws:List Keyword}{te ta:TE}{t tk:TA}{nm:Option Str}
structure aey(K:aq)(fd:FuncData)(ps ks:List Str)(g:List Value→List Value→List Value)(gV:List V→List V→List V):Prop where
 to:∀(s:Shared) (us ws:List Value),K.In s.heap→(g us ws).length=ps.length→mX s fd ⟨us,ks.zip ws⟩ (ps.zip (g us ws))
 rel:∀{vs:List V} {us:List Value} {zs:List V} {ws:List Value},aP vs us→aP zs ws→aP (gV vs zs) (g us ws)
variable{g:List Value→List Value→List Value}{gV:List V→List V→List V}
end
structure aY(N P:List Str)(sc:cQ):Prop where
 kind:sc.kind=.function
 co:sc.isCoroutine=false
 gen:sc.isGenerator=false
 nd:N.Nodup
 pre:N.take P.length=P
 par:∀x∈P,sc.names.lookup x=some .local∨sc.names.lookup x=some .cell
 nofree:∀y∈sc.names,y.2≠.free
theorem Ml{kindOf:Str→Option NameKind}{x:Str}:∀{binds:List (Str×Value)} {m:Str→Option Value},(∀v,(x,v)∉binds)→nJ kindOf binds m x=m x
 |[],_,_=>rfl
 |(n,v)::r,m,h=>by
  unfold nJ;rw[Ml fun w hw=>h w (jp _ hw)];split
  ·have:x≠n:=by rintro rfl;exact h v m9
   simp[this]
  ·rfl
theorem LW{kindOf:Str→Option NameKind}{x:Str}:∀{binds:List (Str×Value)} {m:Str→Option Value},(∀v,(x,v)∉binds)→nI kindOf binds m x=m x
 |[],_,_=>rfl
 |(n,v)::r,m,h=>by
  unfold nI;rw[LW fun w hw=>h w (jp _ hw)];split
  ·rfl
  ·have:x≠n:=by rintro rfl;exact h v m9
   simp[this]
theorem KL{kindOf:Str→Option NameKind}{x:Str}{v:Value}:∀{P:List Str} {vs:List Value} {i:Nat} {m:Str→Option Value},P.Nodup→P[i]?=some x→vs[i]?=some v→kindOf x=some .local→
  nJ kindOf (P.zip vs) m x=some v
 |[],_,_,_,_,h,_,_=>by simp at h
 |_::_,[],_,_,_,_,h,_=>by simp at h
 |p::P,w::vs,0,m,nd,h1,h2,hk=>by
  simp at h1 h2;subst h1;subst h2;show nJ kindOf ((p,w)::P.zip vs) m p=_;unfold nJ;rw[Ml fun v hv=>(vo.mp nd).1 (FE hv).1,if_pos hk];simp
 |p::P,w::vs,i+1,m,nd,h1,h2,hk=>by
  show nJ kindOf ((p,w)::P.zip vs) m x=_;unfold nJ;exact KL (i:=i) (vo.mp nd).2 (by simpa using h1) (by simpa using h2) hk
theorem JY{kindOf:Str→Option NameKind}{x:Str}{v:Value}:∀{P:List Str} {vs:List Value} {i:Nat} {m:Str→Option Value},P.Nodup→P[i]?=some x→vs[i]?=some v→kindOf x≠some .local→
  nI kindOf (P.zip vs) m x=some v
 |[],_,_,_,_,h,_,_=>by simp at h
 |_::_,[],_,_,_,_,h,_=>by simp at h
 |p::P,w::vs,0,m,nd,h1,h2,hk=>by
  simp at h1 h2;subst h1;subst h2;show nI kindOf ((p,w)::P.zip vs) m p=_;unfold nI;rw[LW fun v hv=>(vo.mp nd).1 (FE hv).1,if_neg hk];simp
 |p::P,w::vs,i+1,m,nd,h1,h2,hk=>by
  show nI kindOf ((p,w)::P.zip vs) m x=_;unfold nI;exact JY (i:=i) (vo.mp nd).2 (by simpa using h1) (by simpa using h2) hk
def jx(N:List Str)(vs:List V):St:=vs.map some++nh (N.length-vs.length) none
def aR(CX:c9)(P:aG)(w:av)(K:aq)(mg:Str→Option Value)(base:Heap)(N:List Str)(qual:Str)(scope:cQ)(f:Addr)(cd:Value)(A:bH)(outer:List Env)(s:Shared)(H:Hp)(E:XK):Cx where
 prog:=P
 w:=w
 K:=K
 mg:=mg
 base:=base
 A:=A.deeper (jU qual scope s.heap.objs.size f cd)
 N:=N
 s₀:=s
 H₀:=H
 env:=jU qual scope s.heap.objs.size f cd
 outer:=outer
 stack:=jU qual scope s.heap.objs.size f cd::outer
 ex:=[]
 calm:=true
 fn:=fun _=>true
 pn:=[]
 xe:=fun e s'=>ax (au P w) (A.deeper (jU qual scope s.heap.objs.size f cd)) (ja (jU qual scope s.heap.objs.size f cd) e) (fun _ s''=>CX outer H s E e s'') (fun e' s''=>CX outer H s E e' s'') s'
theorem Jm{sc:cQ}{n:Nat}{x:Str}(h:sc.names.lookup x=some .cell):∃c,(F5 n sc.names []).lookup x=some c:=by
 have q:=Pk sc.names n [] (.inl h);exact Option.isSome_iff_exists.mp q
theorem Zx{CX:c9}{P:aG}{w:av}{K:aq}{mg:Str→Option Value}{base:Heap}{N ps:List Str}{qual:Str}{scope:cQ}{f:Addr}{cd:Value}{A:bH}{outer:List Env}{s s1:Shared}{H:Hp}{E:XK}{us:List Value}{vs:List V}
  (S:aY N ps scope) (hd:A.handled=none) (e0:oh P w K mg base A outer s H) (hl:vs.length=ps.length) (r:aP vs us)
  (x:InCallC s s.heap.objs.size (nJ (jU qual scope s.heap.objs.size f cd).kindOf (ps.zip us) fun _=>none) (F5 (s.heap.objs.size+1) scope.names []) (nI (jU qual scope s.heap.objs.size f cd).kindOf (ps.zip us) fun _=>none) s1) :
  ag (aR CX P w K mg base N qual scope f cd A outer s H E) [] (jx N vs) H s1:=by
 have hpl:ps.length≤N.length:=by have:=congrArg List.length S.pre;rw[pN]at this;omega
 obtain⟨h1,tk,rfl,hk⟩:=x.done;have noA:∀b:Addr,b∉(aR CX P w K mg base N qual scope f cd A outer s H E).ex:=fun b z=>absurd (show b∈([]:List Addr)from z) (by simp);refine⟨⟨e0.mod,S.kind,rfl,rfl,bv _,fun y z c h1 h2=>?_,fun y hy=>?_,fun y c _ h=>?_,fun _=>hd,Around.frames_deeper e0.frames,.inr ⟨rfl,rfl⟩,fun b z=>absurd z (noA b),e0.bs,e0.bsz,fun b _ _=>noA b,fun b z=>absurd z (noA b),e0.funs,e0.frf⟩,
  rfl,e0.bare,Un.kept hk,⟨_,x.toInCall.ns,fun i y v h1 h2 h3=>?_⟩,fun y c h=>⟨_,x.cell y c h⟩,e0.hok.fresh (bv _),fun y c h=>?_,fun p hp=>absurd (show p∈([]:List (Addr×Obj))from hp) (by simp),e0.hok.kept hk,?_⟩
 ·exact name_of_addr x.apart (pV h1) (pV h2)
 ·have hy:scope.names.lookup y=some .cell∨scope.names.lookup y=some .free:=hy;rcases hy with hy|hy
  ·exact Jm hy
  ·exact absurd rfl (S.nofree _ (pV hy))
 ·exact Ak (x.above y c (pV h))
 ·have hi:i<vs.length:=by
   unfold jx at h2;by_cases hi:i<vs.length
   ·exact hi
   ·rw[iY (by simpa using hi)]at h2;rw[Fy]at h2;split at h2<;>cases h2
  have ha:vs[i]?=some v:=by
   unfold jx at h2;rw[rE (by simpa using hi),iC]at h2;cases e:vs[i]? with
   |none=>rw[e]at h2;cases h2
   |some a=>rw[e]at h2;cases h2;rfl
  obtain⟨u,hu,rv⟩:=r.get ha;have hp:ps[i]?=some y:=by
   rw[←S.pre,Oz (by omega)];exact h1
  have ndP:ps.Nodup:=by rw[←S.pre];exact S.nd.sublist (List.take_sublist _ _)
  refine⟨u,rv,?_⟩;rcases S.par y (fw hp)with k|k
  ·exact .inl ⟨k,KL ndP hp hu k⟩
  ·obtain⟨c,e⟩:=Jm (n:=s.heap.objs.size+1) k;refine .inr ⟨.inl k,c,e,?_⟩;have q:=x.cell y c e;rw[JY ndP hp hu (by show scope.names.lookup y≠_;rw[k];decide)]at q;exact q
 ·exact e0.hok.fresh (Ak (x.above y c (pV h)))
 ·unfold jx;show _=N.length;rw[dm,bo,lU];omega
theorem A5{CX:c9}{P:aG}{w:av}{K:aq}{mg:Str→Option Value}{base:Heap}{k:Nat}{f:Addr}{name qual:Str}{params:Arguments}{body:List aw}{scope:cQ}{dV kV doc pm bM ct oc:Value}{an od:Option Addr}
  {osl:Array (Option Value)} {N ps:List Str} {sp:Sp} (lk:K.lookup f=some ⟨oc,od,.func (fB name qual params body scope dV kV doc pm an bM ct),osl⟩) (hcd:nA K bM qual=true) (S:aY N ps scope)
  (len:∀vs H Q E,sp vs H Q E→vs.length=ps.length)
  (hbody:∀(A:bH) (outer:List Env) (s:Shared) (H:Hp) (vs:List V) (Q:VK) (E:XK),cA k (A.deeper (jU qual scope s.heap.objs.size f bM))→sp vs H Q E→
   ∃t,fq (aR CX P w K mg base N qual scope f bM A outer s H E) body t∧t {nx:=fun _ H'=>Q .non H',rt:=Q} (jx N vs) H) :
  aM P w K mg base CX (k+1) f (fB name qual params body scope dV kV doc pm an bM ct) ps sp:=by
 refine⟨len,fun A outer s H args us vs Q E hr e0 hb r hsp=>?_⟩;have hl:=len _ _ _ _ hsp;have KX:K.In s.heap:=e0.mod.kin.keeps fun b o e=>(e0.bs b o e).1;have lim:s.heap.NoLimit:=e0.mod.nolimit.keeps fun b o e=>(e0.bs b o e).1;have hkind:∀y∈ps.zip us,scope.names.lookup y.1=some .local∨(scope.names.lookup y.1=some .cell∧((F5 (s.heap.objs.size+1) scope.names []).lookup y.1).isSome=true):=fun⟨n,v⟩ hy=>by
  rcases S.par n (FE hy).1 with q|q
  ·exact .inl q
  ·exact .inr ⟨q,Pk _ _ _ (.inl q)⟩
 refine codeAny_call_function hr.depth (KX _ _ lk) rfl S.co S.gen rfl (PySem.W.codeRec_of KX hcd) (hb _ _ _ _ ?_);refine wpAny_newFunctionEnv_cells S.kind hkind fun env he s1 x=>?_;subst he;refine⟨lim.keeps x.toInCall.keep,codeAny_func ?_⟩;obtain⟨t,ht,hq⟩:=hbody A outer s H vs Q E (hr.deeper _) hsp;have I:ag (aR CX P w K mg base N qual scope f bM A outer s H E) [] (jx N vs) H s1:=Zx S hr.hd e0 hl r x;refine bT (ht [] s1 (jx N vs) H _ I hq) (fun fl s' hs=>?_) fun e s' hs=>hs;have fin:∀{σ':St} {H':Hp} {v:V} {u:Value},ag (aR CX P w K mg base N qual scope f bM A outer s H E) [] σ' H' s'→bc v u→Q v H'→CE outer P w H s Q u s':=
  fun{σ' H' v u} J rv q=>⟨v,H',J.os,J.bare,J.base,J.hok,rv,q⟩
 cases fl with
 |ret u=>
  obtain⟨v,σ',H',J,rv,q⟩:=hs;exact fin J rv q
 |next=>
  obtain⟨σ',H',J,q⟩:=hs;exact fin (v:=V.non) (u:=cE) J rfl q
 |brk=>
  obtain⟨_,_,_,q⟩:=hs;exact ej q
 |cont=>
  obtain⟨_,_,_,q⟩:=hs;exact ej q
section
variable{X:Cx}{x:Str}{p pos:Pos}{e:Expr}{es:List Expr}{t:TA}{id T:String}{r:List V→Hp→VK→Prop}
def C1(r:List V→Hp→VK→Prop)(t:TA):TE:=fun σ H Q=>t σ H fun vs H1=>r vs H1 Q
theorem bP(hc:gu X (.builtin id) r)(hg:Gl X x)(hm:X.mg x=none)(hv:fU x=some (.builtin id))(ha:PA X (e::es) t)(hn:x≠"__name__":=by decide)(hdb:(x==("__debug__" : Str))=false:=by decide)
  (he:bz (e::es) X.env=(false,eval e X.env)::bz es X.env:=by rfl) (hpl:(dN pos (bz es X.env)).any (·.1)=false:=by rfl):PE X (.Call (.Name x p) (e::es) [] pos) (C1 r t):=by
 intro aa s σ H Q I h;refine nL (qf I hg hm hv ?_ hn hdb);exact acS (aK (ha pos aa s σ H _ I h) fun us s1 ⟨vs,H1,I1,r1,q1⟩=>hc aa s1 σ H1 vs us Q I1 r1 q1) he hpl
theorem gj(hc:gu X (.type T) r)(hg:Gl X x)(hm:X.mg x=none)(hv:fU x=some (.type T))(ha:PA X (e::es) t)(hn:x≠"__name__":=by decide)(hdb:(x==("__debug__" : Str))=false:=by decide)
  (he:bz (e::es) X.env=(false,eval e X.env)::bz es X.env:=by rfl) (hpl:(dN pos (bz es X.env)).any (·.1)=false:=by rfl):PE X (.Call (.Name x p) (e::es) [] pos) (C1 r t):=by
 intro aa s σ H Q I h;refine nL (qf I hg hm hv ?_ hn hdb);exact Aq (aK (ha pos aa s σ H _ I h) fun us s1 ⟨vs,H1,I1,r1,q1⟩=>hc aa s1 σ H1 vs us Q I1 r1 q1) he hpl
end
end L2
namespace HT
open PySem PyProof.Rows
section
open PySem.SeqAt
open PySem.AutoSeq1 (wpAny_loadPart')
open PySem.MeetsSeq PySem.MeetsSeq2 PySem.MeetsSeq3
end
section
variable{prog:aG}{w:av}{A:bH}{E:Value→Shared→Prop}{s:Shared}
def eU(n d:Nat):Option Int→Nat
 |none=>d
 |some v=>if v<0 then(v+(n:Int)).toNat else min v.toNat n
theorem Rc(n d:Nat):eU n d none=d:=rfl
theorem BU(n d k:Nat):eU n d (some (k:Int))=min k n:=by
 show(if(k:Int)<0 then((k:Int)+(n:Int)).toNat else min (k:Int).toNat n)=min k n;rw[if_neg (by omega),mZ]
end
end HT
namespace L2
open PySem PySem.Spec PyProof.Rows
abbrev TO:=St→Hp→(Option Int→Hp→Prop)→Prop
def PO(X:Cx)(e:Option Expr)(t:TO):Prop:=
 ∀(aa:List (Addr×Obj)) (s:Shared) (σ : St) (H:Hp) (Q:Option Int→Hp→Prop),ag X aa σ H s→t σ H Q→
  ax (au X.prog X.w) X.A (evalPart e X.env) (fun u s'=>∃o H',ag X aa σ H' s'∧IsPart u o∧Q o H') X.xe s
def HJ:TO:=fun _ H Q=>Q none H
def Ho(t:TE):TO:=fun σ H Q=>t σ H fun x H1=>∃i,x=.int i∧Q (some i) H1
section
variable{X:Cx}{e:Expr}{te:TE}{lo hi:Option Expr}{tl th:TO}{pos p2:Pos}
theorem mU:PO X none HJ:=by
 intro aa s σ H Q I h;rw[PU];exact wpAny_pure ⟨none,H,I,.none,h⟩
theorem kj(h:PE X e te):PO X (some e) (Ho te):=by
 intro aa s σ H Q I hw;rw[evalPart_some];refine aK (h aa s σ H _ I hw) fun u s1 ⟨x,H1,I1,r1,q1⟩=>?_;obtain⟨i,rfl,q⟩:=q1;obtain⟨t,rfl⟩:=r1;exact⟨some i,H1,I1,.int i t,q⟩
def kX(X:Cx)(r:V→Option Int→Option Int→Hp→VK→Prop):Prop:=
 ∀(aa:List (Addr×Obj)) (s:Shared) (σ : St) (H:Hp) (x:V) (v vl vu:Value) (lo hi:Option Int) (sl:Addr) (Q:VK),ag X aa σ H s→bc x v→s.heap.IsSliceOf sl vl vu .none→IsPart vl lo→IsPart vu hi→r x lo hi H Q→
  ∃T id,typeLookup (.type T) "__getitem__" = pure (some (.builtin id))∧s.TypeIs v T∧ax (au X.prog X.w) X.A (getItem v (.ref sl)) (EP X aa σ Q) X.xe s
def Ia(r:V→Option Int→Option Int→Hp→VK→Prop)(te:TE)(tl th:TO):TE:=fun σ H Q=>te σ H fun x H1=>tl σ H1 fun l H2=>th σ H2 fun u H3=>r x l u H3 Q
theorem lj{r:V→Option Int→Option Int→Hp→VK→Prop}(hr:kX X r)(he:PE X e te)(hl:PO X lo tl)(hu:PO X hi th):PE X (.Subscript e (.Slice lo hi none p2) pos) (Ia r te tl th):=by
 intro aa s σ H Q I h;refine Subscript_ (aK (he aa s σ H _ I h) fun v s1 aA=>?_);obtain⟨x,H1,I1,r1,q1⟩:=aA;refine wpAny_Slice (aK (hl aa s1 σ H1 _ I1 q1) fun vl s2 ⟨l,H2,I2,pl,q2⟩=>aK (hu aa s2 σ H2 _ I2 q2) fun vu s3 aA=>?_);obtain⟨u,H3,I3,pu,q3⟩:=aA;rw[PU];refine wpAny_pure ?_;have I4:ag X aa σ H3 {s3 with heap:=s3.heap.push {cls:=.type "slice",data:=.fields #[vl,vu,.none]}}:=I3.kept (t':=s3.toks) fun b ob q=>dL _ q;obtain⟨T,id,hT,ht,hg⟩:=hr aa {s3 with heap:=s3.heap.push {cls:=.type "slice",data:=.fields #[vl,vu,.none]}} σ H3 x v vl vu l u s3.heap.objs.size Q I4 r1 (acP ..) pl pu q3;show ax (au X.prog X.w) X.A (Qc e (.Slice lo hi none p2) v (.ref s3.heap.objs.size)) (EP X aa σ Q) X.xe {s3 with heap:=s3.heap.push {cls:=.type "slice",data:=.fields #[vl,vu,.none]}};exact AK (ops:=[.ref s3.heap.objs.size,v]) ht hT hg (by with_unfolding_all rfl)
def j6(xs:List V)(lo hi:Option Int):List V:=(xs.drop (HT.eU xs.length 0 lo)).take (HT.eU xs.length xs.length hi-HT.eU xs.length 0 lo)
theorem SX(xs:List V)(lo hi:Option Int):(j6 xs lo hi).length≤xs.length:=by
 unfold j6;exact cB (List.length_take_le' _ _) (by rw[OB];exact Nat.sub_le _ _)
end
def mm(n:Nat)(i:Int):Option Nat:=if 0≤i then(if i<n then some i.toNat else none)else if -(n:Int)≤i then some (i+n).toNat else none
def cw{α : Type}(xs:List α)(i:Int):Option α:=(mm xs.length i).bind fun j=>xs[j]?
theorem Mq{n:Nat}{i:Int}{j:Nat}(h:mm n i=some j):seqIndex? i n=some j∧j<n∧-(n:Int)≤i∧i<n:=by
 unfold mm at h;by_cases h0:0≤i
 ·rw[if_pos h0]at h;by_cases h1:i<n
  ·rw[if_pos h1]at h;have e:i.toNat=j:=cP h;exact⟨by rw[Ge h0 h1,e],by omega,by omega,h1⟩
  ·rw[if_neg h1]at h;cases h
 ·rw[if_neg h0]at h;by_cases h1:-(n:Int)≤i
  ·rw[if_pos h1]at h;have e:(i+n).toNat=j:=cP h;exact⟨by rw[Gd (by omega) h1,e],by omega,h1,by omega⟩
  ·rw[if_neg h1]at h;cases h
theorem Eg{α : Type}{xs:List α}{i:Int}{v:α}(h:cw xs i=some v):∃j,seqIndex? i xs.length=some j∧xs[j]?=some v∧j<xs.length∧-(xs.length:Int)≤i∧i<xs.length:=by
 unfold cw at h;cases e:mm xs.length i with
 |none=>rw[e]at h;cases h
 |some j=>
  rw[e]at h;obtain⟨h1,h2,h3,h4⟩:=Mq e;exact⟨j,h1,h,h2,h3,h4⟩
theorem ox{α : Type}{xs:List α}{j:Nat}{v:α}(h:xs[j]?=some v):cw xs (j:Int)=some v:=by
 have hj:j<xs.length:=(gO.mp h).1;have e:mm xs.length (j:Int)=some j:=by
  unfold mm;rw[if_pos (by omega),if_pos (by omega)];simp
 unfold cw;rw[e];exact h
def Sf(b:Expr):Prop:=∀o i,subscripted b false o i=operate [o,i] (getItem o i)
def lv(X:Cx)(r:R2):Prop:=
 ∀(value slice:Expr) (aa:List (Addr×Obj)) (s:Shared) (σ : St) (H:Hp) (x y:V) (v u:Value) (Q:VK),ag X aa σ H s→bc x v→bc y u→r x y H Q→
  subscripted slice false v u=operate [v,u] (getItem v u)→ax (au X.prog X.w) X.A (Qc value slice v u) (EP X aa σ Q) X.xe s
def oM(X:Cx)(id:String)(r:V→List V→Hp→VK→Prop):Prop:=
 ∀(aa:List (Addr×Obj)) (s:Shared) (σ : St) (H:Hp) (x:V) (xs:List V) (v:Value) (us:List Value) (Q:VK),ag X aa σ H s→bc x v→aP xs us→r x xs H Q→
  ax (au X.prog X.w) X.A (call (.builtin id) (v::us)) (EP X aa σ Q) X.xe s
section
variable{X:Cx}{a b:Expr}{ta tb:TE}{pos:Pos}
theorem aI{r:R2}(hr:lv X r)(ha:PE X a ta)(hb:PE X b tb)(hs:Sf b):PE X (.Subscript a b pos) (sV r ta tb):=by
 intro aa s σ H Q I h;exact Subscript_ (A6 ha hb I h fun v u s2 x y H2 I2 rx ry q=>hr a b aa s2 σ H2 x y v u Q I2 rx ry q (hs _ _))
def EI(K:aq):R2:=fun x y H Q=>∃p xs i v,x=.ref p∧y=.int i∧ay K H p xs∧cw xs i=some v∧Q v H
def Ec(K:aq):R2:=fun x y H Q=>∃p xs i v,x=.ref p∧y=.int i∧di K H p xs∧cw xs i=some v∧Q v H
def Ic:R2:=fun x y H Q=>∃z i c,x=.str z∧y=.int i∧z.length≤sizeLine∧cw z.cps.toList i=some c∧Q (.str ⟨#[c]⟩) H
theorem Vq:lv X (EI X.K):=by
 intro value slice aa s σ H x y v u Q I rx ry h hs;obtain⟨p,xs,i,z,rfl,rfl,hq,he,q⟩:=h;cases rx;obtain⟨t,rfl⟩:=ry;obtain⟨its,r,pl,hz⟩:=I.list hq;obtain⟨j,h1,h2,h3,h4,h5⟩:=Eg he;obtain⟨w,ew,rw'⟩:=r.get h2;have hl:=r.length;have hn:=pH;have fin:EP X aa σ Q w s:=⟨z,H,I,rw',q⟩;by_cases h0:0≤i
 ·have hj:i.toNat=j:=by
   rw[Ge h0 h5]at h1;exact cP h1
  exact item_listR pl.isList h0 (by omega) (by rw[hj];simpa using ew) fin hs
 ·have hj:(i+(its.toArray.size:Int)).toNat=j:=by
   rw[Gd (by omega) h4]at h1;rw[dM,←hl];exact cP h1
  exact Qe (x:=w) pl.isList.typeIs Qa.lookup
   (wpAny_getItem_list_neg (Q:=fun r s'=>r=w∧EP X aa σ Q r s') pl.isList (by omega) (by rw[dM]<;>omega) (by omega) (by rw[hj];simpa using ew) ⟨rfl,fin⟩) hs
theorem TD:lv X (Ec X.K):=by
 intro value slice aa s σ H x y v u Q I rx ry h hs;obtain⟨p,xs,i,z,rfl,rfl,hq,he,q⟩:=h;cases rx;obtain⟨t,rfl⟩:=ry;obtain⟨its,r,pl,hz⟩:=I.tuple hq;obtain⟨j,h1,h2,h3,h4,h5⟩:=Eg he;obtain⟨w,ew,rw'⟩:=r.get h2;have hl:=r.length;have hn:=pH;have fin:EP X aa σ Q w s:=⟨z,H,I,rw',q⟩;exact Qe (x:=w) pl.typeIs slot_tuple_getitem.lookup
  (getItem_tuple (j:=j) (Q:=fun r s'=>r=w∧EP X aa σ Q r s') pl (by omega) (by omega) (by rw[dM,←hl];exact h1) (by simpa using ew) ⟨rfl,fin⟩) hs
theorem Bz:lv X Ic:=by
 intro value slice aa s σ H x y v u Q I rx ry h hs;obtain⟨z,i,c,rfl,rfl,hz,he,q⟩:=h;obtain⟨t,rfl⟩:=rx;obtain⟨t',rfl⟩:=ry;obtain⟨j,h1,h2,h3,h4,h5⟩:=Eg he;have hl:z.cps.toList.length=z.length:=by simp[Str.length]
 rw[hl]at h1 h4 h5;have hn:=pH;exact AK (kN s z t) slot_str_getitem.lookup (getItem_str (c:=c) (by
  have e1:decide (i < -(2^63:Int))=false:=decide_eq_false (by omega);have e2:decide (i≥2^63)=false:=decide_eq_false (by omega);rw[e1,e2,E9]) (by rw[h1];simpa using h2) ⟨.str ⟨#[c]⟩,H,I.tok _,⟨_,rfl⟩,q⟩) hs
theorem Vm(its:List Value)(n j:Nat)(u:Value):vt (·.setIfInBounds j u) {cls:=.type "list",data:=.seq its.toArray n}={cls:=.type "list",data:=.seq (its.set j u).toArray n}:=by
 simp[vt]
theorem ag.lst{aa:List (Addr×Obj)}{σ : St}{H:Hp}{s:Shared}{p:Addr}{xs:List V}(I:ag X aa σ H s)(h:H p=some (.lst xs)):
  ∃(its:List Value) (n:Nat),aP xs its∧s.heap.get? p=some {cls:=.type "list",data:=.seq its.toArray n}∧xs.length≤sizeLine:=by
 obtain⟨z,its,n,r,e⟩:=I.hok p _ h;exact⟨its,n,r,e,z⟩
theorem ag.lstUpd{aa:List (Addr×Obj)}{σ : St}{H:Hp}{s:Shared}{p:Addr}{xs ys:List V}{its its':List Value}{n n':Nat}{f:Obj→Obj}(I:ag X aa σ H s)(h:H p=some (.lst xs))
  (ho:s.heap.get? p=some {cls:=.type "list",data:=.seq its.toArray n}) (hf:f {cls:=.type "list",data:=.seq its.toArray n}={cls:=.type "list",data:=.seq its'.toArray n'}) (r:aP ys its') (hz:ys.length≤sizeLine) (t:Nat) :
  ag X aa σ (upd H p (.lst ys)) {s with heap:=s.heap.update p f,toks:=t}:=by
 have e:(s.heap.update p f).get? p=some {cls:=.type "list",data:=.seq its'.toArray n'}:=by
  rw[kI f ho (by rw[hf]<;>rfl),hf]
 refine I.write (x:=p) (e:=p) (by rw[h];trivial) (.inl rfl) (fun b u hb q=>(iB _ _ (cH hb)).trans q) ⟨_,e⟩ ?_;exact⟨hz,its',n',r,e⟩
def UN:V→V→V→Hp→(Hp→Prop)→Prop:=fun o i v H Q=>∃p xs k j,o=.ref p∧i=.int k∧H p=some (.lst xs)∧mm xs.length k=some j∧Q (upd H p (.lst (xs.set j v)))
theorem WT:ph X UN:=by
 intro aa s σ H o i v ov iv u Q I ro ri rv h;obtain⟨p,xs,k,j,rfl,rfl,hp,hj,q⟩:=h;cases ro;obtain⟨t,rfl⟩:=ri;obtain⟨its,n,r,ho,hz⟩:=I.lst hp;obtain⟨h1,h2,h3,h4⟩:=Mq hj;have hl:=r.length;have hn:=pH;have I':ag X aa σ (upd H p (.lst (xs.set j v))) {s with heap:=s.heap.update p (vt (·.setIfInBounds j u))}:=
  I.lstUpd hp ho (Vm its n j u) (r.set rv j) (by rw[OE];exact hz) s.toks
 by_cases h0:0≤k
 ·have hk:k.toNat=j:=by
   rw[Ge h0 h4]at h1;exact cP h1
  exact PySem.W.ki_setAt ho h0 (by omega) (by rw[dM,←hl];exact h4) (by rw[hk];exact⟨_,I',q⟩)
 ·have hk:(k+(its.toArray.size:Int)).toNat=j:=by
   rw[Gd (by omega) h3]at h1;rw[dM,←hl];exact cP h1
  exact PySem.W.ki_setBack ho (by omega) (by rw[dM,←hl];exact h3) (by omega) (by rw[hk];exact⟨_,I',q⟩)
theorem XI(lo hi:Option Int)(n:Nat):(qc lo hi none n).1=((HT.eU n 0 lo:Nat):Int)∧(qc lo hi none n).2.1=((HT.eU n n hi:Nat):Int)∧(qc lo hi none n).2.2=1:=by
 refine⟨?_,?_,rfl⟩
 ·cases lo with
  |none=>simp[qc,HT.eU]
  |some i=>
   simp only[qc,HT.eU,Pa,show(1:Int)>0 by decide,if_true];by_cases h:i<0
   ·simp only[h,if_true]<;>omega
   ·simp only[h,if_false]<;>omega
 ·cases hi with
  |none=>simp[qc,HT.eU]
  |some i=>
   simp only[qc,HT.eU,Pa,show(1:Int)>0 by decide,if_true];by_cases h:i<0
   ·simp only[h,if_true]<;>omega
   ·simp only[h,if_false]<;>omega
theorem ZC(its:List Value)(lo hi:Option Int):slicePick its.toArray lo hi none=((its.drop (HT.eU its.length 0 lo)).take (HT.eU its.length its.length hi-HT.eU its.length 0 lo)).toArray:=by
 obtain⟨h1,h2,h3⟩:=XI lo hi its.toArray.size;unfold slicePick;rw[h1,h2,h3];simp only[sliceRange_one,pick_run,dM]<;>rfl
def U8(K:aq):V→Option Int→Option Int→Hp→VK→Prop:=fun x lo hi H Q=>∃a xs,x=.ref a∧ay K H a xs∧∀p,H p=none→Q (.ref p) (upd H p (.lst (j6 xs lo hi)))
theorem SR:kX X (U8 X.K):=by
 intro aa s σ H x v vl vu lo hi sl Q I rx hs pl pu h;obtain⟨a,xs,rfl,hx,q⟩:=h;cases rx;obtain⟨its,r,ht,hz⟩:=I.list hx;have dO:=r.length;refine⟨"list",_,Qa.lookup,ht.isList.typeIs,?_⟩;refine wpAny_getItem_list_slice ht.isList hs pl pu .none (by simp) ?_ (by rw[dM]<;>omega);rw[ZC,←dO];refine⟨.ref s.heap.objs.size,_,I.laid (t':=s.toks) (o:=.lst (j6 xs lo hi)) (fun b ob q=>dL _ q) (bv _) ?_,rfl,q _ (I.hok.fresh (bv _))⟩;exact⟨cB (SX xs lo hi) hz,_,0,(r.drop (HT.eU xs.length 0 lo)).take (HT.eU xs.length xs.length hi-HT.eU xs.length 0 lo),iA _ rfl⟩
def kZ:V→Bool
 |.non=>true
 |.bl _=>true
 |.int _=>true
 |.str _=>true
 |_=>false
def lH:V→V→Bool
 |.non,.non=>true
 |.bl a,.bl b=>a==b
 |.bl a,.int b=>(if a then 1 else 0)==b
 |.int a,.bl b=>a==(if b then 1 else 0)
 |.int a,.int b=>a==b
 |.str a,.str b=>a==b
 |_,_=>false
theorem SM{A:bH}{s:Shared}{y x:V}{u v:Value}(ry:bc y u)(rx:bc x v)(fy:kZ y=true)(fx:kZ x=true):Pw A s u v (lH y x):=by
 cases y with
 |non=>
  cases ry;cases x with
  |non=>cases rx;exact aen _
  |bl b=>cases rx;exact aek b
  |int b=>obtain⟨t,rfl⟩:=rx;exact ael b t
  |str b=>obtain⟨t,rfl⟩:=rx;exact aem b t
  |_=>exact absurd (show false=true from fx) bK
 |bl a=>
  cases ry;cases x with
  |non=>cases rx;exact aef a
  |bl b=>cases rx;exact aed a b
  |int b=>obtain⟨t,rfl⟩:=rx;exact aee a b t
  |str b=>obtain⟨t,rfl⟩:=rx;exact aeg a b t
  |_=>exact absurd (show false=true from fx) bK
 |int a=>
  obtain⟨t',rfl⟩:=ry;cases x with
  |non=>cases rx;exact aej a t'
  |bl b=>cases rx;exact aeh a t' b
  |int b=>obtain⟨t,rfl⟩:=rx;exact aei a t' b t
  |str b=>obtain⟨t,rfl⟩:=rx;exact Px a t' b t
  |_=>exact absurd (show false=true from fx) bK
 |str a=>
  obtain⟨t',rfl⟩:=ry;cases x with
  |non=>cases rx;exact aep a t'
  |bl b=>cases rx;exact aeo a t' b
  |int b=>obtain⟨t,rfl⟩:=rx;exact Py a t' b t
  |str b=>obtain⟨t,rfl⟩:=rx;exact aeq a t' b t
  |_=>exact absurd (show false=true from fx) bK
 |_=>exact absurd (show false=true from fy) bK
def gG(x:V)(u:Value):Bool:=match u with
 |.none=>lH .non x
 |.bool b=>lH (.bl b) x
 |.int i _=>lH (.int i) x
 |.str z _=>lH (.str z) x
 |_=>false
theorem Jp{x y:V}{u:Value}(r:bc y u)(f:kZ y=true):gG x u=lH y x:=by
 cases y with
 |non=>cases r;rfl
 |bl b=>cases r;rfl
 |int i=>obtain⟨t,rfl⟩:=r;rfl
 |str z=>obtain⟨t,rfl⟩:=r;rfl
 |_=>exact absurd (show false=true from f) bK
theorem uV{x:V}:∀{xs:List V} {us:List Value},aP xs us→xs.all kZ=true→us.any (gG x)=xs.any fun y=>lH y x
 |_,_,.nil,_=>rfl
 |y::xs,u::us,.cons r t,f=>by
  rw[rC,gb]at f;rw[vk,vk,Jp r f.1,uV t f.2]
theorem sR{A:bH}{s:Shared}{x:V}{v:Value}(rx:bc x v)(fx:kZ x=true):∀{xs:List V} {us:List Value},aP xs us→xs.all kZ=true→∀u∈us,Pw A s u v (gG x u)
 |_,_,.nil,_=>fun u hu=>by cases hu
 |y::xs,u::us,.cons r t,f=>fun u' hu=>by
  rw[rC,gb]at f;rcases bu.mp hu with rfl|hu
  ·rw[Jp r f.1];exact SM r rx f.1 fx
  ·exact sR rx fx t f.2 u' hu
def pD(x:V)(xs:List V):Bool:=xs.any fun y=>lH y x
def pd(K:aq)(neg:Bool):R2:=fun x y H Q=>∃p xs,y=.ref p∧(ay K H p xs∨di K H p xs)∧kZ x=true∧xs.all kZ=true∧Q (.bl (if neg then !pD x xs else pD x xs)) H
theorem Z9:bE X (dw .In) (pd X.K false):=by
 intro aa s σ H x y v u Q I rx ry h;obtain⟨p,xs,rfl,hq,fx,fs,q⟩:=h;cases ry;rcases hq with hq|hq
 ·obtain⟨its,r,pl,hz⟩:=I.list hq;refine SeqAt.in_listAt (gG x) pl.isList (fun w hw=>sR rx fx r fs w (by simpa using hw)) ⟨.bl _,H,I,rfl,?_⟩;rw[show its.toArray.any (gG x)=its.any (gG x)by simp,uV r fs];exact q
 ·obtain⟨its,r,pl,hz⟩:=I.tuple hq;refine SeqAt.in_tupleAt (gG x) pl (fun w hw=>sR rx fx r fs w (by simpa using hw)) ⟨.bl _,H,I,rfl,?_⟩;rw[show its.toArray.any (gG x)=its.any (gG x)by simp,uV r fs];exact q
theorem ZY:bE X (dw .NotIn) (pd X.K true):=by
 intro aa s σ H x y v u Q I rx ry h;obtain⟨p,xs,rfl,hq,fx,fs,q⟩:=h;cases ry;rcases hq with hq|hq
 ·obtain⟨its,r,pl,hz⟩:=I.list hq;refine SeqAt.notIn_listAt (gG x) pl.isList (fun w hw=>sR rx fx r fs w (by simpa using hw)) ⟨.bl _,H,I,rfl,?_⟩;rw[show its.toArray.any (gG x)=its.any (gG x)by simp,uV r fs];exact q
 ·obtain⟨its,r,pl,hz⟩:=I.tuple hq;refine SeqAt.notIn_tupleAt (gG x) pl (fun w hw=>sR rx fx r fs w (by simpa using hw)) ⟨.bl _,H,I,rfl,?_⟩;rw[show its.toArray.any (gG x)=its.any (gG x)by simp,uV r fs];exact q
theorem Vr:gu X (.builtin "len") (fun xs H Q=>∃p ys,xs=[.ref p]∧(ay X.K H p ys∨di X.K H p ys)∧Q (.int ys.length) H):=by
 intro aa s σ H xs us Q I r h;obtain⟨p,ys,rfl,hq,q⟩:=h;obtain⟨u,rfl,rx⟩:=iE r;cases rx;have hn:=pH;rcases hq with hq|hq
 ·obtain⟨its,r',pl,hz⟩:=I.list hq;have dO:=r'.length;exact Calls.call_len_list pl.isList (by simp only[dM]<;>omega) ⟨.int ys.length,H,I.tok _,⟨s.toks+1,by rw[dM,dO]⟩,q⟩
 ·obtain⟨its,r',pl,hz⟩:=I.tuple hq;have dO:=r'.length;exact len_tuple pl (by simp only[dM]<;>omega) ⟨.int ys.length,H,I.tok _,⟨s.toks+1,by rw[dM,dO]⟩,q⟩
theorem qw:gu X (.builtin "len") (fun xs H Q=>∃z,xs=[.str z]∧z.length≤sizeLine∧Q (.int z.length) H):=by
 intro aa s σ H xs us Q I r h;obtain⟨z,rfl,hz,q⟩:=h;obtain⟨u,rfl,t,rfl⟩:=iE r;have hn:=pH;exact len_str (by omega) ⟨.int z.length,H,I.tok _,⟨_,rfl⟩,q⟩
def qK(K:aq)(T:String)(x:V)(H:Hp):Prop:=match x with
 |.str _=>T="str"
 |.int _=>T="int"
 |.ref p=>(T="list"∧∃xs,ay K H p xs)∨(T="tuple"∧∃o,K.lookup p=some o∧o.cls=.type "tuple"∧o.dict=none)∨
   (T="dict"∧((∃aH,H p=some (.dK aH))∨∃aH,H p=some (.dT aH)))∨(T="set"∧∃S n,H p=some (.set S n))
 |_=>False
theorem HR{aa:List (Addr×Obj)}{σ : St}{H:Hp}{s:Shared}{T:String}{x:V}{v:Value}(I:ag X aa σ H s)(r:bc x v)(ty:qK X.K T x H):
  s.TypeIs v T∧∀a,v=.ref a→∃ob,s.heap.get? a=some ob∧ob.dict=none:=by
 cases x with
 |str z=>
  obtain⟨t,rfl⟩:=r;cases(show T="str" from ty);exact⟨kN s z t,fun _ e=>nomatch e⟩
 |int i=>
  obtain⟨t,rfl⟩:=r;cases(show T="int" from ty);exact⟨typeIs_int s i t,fun _ e=>nomatch e⟩
 |ref p=>
  cases r;rcases ty with⟨rfl,xs,hq⟩|⟨rfl,o,hk,hc,hd⟩|⟨rfl,hk⟩|⟨rfl,S,n,hk⟩
  ·obtain⟨its,_,pl,_⟩:=I.list hq;refine⟨pl.isList.typeIs,fun a e=>?_⟩;cases e;obtain⟨o,n,e,c,hd,_⟩:=pl;exact⟨o,e,hd⟩
  ·refine⟨⟨o,I.kIn p o hk,hc⟩,fun a e=>?_⟩;cases e;exact⟨o,I.kIn _ o hk,hd⟩
  ·have z:∃o,s.heap.get? p=some o∧o.ExactDict:=by
    rcases hk with⟨aH,hk⟩|⟨aH,hk⟩
    ·obtain⟨_,_,_,_,o,_,_,e,ex,_⟩:=I.hok p _ hk;exact⟨o,e,ex⟩
    ·obtain⟨_,_,_,_,o,_,_,e,ex,_⟩:=I.hok p _ hk;exact⟨o,e,ex⟩
   obtain⟨o,e,ex⟩:=z;refine⟨⟨o,e,ex.1⟩,fun a e2=>?_⟩;cases e2;exact⟨o,e,ex.2.1⟩
  ·obtain⟨o,_,_,_,e,ex,_⟩:=I.hok p _ hk;refine⟨⟨o,e,ex.1⟩,fun a e2=>?_⟩;cases e2;exact⟨o,e,ex.2.1⟩
 |_=>exact ej ty
def JW(K:aq)(T:String)(r:V→List V→Hp→VK→Prop)(to:TE):TE:=fun σ H Q=>to σ H fun x H1=>qK K T x H1∧r x [] H1 Q
def He(K:aq)(T:String)(r:V→List V→Hp→VK→Prop)(to:TE)(t:TA):TE:=fun σ H Q=>to σ H fun x H1=>qK K T x H1∧t σ H1 fun xs H2=>r x xs H2 Q
variable{o e:Expr}{es:List Expr}{to:TE}{t:TA}{name:Str}{apos cpos:Pos}{T id:String}{r:V→List V→Hp→VK→Prop}
theorem tQ(pa:PlainAttrs T)(slot:Slot T name id)(hty:rW (.builtin id)=pure (.type "method_descriptor"))(hm:oM X id r)(ho:PE X o to)
  (hbase:vF o name X.env (eval o X.env)=eval o X.env:=by rfl) (hline:(apos.endLine==cpos.line)=true:=by rfl):PE X (.Call (.Attribute o name apos) [] [] cpos) (JW X.K T r to):=by
 intro aa s σ H Q I h;refine wpAny_Call_method0_late hbase hline (aK (ho aa s σ H _ I h) fun v s1 aA=>?_);obtain⟨x,H1,I1,r1,ty,q1⟩:=aA;obtain⟨h1,h2⟩:=HR I1 r1 ty;exact⟨T,id,pa,slot,hty,h1,h2,N6 rfl (PySem.evalArgs_none (hm aa s1 σ H1 x [] v [] Q I1 r1 .nil q1))⟩
theorem c8(pa:PlainAttrs T)(slot:Slot T name id)(hty:rW (.builtin id)=pure (.type "method_descriptor"))(hm:oM X id r)(ho:PE X o to)(ha:PA X (e::es) t)
  (hbase:vF o name X.env (eval o X.env)=eval o X.env:=by rfl)
  (hfew:((dN cpos (bz (e::es) X.env)).all (fun x=>!x.1)&&(vG cpos (vO [] X.env)).all (fun x=>x.1.isSome)
   && decide ((e::es).length+([]:List Keyword).length+(if([]:List Keyword).isEmpty then 0 else 1)<30))=true:=by rfl)
  (hline:(apos.endLine==cpos.line)=true:=by rfl) (hs:bz (e::es) X.env=(false,eval e X.env)::bz es X.env:=by rfl) (hplain:(dN cpos (bz es X.env)).any (·.1)=false:=by rfl) :
  PE X (.Call (.Attribute o name apos) (e::es) [] cpos) (He X.K T r to t):=by
 intro aa s σ H Q I h;refine wpAny_Call_method_late hbase hfew hline rfl (aK (ho aa s σ H _ I h) fun v s1 aA=>?_);obtain⟨x,H1,I1,r1,ty,q1⟩:=aA;obtain⟨h1,h2⟩:=HR I1 r1 ty;refine⟨T,id,pa,slot,hty,h1,h2,?_⟩;have hA:=ha cpos aa s1 σ H1 _ I1 q1;rw[hs]at hA⊢;refine N6 (by show(false||(dN cpos (bz es X.env)).any (·.1))=false;rw[hplain]<;>rfl) (Ff ?_);exact aK hA fun us s2 ⟨vs,H2,I2,r2,q2⟩=>hm aa s2 σ H2 x vs v us Q I2 r1 r2 q2
end
def mv(X:Cx)(id:String)(r:V→List V→Hp→VK→Prop):Prop:=
 ∀(aa:List (Addr×Obj)) (s:Shared) (σ : St) (H:Hp) (x:V) (xs:List V) (v:Value) (us:List Value) (Q:VK),ag X aa σ H s→bc x v→aP xs us→r x xs H Q→
  ax (au X.prog X.w) X.A (call (.builtin id) (v::us)) (EP X aa σ Q) X.xe s
theorem aP.one:∀{x:V} {us:List Value},aP [x] us→∃u,us=[u]∧bc x u
 |_,_,.cons r .nil=>⟨_,rfl,r⟩
theorem aP.zero:∀{us:List Value},aP [] us→us=[]
 |_,.nil=>rfl
theorem aP.dropLast{xs:List V}{us:List Value}(h:aP xs us):aP xs.dropLast us.dropLast:=by
 induction h with
 |nil=>exact .nil
 |cons r t ih=>
  cases t with
  |nil=>exact .nil
  |cons q t'=>exact .cons r ih
theorem Z2{α : Type}(l:List α):l.eraseIdx (l.length-1)=l.dropLast:=by
 rw[List.eraseIdx_eq_take_drop_succ,List.dropLast_eq_take,Ou (by omega),gg]
section
variable{X:Cx}{aa:List (Addr×Obj)}{σ : St}{H:Hp}{s:Shared}{l b:Addr}{xs ys zs:List V}
theorem ag.lset{its its':List Value}{n:Nat}{f:Array Value→Array Value}{t':Nat}(I:ag X aa σ H s)(hH:H l=some (.lst xs))
  (e:s.heap.get? l=some {cls:=.type "list",data:=.seq its.toArray n}) (hf:f its.toArray=its'.toArray) (hv:aP ys its') (hz:ys.length≤sizeLine) :
  ag X aa σ (upd H l (.lst ys)) {s with heap:=s.heap.update l (vt f),toks:=t'}:=by
 have q:=PySem.IsL.update e f;rw[hf]at q;refine I.write (x:=l) (e:=l) (by rw[hH];exact trivial) (.inl rfl) (fun b' u hb hu=>(iB s.heap (vt f) (cH hb)).trans hu) ⟨_,q⟩ ?_;exact⟨hz,its',_,hv,q⟩
theorem ag.lnew{its:List Value}{t':Nat}(I:ag X aa σ H s)(hv:aP ys its)(hz:ys.length≤sizeLine):
  ag X aa σ (upd H s.heap.objs.size (.lst ys)) {s with heap:=s.heap.push {cls:=.type "list",data:=.seq its.toArray},toks:=t'}:=
 I.laid (fun _ _ q=>dL _ q) (bv _) ⟨hz,its,0,hv,iA _ rfl⟩
theorem ag.fresh(I:ag X aa σ H s):H s.heap.objs.size=none:=I.hok.fresh (bv _)
theorem ag.lstM(I:ag X aa σ H s)(hH:H l=some (.lst xs)):xs.length≤sizeLine∧∃(its:List Value) (n:Nat),aP xs its∧xs.length=its.length∧s.heap.get? l=some {cls:=.type "list",data:=.seq its.toArray n}:=by
 obtain⟨z,its,n,r,e⟩:=I.hok l _ hH;exact⟨z,its,n,r,r.length,e⟩
end
section
variable{X:Cx}
def RZ:V→List V→Hp→VK→Prop:=fun x vs H Q=>∃l xs y,x=.ref l∧vs=[y]∧H l=some (.lst xs)∧xs.length<sizeLine∧Q .non (upd H l (.lst (xs++[y])))
theorem aaC:mv X "list.append" RZ:=by
 intro aa s σ H x vs v us Q I rx rv h;obtain⟨l,xs,y,rfl,rfl,hH,hz,q⟩:=h;cases rx;obtain⟨u,rfl,ru⟩:=rv.one;obtain⟨z,its,n,r,hl,e⟩:=I.lstM hH;refine qb gz ⟨_,e,rfl⟩ F.entry_list_append (F.args_list_append_2 _ _) (PySem.list_append l its.toArray n u (by rw[dM];omega)) ⟨e,?_⟩;refine⟨.non,_,I.lset (its':=its++[u]) hH e (by simp) (r.append (.cons ru .nil)) ?_,rfl,q⟩;rw[dm,List.length_singleton];omega
def ab7:V→List V→Hp→VK→Prop:=fun x vs H Q=>∃l xs y,x=.ref l∧vs=[]∧H l=some (.lst xs)∧xs[xs.length-1]?=some y∧Q y (upd H l (.lst xs.dropLast))
theorem abR:mv X "list.pop" ab7:=by
 intro aa s σ H x vs v us Q I rx rv h;obtain⟨l,xs,y,rfl,rfl,hH,hy,q⟩:=h;cases rx;have hus:=rv.zero;subst hus;obtain⟨z,its,n,r,hl,e⟩:=I.lstM hH;obtain⟨u,hu,ru⟩:=r.get hy;have hy':its.toArray[its.toArray.size-1]?=some u:=by
  show its.toArray[its.length-1]?=some u;rw[←zN,←hl];exact hu
 refine qb zP ⟨_,e,rfl⟩ F.entry_list_pop (F.args_list_pop_1 _) (MeetsSeq.list_pop_last l its.toArray n u hy' (by rw[dM];omega)) ⟨e,?_⟩;refine⟨y,_,I.lset (its':=its.dropLast) hH e ?_ r.dropLast ?_,ru,q⟩
 ·show its.toArray.eraseIdxIfInBounds (its.toArray.size-1)=its.dropLast.toArray;rw[dM,Ov,Z2]
 ·rw[List.length_dropLast];omega
def WO:R2:=fun x y H Q=>∃l b xs zs,x=.ref l∧y=.ref b∧H l=some (.lst xs)∧H b=some (.lst zs)∧xs.length+zs.length≤sizeLine∧∀p,H p=none→Q (.ref p) (upd H p (.lst (xs++zs)))
theorem Ys:bE X (eG .Add) WO:=by
 intro aa s σ H x y v u Q I rx ry h;obtain⟨l,b,xs,zs,rfl,rfl,hH,hB,hz,q⟩:=h;cases rx;cases ry;obtain⟨z,its,n,r,hl,e⟩:=I.lstM hH;obtain⟨z2,its2,n2,r2,hl2,e2⟩:=I.lstM hB;refine PySem.P.add_list e e2 ?_ (by rw[dM,dM];omega);have ea:its.toArray++its2.toArray=(its++its2).toArray:=by simp
 rw[ea];exact⟨.ref _,_,I.lnew (t':=s.toks) (r.append r2) (by rw[dm];omega),rfl,q _ I.fresh⟩
end
section
variable{prog:aG}{w:av}{A:bH}{E:Value→Shared→Prop}{s:Shared}
set_option maxRecDepth 100000 in
end
section
variable{X:Cx}
end
end L2
namespace Att
open PySem PySem.W PySem.Calls PyProof.Rows
theorem Xc{P:nr}{h:Heap}:∀(ns:List Int) (vs:List Value),WellAll P h vs (ns.map WData.int)→m5 vs ns:=by
 intro ns
 induction ns with
 |nil=>
  intro vs w;rw[FD]at w;cases w;exact .nil
 |cons n ns ih=>
  intro vs w;rw[eD]at w;cases w with
  |cons a b=>
   cases a;exact .cons _ _ (ih _ b)
theorem ach{l:OpenLaw}{n:Nat}(hn:l.most=some n){P:nr}{h:Heap}{args:List WData}{vals:List Value}
  (hpre:l.row.toRowW.claim.pre args=true) (hwl:WellAll P h vals args) :
  ∃a vs ns,vals=[aZ a]∧args=[WData.list (ns.map WData.int)]∧h.get? a=some {cls:=.type "list",data:=.seq vs.toArray}∧m5 vs ns∧ns.length≤n:=by
 have hsh:WShape.hasAll [] args [.list .int]=true:=(pre_splitW hpre).1;have hc:l.pre.holds [] {args:=args}=true:=(pre_splitW hpre).2;obtain⟨d,r,rfl,h1,h2⟩:=hasAllW_cons hsh;obtain rfl:=hasAllW_nil h2;obtain⟨xs,rfl,h3⟩:=hasW_list h1;obtain⟨ns,rfl⟩:=items_int h3;have dO:ns.length≤n:=by
  unfold OpenLaw.pre at hc;have h4:(WTm.not (.lt (.lit (.int (n:Int))) (.len (.arg 0)))).holds [] {args:=[.list (ns.map .int)]}=true:=by
   have h4:=(holds_andW hc).1;rw[hn]at h4;exact h4
  have h5:=condW_of h4 (w_not (w_lt w_lit (w_len_list (w_arg rfl))));rw[bo]at h5;refine Nat.le_of_not_lt fun q=>?_;have q':(n:Int)<((ns.length:Nat):Int):=by omega
  first
   |(rw[decide_eq_true q']at h5;exact absurd h5 (by decide))
   |(simp at h5;omega)
 cases hwl with
 |cons w1 w2=>
  cases w2;cases w1 with
  |list ho hall=>exact⟨_,_,ns,rfl,rfl,ho,Xc ns _ hall,dO⟩
theorem abS(l:OpenLaw)(args:List WData):l.row.toRowW.claim.post args (.bool true) args=true:=
 postW_of (r:=l.row.toRowW) (X:=(true==true))
  (show WShape.has [] (.bool true) .bool=true by first|rfl|decide|simp[WShape.has,WShape.arms,WShape.armsAll])
  (show(WTm.eq .res (.lit (.bool true))).value [] {args:=args,res:=some (.bool true),after:=args}=some (.bool (true==true))from w_eq_bool (w_res rfl) w_lit) rfl
theorem aaY{l:OpenLaw}{n:Nat}{q:aG}{loose:List Str}{XP:(Str→Option Value)→Heap→Prop}{YP:av→Heap→Prop}{d:DefRec}
  (hn:l.most=some n) (hdf:d.params.defaults=[])
  (call:∀(w:av) (s₀ s₁ : Shared) (mg mb:Str→Option Value) (fa:Addr) (o:Obj) (pm cd doc:Value) (a:Addr) (vs:List Value) (ns:List Int),
   Ground q loose [] XP w s₀ mg mb s₁.heap→YP w s₁.heap→
   s₁.heap.get? fa=some o→o.data=.func (docDef d.name d.params d.body d.scope pm cd doc)→s₁.heap.CodeRec cd d.name→mg d.name=some (.ref fa)→
   s₁.heap.get? a=some {cls:=.type "list",data:=.seq vs.toArray}→m5 vs ns→ns.length≤n→s₁.gens=#[]→
   gE (au l.prog w) nK (.call (.ref fa) ⟨[.ref a],[]⟩) (fun r s'=>r=.ok (.ret (.bool true))∧OldK s₁.heap s'.heap∧s'.os=s₁.os∧kD s'.gens) s₁) :
  WalkO q loose XP YP l.row.toRowW d [] (fun f vs=>FW f vs):=by
 intro w s₀ s₁ mg mb G Y fa o pm cd doc dV kV ho hd hcd hD hmg hg args vals as hpre hlay hrd hwl hlo;obtain rfl:dV=.none:=Dflts.none hD hdf;obtain rfl:kV=.none:=Dflts.noKw hD;obtain⟨a,vs,ns,rfl,rfl,hobj,hints,dO⟩:=ach hn hpre hwl;refine enter_call (rQ (call w s₀ s₁ mg mb fa o pm cd doc a vs ns G Y ho (fd_plain hd) hcd hmg hobj hints dO hg) fun r s' hq=>?_);obtain⟨rfl,h2,h3,h4⟩:=hq;exact⟨.inl ⟨.bool true,.bool true,[],rfl,fun _=>rfl,.bool true,abS l _,fun _=>⟨acQ,fun _ hm=>(nomatch hm)⟩⟩,h2,h3,h4⟩
section
variable{prog:aG}{w:av}{A:bH}{E:Value→Shared→Prop}{s:Shared}{K:Frag}
end
end Att
namespace L2
open PySem PySem.Spec PyProof.Rows
theorem JE:∀{vs:List Value} {ns:List Int},m5 vs ns→aP (ns.map V.int) vs
 |_,_,.nil=>.nil
 |_,_,.cons n t h=>.cons ⟨t,rfl⟩ (JE h)
def zI(H:Hp):Prop:=∀b,H b=none∨∃o xs,H b=some (.frz o (.lst xs))
theorem R5{P:aG}{w:av}{K:aq}{mg mb:Str→Option Value}{CX:c9}{k:Nat}{fa a:Addr}{fd:FuncData}{x:Str}{sp:Sp}{s₁ : Shared}{vs:List Value}{ns:List Int}
  (KX:K.In s₁.heap) (hns:s₁.heap.Ns fV mg) (hb:s₁.heap.Ns rP mb) (hbb:∀x:Str,x≠"__name__"→mb x=fU x) (hlim:s₁.heap.NoLimit) (hg:s₁.gens=#[])
  (ha:s₁.heap.get? a=some {cls:=.type "list",data:=.seq vs.toArray}) (hi:m5 vs ns) (hl:ns.length≤sizeLine) (hr:cA k nK)
  (F:∀base:Heap,K.In base→base.Ns fV mg→aM P w K mg base CX k fa fd [x] sp) (hbind:∀(s:Shared) (u:Value),mX s fd ⟨[u],[]⟩ [(x,u)])
  (hsp:∀H:Hp,zI H→ay K H a (ns.map V.int)→sp [.ref a] H (fun v _=>v=.bl true) fun _ _ _=>False)
  (hCX:∀H e s',CX [] H s₁ (fun _ _ _=>False) e s'→False) :
  gE (au P w) nK (.call (.ref fa) ⟨[.ref a],[]⟩) (fun r s'=>r=.ok (.ret (.bool true))∧OldK s₁.heap s'.heap∧s'.os=s₁.os∧kD s'.gens) s₁:=by
 have rv:=JE hi;have lenV:=hi.length;have core:∀H:Hp,zI H→ay K H a (ns.map V.int)→cq P w H s₁.heap→(∀b,H b≠none→b=a)→(H a≠none→K.lookup a=none)→
   gE (au P w) nK (.call (.ref fa) ⟨[.ref a],[]⟩) (fun r s'=>r=.ok (.ret (.bool true))∧OldK s₁.heap s'.heap∧s'.os=s₁.os∧kD s'.gens) s₁:=by
  intro H hO hS hok hA hK;have base_of:∀{b:Addr} {o:Obj},s₁.heap.get? b=some o→H b=none→(lr s₁.heap H).get? b=some o:=fun e n=>aca e n;have noA:∀{b:Addr} {o:Obj} {es:Array Fh} {ep:Nat},s₁.heap.get? b=some o→o.data=.dict es ep→H b=none:=fun{b o es ep} e d=>by
   cases q:H b with
   |none=>rfl
   |some u=>
    have e':b=a:=hA b (by rw[q];simp);subst e';rw[ha]at e;cases e;have d':iX vs.toArray _=jN es ep:=d;cases d'
  have nsK:∀{b:Addr} {m:Str→Option Value},s₁.heap.Ns b m→(lr s₁.heap H).Ns b m:=fun{b m} ⟨o,es,ep,e,d,r⟩=>⟨o,es,ep,base_of e (noA e d),d,r⟩;have hKb:K.In (lr s₁.heap H):=fun b o e=>base_of (KX b o e) (by
   cases q:H b with
   |none=>rfl
   |some u=>
    have e':b=a:=hA b (by rw[q];simp);subst e';rw[hK (by rw[q];simp)]at e;cases e)
  have hM:Mod K mg (lr s₁.heap H):=⟨hKb,nsK hns,⟨mb,nsK hb,hbb⟩,let⟨mc,h1,h2⟩:=hlim;⟨mc,nsK h1,h2⟩⟩;have e0:oh P w K mg (lr s₁.heap H) nK [] s₁ H:=⟨rfl,hM,fun b o e=>V3 e,Aj (ZI _ _),trivial,fun b hb=>absurd (show b∈([]:List Addr)from hb) (by simp),hok,.of_eq hg⟩;refine rQ ((F _ hKb (nsK hns)).run nK [] s₁ H ⟨[.ref a],[]⟩ [.ref a] [.ref a] _ _ hr e0 (hbind s₁ (.ref a)) (.cons rfl .nil) (hsp H hO hS)) fun r s' h=>?_;cases r with
  |error e=>exact(hCX H e s' h).elim
  |ok fl=>
   cases fl with
   |next=>exact ej h
   |brk=>exact ej h
   |cont=>exact ej h
   |ret u=>
    obtain⟨v,H',os,bare,un,hok',r',q⟩:=h;have q':v=.bl true:=q;subst q';obtain rfl:u=nF true:=r';refine⟨rfl,OldK.of_keep fun b o e=>?_,os,bare⟩;cases q:H b with
    |none=>exact un.keep b o e q (by intro z;exact absurd (show b∈([]:List Addr)from z) (by simp)) (by simp)
    |some u=>
     rcases hO b with z|⟨ob,xs,z⟩
     ·rw[q]at z;cases z
     ·have z2:=un.frzs b ob _ z;obtain⟨e1,_⟩:=hok b _ z;obtain⟨e2,_⟩:=hok' b _ z2;rw[e]at e1;cases e1;exact e2
 cases hk:K.lookup a with
 |some o=>
  have e:=KX a o hk;rw[ha]at e;cases e;refine core (fun _=>none) (fun _=>.inl rfl) (.inr ⟨_,vs.toArray,_,hk,rfl,rfl,rfl,by rw[dM,lenV];exact hl,by simpa using rv⟩) (fun b u z=>by have z':(none:Option HO)=some u:=z;cases z') (fun b z=>absurd rfl z) fun z=>absurd rfl z
 |none=>
  refine core (fun b=>if b=a then some (.frz {cls:=.type "list",data:=.seq vs.toArray} (.lst (ns.map V.int)))else none) (fun b=>?_) (.inl (.inr ⟨{cls:=.type "list",data:=.seq vs.toArray},if_pos rfl⟩)) (fun b u z=>?_) (fun b z=>?_) fun _=>hk
  ·by_cases hb:b=a
   ·exact .inr ⟨_,_,if_pos hb⟩
   ·exact .inl (if_neg hb)
  ·by_cases hb:b=a
   ·have z':=(if_pos hb).symm.trans z;cases z';subst hb;exact⟨ha,by rw[bo];exact hl,vs,_,rv,ha⟩
   ·have z':=(if_neg hb).symm.trans z;cases z'
  ·by_cases hb:b=a
   ·exact hb
   ·exact absurd (if_neg hb) z
abbrev Mi{K:aq}{h:Heap}(_:K.In h):aq:=K
theorem abW{l:Pg}{n k:Nat}{q:aG}{loose:List Str}{XP:(Str→Option Value)→Heap→Prop}{YP:av→Heap→Prop}{d:DefRec}{K:nr→aq}{CX:av→c9}{sp:av→Sp}{x:Str}
  (hn:l.most=some n) (hn2:n≤sizeLine) (hdf:d.params.defaults=[]) (hr:cA k nK)
  (hY:∀(w:av) (h:Heap),YP w h→(K w.params).In h)
  (F:∀(w:av) (mg:Str→Option Value) (fa:Addr) (h:Heap),(K w.params).In h→h.Ns fV mg→mg d.name=some (.ref fa)→
   ∃fd:FuncData,(∀(s:Shared) (u:Value),mX s fd ⟨[u],[]⟩ [(x,u)])∧
    ∀base:Heap,(K w.params).In base→base.Ns fV mg→aM l.prog w (K w.params) mg base (CX w) k fa fd [x] (sp w))
  (hsp:∀(w:av) (H:Hp) (a:Addr) (ns:List Int),ns.length≤n→zI H→ay (K w.params) H a (ns.map V.int)→sp w [.ref a] H (fun v _=>v=.bl true) fun _ _ _=>False)
  (hCX:∀(w:av) (H:Hp) (s:Shared) (e:Value) (s':Shared),CX w [] H s (fun _ _ _=>False) e s'→False) :
  Pi q loose XP YP l.row.toRowW d [] (fun f vs=>FW f vs):=by
 refine Att.aaY hn hdf fun w s₀ s₁ mg mb fa o pm cd doc a vs ns G Y ho hd hcd hmg hobj hints dO hg=>?_;have KX:=hY w _ Y;obtain⟨fd,hb,hF⟩:=F w mg fa _ KX G.T.g hmg;exact R5 KX G.T.g G.T.b G.T.builtins G.T.nolimit hg hobj hints (cB dO hn2) hr hF hb (fun H hO hS=>hsp w H a ns dO hO hS) fun H e s'=>hCX w H s₁ e s'
theorem RL{l:Pg}{n k:Nat}{q:aG}{loose:List Str}{XP:(Str→Option Value)→Heap→Prop}{YP:av→Heap→Prop}{d:DefRec}{K:nr→aq}{CX:c9}{sp:aq→Sp}{x:Str}
  (hn:l.most=some n) (hn2:n≤sizeLine) (hdf:d.params.defaults=[]) (hr:cA k nK)
  (hY:∀(w:av) (h:Heap),YP w h→(K w.params).In h)
  (F:∀(w:av) (mg:Str→Option Value) (fa:Addr) (h:Heap),(K w.params).In h→h.Ns fV mg→mg d.name=some (.ref fa)→
   ∃fd:FuncData,(∀(s:Shared) (u:Value),mX s fd ⟨[u],[]⟩ [(x,u)])∧
    ∀base:Heap,(K w.params).In base→base.Ns fV mg→aM l.prog w (K w.params) mg base CX k fa fd [x] (sp (K w.params)))
  (hsp:∀(K:aq) (H:Hp) (a:Addr) (ns:List Int),ns.length≤n→zI H→ay K H a (ns.map V.int)→sp K [.ref a] H (fun v _=>v=.bl true) fun _ _ _=>False)
  (hCX:∀(H:Hp) (s:Shared) (e:Value) (s':Shared),CX [] H s (fun _ _ _=>False) e s'→False) :
  Pi q loose XP YP l.row.toRowW d [] (fun f vs=>FW f vs):=
 abW (K:=K) (CX:=fun _=>CX) (sp:=fun w=>sp (K w.params)) hn hn2 hdf hr hY F (fun w H a ns h1 h2 h3=>hsp (K w.params) H a ns h1 h2 h3) fun _ H s e s'=>hCX H s e s'
end L2
namespace L2
open PySem PySem.Spec PyProof.Rows
def fQ(s:aw)(j:Nat):aw:=match s with
 |.ClassDef _ _ _ body _ _ _ _ _ _ _=>body.getD j (.Pass ⟨0,0,0,0⟩)
 |_=>.Pass ⟨0,0,0,0⟩
def fO(s:aw):Arguments:=match s with
 |.FunctionDef _ a _ _ _ _ _ _ _ _=>a
 |_=>{posonlyargs:=[],args:=[],vararg:=none,kwonlyargs:=[],kw_defaults:=[],kwarg:=none,defaults:=[]}
def eJ(s:aw):List aw:=match s with
 |.FunctionDef _ _ b _ _ _ _ _ _ _=>b
 |_=>[]
def aB(s:aw):cQ:=match s with
 |.FunctionDef _ _ _ _ _ _ sc _ _ _=>sc
 |_=>{kind:=.function,names:=[],isGenerator:=false,isCoroutine:=false}
abbrev ba:c9:=fun _ _ _ _ _ _=>False
abbrev E0:XK:=fun _ _ _=>False
theorem aT{X:Cx}:jv ba X E0:=fun _ _ _ _ _ _ _ h=>h.elim
structure mW(K:aq)(x qual:Str)(st:aw)(f:Addr)(fd:FuncData):Prop where
 ex:∃(oc:Value) (od:Option Addr) (kV doc pm:Value) (an:Option Addr) (bM ct:Value) (osl:Array (Option Value)),
  fd=fB x qual (fO st) (eJ st) (aB st) .none kV doc pm an bM ct∧K.lookup f=some ⟨oc,od,.func fd,osl⟩∧nA K bM qual=true
 kp:js K (.ref f)=true
section
variable{P:aG}{w:av}{K:aq}{mg:Str→Option Value}{base:Heap}
theorem mW.ok{x qual:Str}{st:aw}{f:Addr}{fd:FuncData}{N ps:List Str}{k:Nat}{sp:Sp}(F:mW K x qual st f fd)(S:aY N ps (aB st))(len:∀vs H Q E,sp vs H Q E→vs.length=ps.length)
  (hbody:∀(bM:Value) (A:bH) (outer:List Env) (s:Shared) (H:Hp) (vs:List V) (Q:VK) (E:XK),cA k (A.deeper (jU qual (aB st) s.heap.objs.size f bM))→sp vs H Q E→
   ∃t,fq (aR ba P w K mg base N qual (aB st) f bM A outer s H E).nox (eJ st) t∧t {nx:=fun _ H'=>Q .non H',rt:=Q} (jx N vs) H):aM P w K mg base ba (k+1) f fd ps sp:=by
 obtain⟨oc,od,kV,doc,pm,an,bM,ct,osl,rfl,lk,hcd⟩:=F.ex;refine A5 lk hcd S len fun A outer s H vs Q E hr hsp=>?_;obtain⟨t,h,q⟩:=hbody bM A outer s H vs Q E hr hsp;exact⟨t,h.nox,q⟩
theorem mW.binds{x qual:Str}{st:aw}{f:Addr}{fd:FuncData}{ps:List Str}(F:mW K x qual st f fd)
  (h:∀(kV doc pm:Value) (an:Option Addr) (bM ct:Value) (us:List Value),us.length=ps.length→AF (fB x qual (fO st) (eJ st) (aB st) .none kV doc pm an bM ct) ⟨us,[]⟩=pure (ps.zip us)):fH K fd ps []:=by
 obtain⟨oc,od,kV,doc,pm,an,bM,ct,osl,rfl,lk,hcd⟩:=F.ex;exact .all (h kV doc pm an bM ct)
theorem NP{x qual:Str}{st:aw}{f:Addr}{oc:Value}{od an:Option Addr}{osl:Array (Option Value)}{kV doc pm bM ct:Value}(l:K.lookup f=some ⟨oc,od,.func (fB x qual (fO st) (eJ st) (aB st) .none kV doc pm an bM ct),osl⟩)
  (c:nA K bM qual=true) (k:js K (.ref f)=true):mW K x qual st f (fB x qual (fO st) (eJ st) (aB st) .none kV doc pm an bM ct):=⟨⟨oc,od,kV,doc,pm,an,bM,ct,osl,rfl,l,c⟩,k⟩
end
theorem mw{n:Nat}(h:n≤1000):n<sizeLine:=lX h (by decide)
section
variable{X:Cx}
theorem pv(i:Nat){x:Str}{pos:Pos}(hN:X.N[i]?=some x:=by rfl)(hv:uT X.env.scope x:=by first|exact vw rfl|exact vx (vw rfl)|exact vx (vx rfl))(hd:(x==("__debug__" : Str))=false:=by decide)
  (hcd:(x==("__classdict__" : Str))=false:=by decide):PE X (.Name x pos) (xa i):=abP hN hv hd hcd
end
theorem mz{A B:Prop}(h:B):if false=true then A else B:=by
 rw[if_neg bK];exact h
theorem lp{A B:Prop}(h:A):if true=true then A else B:=by
 rw[if_pos rfl];exact h
def ah(H H':Hp):Prop:=∀b o,H b=some o→H' b=some o
theorem ah.refl(H:Hp):ah H H:=fun _ _ h=>h
theorem ah.trans{H H1 H2:Hp}(a:ah H H1)(b:ah H1 H2):ah H H2:=fun c o h=>b c o (a c o h)
theorem ah.free{H H':Hp}(e:ah H H'){l:Addr}(h:H' l=Pb):H l=Pb:=by
 cases q:H l with
 |none=>rfl
 |some o=>
  rw[e l o q]at h;cases h
theorem ah.seq{K:aq}{H H':Hp}{a:Addr}{xs:List V}(e:ah H H')(h:ay K H a xs):ay K H' a xs:=by
 rcases h with(h|⟨o,h⟩)|h
 ·exact .inl (.inl (e _ _ h))
 ·exact .inl (.inr ⟨o,e _ _ h⟩)
 ·exact .inr h
def jw(i:Int):Prop:=-(2^1000)<i∧i<2^1000
def pw(b:Int):Int:=2^b.toNat
theorem fZ(b:Int):0<pw b:=Int.pow_pos (by decide)
theorem EJ{k:Int}(h:jw k):cV k≤1000:=by
 unfold cV;split
 ·exact fe _
 ·have hn:k.natAbs<2^1000:=by
   have h1:=h.1;have h2:=h.2;omega
  have:k.natAbs.log2<1000:=by
   rcases OU k.natAbs with h0|hp
   ·rw[h0];decide
   ·exact(Al (jR hp)).mpr hn
  omega
theorem Xu{i j:Int}(hi:jw i)(hj:jw j):Fp i j:=by
 have a:=EJ hi;have b:=EJ hj;have z:N3 (cV i+cV j)=false:=by
  unfold N3 bitsLine;exact decide_eq_false (by omega)
 unfold Fp;rw[z,E7];exact bK
def oO(i j:Int):Prop:=jw i∧jw j
def RV(_ j:Int):Prop:=0<j∧j<2^1000
def KM(i j:Int):Prop:=0≤j∧j≤1000∧jw i
section
variable{X:Cx}
theorem pA:bE X (eG .Mult) (fun x y H Q=>∃i j,x=.int i∧y=.int j∧oO i j∧Q (.int (i*j)) H):=oA fun _ _ _ _ _ _ _ hc q=>mul_int q (Xu hc.1 hc.2)
theorem YH:bE X (eG .FloorDiv) (fun x y H Q=>∃i j,x=.int i∧y=.int j∧RV i j∧Q (.int (i/j)) H):=oA fun i j _ _ _ _ _ hc q=>by
 have h0:=hc.1;have h1:=hc.2;refine floordiv_int (by omega) ?_ (.inl (PyProof.noPylong_of_log2 ?_))
 ·rw[Oi i (Ol h0)];exact q
 ·have hn:j.natAbs<2^1000:=by omega
  have hz:j.natAbs≠0:=by omega
  have:=(Al hz).mpr hn;omega
theorem CU:bE X (eG .LShift) (fun x y H Q=>∃i j,x=.int i∧y=.int j∧KM i j∧Q (.int (i*pw j)) H):=oA fun i j _ _ _ _ _ hc q=>by
 have a:=EJ hc.2.2;have h1:=hc.2.1;exact lshift_int hc.1 (by omega) q
theorem xO:bE X (eG .RShift) (fun x y H Q=>∃i j,x=.int i∧y=.int j∧0≤j∧Q (.int (i/pw j)) H):=ZX
theorem mj:bE X (eG .Add) (fun x y H Q=>∃i j,x=.int i∧y=.int j∧Q (.int (i+j)) H):=abo
theorem kh:bE X (eG .Sub) (fun x y H Q=>∃i j,x=.int i∧y=.int j∧Q (.int (i-j)) H):=QJ
theorem mF:bE X (eG .Mod) (fun x y H Q=>∃i j,x=.int i∧y=.int j∧0<j∧Q (.int (i%j)) H):=SJ
theorem ZJ:bE X (eG .BitAnd) (fun x y H Q=>∃i j,x=.int i∧y=.int j∧Q (.int (lR i j)) H):=S7
theorem Sz:bE X (eG .BitXor) (fun x y H Q=>∃i j,x=.int i∧y=.int j∧Q (.int (gc i j)) H):=acl
theorem uY:bE X (dw .Lt) (fun x y H Q=>∃i j,x=.int i∧y=.int j∧Q (.bl (decide (i<j))) H):=U0
theorem Ej:bE X (dw .LtE) (fun x y H Q=>∃i j,x=.int i∧y=.int j∧Q (.bl (decide (i≤j))) H):=Wl
theorem oq:bE X (dw .Gt) (fun x y H Q=>∃i j,x=.int i∧y=.int j∧Q (.bl (decide (j<i))) H):=abD
theorem sy:bE X (dw .GtE) (fun x y H Q=>∃i j,x=.int i∧y=.int j∧Q (.bl (decide (j≤i))) H):=T1
theorem mo:sx X (unaryOp .USub) (fun x H Q=>∃i,x=.int i∧Q (.int (-i)) H):=ack
theorem VR{i j v:Int}{k1 k2:Nat}{p1 p2 pos:Pos}(hc:Ky i j:=by exact⟨by decide,by decide,by decide⟩)(hv:i^j.toNat=v:=by rfl):PE X (.BinOp (.Constant (.int i) k1 p1) .Pow (.Constant (.int j) k2 p2) pos) (tC (.int v)):=by
 intro aa s σ H Q I h;refine be TZ aj aj aa s σ H Q I ⟨i,j,rfl,rfl,hc,?_⟩;show Q (.int (i^j.toNat)) H;rw[hv];exact h
def jC:V→Value
 |.ref a=>.ref a
 |.ty n=>.type n
 |_=>.none
def lN:V→Bool
 |.ref _=>true
 |.ty _=>true
 |_=>false
theorem Wk:gu X (.builtin "isinstance") (fun xs H Q=>∃x c t b,xs=[x,c]∧lN c=true∧de X.K H x t∧eF X.K t (jC c)=some b∧Q (.bl b) H):=by
 intro aa s σ H xs us Q I r h;obtain⟨x,c,t,b,rfl,hc,ty,e,q⟩:=h;obtain⟨u,v,rfl,rx,rc⟩:=wB r;have hv:v=jC c:=by
  cases c<;>first
   |exact rc
   |exact absurd hc bK
 subst hv;exact Xj I rx ty e fun tk=>⟨.bl b,H,I.tok tk,rfl,q⟩
mutual
inductive fR(K:aq)(H:Hp):V→PyData→Prop
 |non:fR K H .non .none
 |bl (b:Bool):fR K H (.bl b) (.bool b)
 |int (i:Int):fR K H (.int i) (.int i)
 |str (x:Str):fR K H (.str x) (.str x)
 |lst {a:Addr} {xs:List V} {ds:List PyData}:ay K H a xs→nR K H xs ds→fR K H (.ref a) (.list ds)
 |tup {a:Addr} {xs:List V} {ds:List PyData}:di K H a xs→nR K H xs ds→fR K H (.ref a) (.tuple ds)
inductive nR(K:aq)(H:Hp):List V→List PyData→Prop
 |nil:nR K H [] []
 |cons {x:V} {d:PyData} {xs:List V} {ds:List PyData}:fR K H x d→nR K H xs ds→nR K H (x::xs) (d::ds)
end
section
variable{aa:List (Addr×Obj)}{σ : St}{H:Hp}{s:Shared}
theorem Zi:∀u,bc .non u→∃as,me s.heap u .none as:=fun u r=>by cases r;exact⟨_,.none⟩
theorem Tp(b:Bool):∀u,bc (.bl b) u→∃as,me s.heap u (.bool b) as:=fun u r=>by cases r;exact⟨_,.bool b⟩
theorem Rj(i:Int):∀u,bc (.int i) u→∃as,me s.heap u (.int i) as:=fun u r=>by obtain⟨t,rfl⟩:=r;exact⟨_,.int i t⟩
theorem QA(x:Str):∀u,bc (.str x) u→∃as,me s.heap u (.str x) as:=fun u r=>by obtain⟨t,rfl⟩:=r;exact⟨_,.str x t⟩
theorem Q6(I:ag X aa σ H s){a:Addr}{xs:List V}{ds:List PyData}(hq:ay X.K H a xs)(ih:∀us,aP xs us→∃as,nC s.heap us ds as):∀u,bc (.ref a) u→∃as,me s.heap u (.list ds) as:=fun u r=>by
 cases r;obtain⟨its,rv,pl,_⟩:=I.list hq;obtain⟨o,ho,hc,n,hd⟩:=pl.isList;obtain⟨as,z⟩:=ih _ rv;exact⟨_,.list ho hc hd (by simpa using z)⟩
theorem XR(I:ag X aa σ H s){a:Addr}{xs:List V}{ds:List PyData}(hq:di X.K H a xs)(ih:∀us,aP xs us→∃as,nC s.heap us ds as):∀u,bc (.ref a) u→∃as,me s.heap u (.tuple ds) as:=fun u r=>by
 cases r;obtain⟨its,rv,pl,_⟩:=I.tuple hq;obtain⟨o,ho,hc,n,hd⟩:=pl;obtain⟨as,z⟩:=ih _ rv;exact⟨_,.tuple ho hc hd (by simpa using z)⟩
theorem ZE{x:V}{d:PyData}{xs:List V}{ds:List PyData}(h:∀u,bc x u→∃as,me s.heap u d as)(t:∀us,aP xs us→∃as,nC s.heap us ds as):∀us,aP (x::xs) us→∃as,nC s.heap us (d::ds) as:=fun us r=>by
 cases r with
 |cons r q=>
  obtain⟨as,z⟩:=h _ r;obtain⟨bs,z'⟩:=t _ q;exact⟨_,.cons z z'⟩
theorem aaK:∀us,aP [] us→∃as,nC s.heap us [] as:=fun us r=>by cases r;exact⟨_,.nil⟩
theorem fR.reads(I:ag X aa σ H s){x:V}{d:PyData}{u:Value}(h:fR X.K H x d)(r:bc x u):∃as,me s.heap u d as:=
 fR.rec (motive_1:=fun x d _=>∀u,bc x u→∃as,me s.heap u d as) (motive_2:=fun xs ds _=>∀us,aP xs us→∃as,nC s.heap us ds as) Zi Tp Rj QA (fun hq _ ih=>Q6 I hq ih) (fun hq _ ih=>XR I hq ih) aaK (fun _ _ h t=>ZE h t) h u r
end
def xJ(K:aq):R2:=fun x y H Q=>∃d e,fR K H x d∧fR K H y e∧nE d=true∧nE e=true∧Q (.bl (kL d e)) H
def xD(K:aq):R2:=fun x y H Q=>∃d e,fR K H x d∧fR K H y e∧nE d=true∧nE e=true∧Q (.bl (!PyData.eqv d e)) H
theorem XC(hu:X.A.units+64<pZ):bE X (dw .Eq) (xJ X.K):=by
 intro aa s σ H x y v u Q I rx ry h;obtain⟨d,e,hd,he,sd,se,q⟩:=h;obtain⟨as,ra⟩:=hd.reads I rx;obtain⟨bs,rb⟩:=he.reads I ry;exact eq_dataH ra rb sd se hu ⟨.bl _,H,I,rfl,q⟩
theorem VF(hu:X.A.units+64<pZ):bE X (dw .NotEq) (xD X.K):=by
 intro aa s σ H x y v u Q I rx ry h;obtain⟨d,e,hd,he,sd,se,q⟩:=h;obtain⟨as,ra⟩:=hd.reads I rx;obtain⟨bs,rb⟩:=he.reads I ry;exact ne_dataH ra rb sd se hu ⟨.bl _,H,I,rfl,q⟩
theorem LD:oM X "int.bit_length" (fun x xs H Q=>∃i,x=.int i∧xs=[]∧Q (.int (cV i:Nat)) H):=by
 intro aa s σ H x xs v us Q I rx rs h;obtain⟨i,rfl,rfl,q⟩:=h;obtain⟨t,rfl⟩:=rx;cases rs;refine PySem.call_gives Fl (typeIs_int s i t) F.entry_int_bit_length (F.args_int_bit_length_1 _) (AutoIntG2.int_bit_length_int_0 i t) ?_;exact⟨.int _,H,I.tok _,⟨_,rfl⟩,q⟩
end
section
variable{X:Cx}{a b:Expr}{bO:List Expr}{pos:Pos}{ta tb:TE}{tA tB':TT}
end
def Bg(t:TS):TS:=fun D σ H=>∃M:St→Hp→Prop,t {D with nx:=M} σ H∧∀σ' H',M σ' H'→D.nx σ' H'
theorem gI{X:Cx}{st:aw}{t:TS}(h:PS X st t):PS X st (Bg t):=by
 intro aa s σ H D I ⟨M,q,k⟩;refine aK (h aa s σ H _ I q) fun f s' z=>?_;cases f with
 |next=>obtain⟨σ',H',J,m⟩:=z;exact⟨σ',H',J,k σ' H' m⟩
 |brk=>exact z
 |cont=>exact z
 |ret v=>exact z
theorem ah.upd{H:Hp}{p:Addr}(h:H p=none)(o:HO):ah H (upd H p o):=fun b u q=>by rw[bp (db q h)];exact q
theorem abq{n:Nat}(h:n≤1000):n≤sizeLine:=Ak (mw h)
theorem uA{b:Bool}{A B:Prop}(h1:b=true→A)(h2:b=false→B):if b=true then A else B:=by
 cases b
 ·exact mz (h2 rfl)
 ·exact lp (h1 rfl)
structure bS(H:Hp)(p:Addr)(o:HO)(H2:Hp):Prop where
 free:H p=none
 at_:H2 p=some o
 same:ah H H2
 else_:∀b,b≠p→H2 b=H b
theorem bS.mk'{H:Hp}{p:Addr}(h:H p=none)(o:HO):bS H p o (L2.upd H p o):=⟨h,eB,ah.upd h o,fun _ hb=>bp hb⟩
structure cT(H:Hp)(p:Addr)(o:HO)(H2:Hp):Prop where
 at_:H2 p=some o
 else_:∀b,b≠p→H2 b=H b
theorem cT.mk'(H:Hp)(p:Addr)(o:HO):cT H p o (L2.upd H p o):=⟨eB,fun _ hb=>bp hb⟩
theorem cT.same{H0 H H2:Hp}{p:Addr}{o:HO}(k:cT H p o H2)(s:ah H0 H)(n:H0 p=none):ah H0 H2:=fun b u q=>by
 rw[k.else_ b (db q n)];exact s b u q
section
variable{X:Cx}{es:List Expr}{t:TA}{pos:Pos}
def GO(t:TA):TE:=fun σ H Q=>t σ H fun xs H1=>xs.length≤sizeLine∧∀p H2,bS H1 p (.tup xs) H2→Q (.ref p) H2
def Nq(t:TA):TE:=fun σ H Q=>t σ H fun xs H1=>xs.length≤sizeLine∧∀p H2,bS H1 p (.lst xs) H2→Q (.ref p) H2
theorem cK{x1}(h:PA X es t):PE X (.Tuple es x1 pos) (GO t):=by
 intro aa s σ H Q I hq;refine wpAny_Tuple_spliced (aK (h pos aa s σ H _ I hq) fun us s1 ⟨xs,H1,I1,r,z,q⟩=>⟨by rw[←r.length];exact z,?_⟩);have hf:H1 s1.heap.objs.size=none:=I1.hok.fresh (bv _);refine⟨.ref s1.heap.objs.size,L2.upd H1 s1.heap.objs.size (.tup xs),I1.laid (t':=s1.toks) (fun b u e=>dL _ e) (bv _) ?_,rfl,q _ _ (bS.mk' hf _)⟩;exact⟨z,us,r,⟨_,iA _ rfl,rfl,_,rfl⟩⟩
theorem bQ(h:PA X es t):PE X (.List es pos) (Nq t):=by
 intro aa s σ H Q I hq;refine wpAny_List_spliced (aK (h pos aa s σ H _ I hq) fun us s1 ⟨xs,H1,I1,r,z,q⟩=>⟨by rw[←r.length];exact z,?_⟩);have hf:H1 s1.heap.objs.size=none:=I1.hok.fresh (bv _);refine⟨.ref s1.heap.objs.size,L2.upd H1 s1.heap.objs.size (.lst xs),I1.laid (t':=s1.toks) (fun b u e=>dL _ e) (bv _) ?_,rfl,q _ _ (bS.mk' hf _)⟩;exact⟨z,us,0,r,iA _ rfl⟩
theorem bE.weak{f:Value→Value→Sem Value}{r r':R2}(h:bE X f r)(k:∀x y H Q,r' x y H Q→r x y H Q):bE X f r':=fun aa s σ H x y v u Q I rx ry q=>h aa s σ H x y v u Q I rx ry (k x y H Q q)
theorem kX.weak{r r':V→Option Int→Option Int→Hp→VK→Prop}(h:kX X r)(k:∀x lo hi H Q,r' x lo hi H Q→r x lo hi H Q):kX X r':=fun aa s σ H x v vl vu lo hi sl Q I rx hs pl pu q=>h aa s σ H x v vl vu lo hi sl Q I rx hs pl pu (k x lo hi H Q q)
theorem mv.weak{id:String}{r r':V→List V→Hp→VK→Prop}(h:mv X id r)(k:∀x xs H Q,r' x xs H Q→r x xs H Q):mv X id r':=fun aa s σ H x xs v us Q I rx rs q=>h aa s σ H x xs v us Q I rx rs (k x xs H Q q)
theorem qP:bE X (eG .Add) (fun x y H Q=>∃l b xs zs,x=.ref l∧y=.ref b∧H l=some (.lst xs)∧H b=some (.lst zs)∧xs.length+zs.length≤sizeLine∧∀p H2,bS H p (.lst (xs++zs)) H2→Q (.ref p) H2):=
 Ys.weak fun x y H Q aA=>by
  obtain⟨l,b,xs,zs,h1,h2,h3,h4,h5,q⟩:=aA;exact⟨l,b,xs,zs,h1,h2,h3,h4,h5,fun p hp=>q p _ (bS.mk' hp _)⟩
theorem Vc:kX X (fun x lo hi H Q=>∃a xs,x=.ref a∧ay X.K H a xs∧∀p H2,bS H p (.lst (j6 xs lo hi)) H2→Q (.ref p) H2):=
 SR.weak fun x lo hi H Q aA=>by
  obtain⟨a,xs,h1,h2,q⟩:=aA;exact⟨a,xs,h1,h2,fun p hp=>q p _ (bS.mk' hp _)⟩
theorem KQ{K:aq}(hK:X.K=K):kX X (fun x lo hi H Q=>∃a xs,x=.ref a∧ay K H a xs∧∀p H2,bS H p (.lst (j6 xs lo hi)) H2→Q (.ref p) H2):=hK▸Vc
theorem fP:mv X "list.append" (fun x vs H Q=>∃l xs y,x=.ref l∧vs=[y]∧H l=some (.lst xs)∧xs.length<sizeLine∧∀H2,cT H l (.lst (xs++[y])) H2→Q .non H2):=
 aaC.weak fun x vs H Q aA=>by
  obtain⟨l,xs,y,h1,h2,h3,h4,q⟩:=aA;exact⟨l,xs,y,h1,h2,h3,h4,q _ (cT.mk' _ _ _)⟩
theorem kc{K:aq}(hK:X.K=K){tg l:Expr}{tl:TE}(hl:PE X l tl):PI X tg l (Ea K tl):=hK▸Vn hl
theorem ZF{K:aq}(hK:X.K=K){es:List Expr}{k:Nat}{t:ke}{n:Nat}{pos:Pos}(hc:X.calm=true)(h:q5 X es t)
  (hn:(nH es X.env).length=n:=by rfl) (hst:(nH es X.env).findIdx? (·.1)=none:=by rfl):PG X (.Tuple es k pos) (ug K n t):=hK▸GQ hc h hn hst
end
end L2
namespace L2
open PySem
theorem fD:fU "isinstance" = some (.builtin "isinstance"):=by k_go
theorem uL:fU "int" = some (.type "int"):=by k_go
theorem S6:fU "bool" = some (.type "bool"):=by k_go
theorem gW:fU "str" = some (.type "str"):=by k_go
theorem ZQ:fU "max" = some (.builtin "max"):=by k_go
theorem dF:fU "len" = some (.builtin "len"):=by k_go
end L2
namespace L2
open PySem PySem.Spec PyProof.Rows
section
variable{X:Cx}{CX:c9}{k:Nat}{f C:Addr}{fd:FuncData}{ps:List Str}{sp:Sp}{ds:List Value}{E:XK}{x:Str}{p pos:Pos}{e:Expr}{es:List Expr}{t:TA}{A:List V→Hp→VK→Prop}
theorem mG(W:∀vs H1 Q,A vs H1 Q→∀x dx,H1 x=none→H1 dx=none→dx≠x→sp (.ref x::(vs++[])) (L2.upd (L2.upd H1 dx (.own x)) x (.ins C dx [])) (fun v H2=>v=.non∧Q (.ref x) H2) E)
  (M:Mk X.K C f) (F:aM X.prog X.w X.K X.mg X.base CX k f fd ps sp) (hr:cA (k+1) X.A) (hg:Gl X x) (hm:X.mg x=some (.ref C)) (hb:fH X.K fd ps []) (hx:jv CX X E)
  (ha:PA X (e::es) t) (hdb:(x==("__debug__" : Str))=false:=by decide) (he:bz (e::es) X.env=(false,eval e X.env)::bz es X.env:=by rfl) (hpl:(dN pos (bz es X.env)).any (·.1)=false:=by rfl) :
  PE X (.Call (.Name x p) (e::es) [] pos) (fun σ H Q=>t σ H fun vs H1=>A vs H1 Q):=by
 intro aa s σ H Q I h;refine nL (mV I hg hm ?_ hdb);refine ny (h₀:=X.base) I.ok.mod.kin M.kp (aK (ha pos aa s σ H _ I h) fun us s1 ⟨vs,H1,I1,r,q⟩=>⟨I1.kIn,?_⟩) he hpl;exact NQ M F hr hb .nil hx I1 r (W vs H1 Q q)
end
structure zu(K:aq)(x qual:Str)(st:aw)(f:Addr)(fd:FuncData)(dV:Value):Prop where
 ex:∃(oc:Value) (od:Option Addr) (kV doc pm:Value) (an:Option Addr) (bM ct:Value) (osl:Array (Option Value)),
  fd=fB x qual (fO st) (eJ st) (aB st) dV kV doc pm an bM ct∧K.lookup f=some ⟨oc,od,.func fd,osl⟩∧nA K bM qual=true
 kp:js K (.ref f)=true
section
variable{P:aG}{w:av}{K:aq}{mg:Str→Option Value}{base:Heap}{dV:Value}
theorem zu.ok{x qual:Str}{st:aw}{f:Addr}{fd:FuncData}{N ps:List Str}{k:Nat}{sp:Sp}(F:zu K x qual st f fd dV)(S:aY N ps (aB st))(len:∀vs H Q E,sp vs H Q E→vs.length=ps.length)
  (hbody:∀(bM:Value) (A:bH) (outer:List Env) (s:Shared) (H:Hp) (vs:List V) (Q:VK) (E:XK),cA k (A.deeper (jU qual (aB st) s.heap.objs.size f bM))→sp vs H Q E→
   ∃t,fq (aR ba P w K mg base N qual (aB st) f bM A outer s H E).nox (eJ st) t∧t {nx:=fun _ H'=>Q .non H',rt:=Q} (jx N vs) H):aM P w K mg base ba (k+1) f fd ps sp:=by
 obtain⟨oc,od,kV,doc,pm,an,bM,ct,osl,rfl,lk,hcd⟩:=F.ex;refine A5 lk hcd S len fun A outer s H vs Q E hr hsp=>?_;obtain⟨t,h,q⟩:=hbody bM A outer s H vs Q E hr hsp;exact⟨t,h.nox,q⟩
theorem Yx{x qual:Str}{st:aw}{f:Addr}{oc:Value}{od an:Option Addr}{osl:Array (Option Value)}{kV doc pm bM ct:Value}(l:K.lookup f=some ⟨oc,od,.func (fB x qual (fO st) (eJ st) (aB st) dV kV doc pm an bM ct),osl⟩)
  (c:nA K bM qual=true) (k:js K (.ref f)=true):zu K x qual st f (fB x qual (fO st) (eJ st) (aB st) dV kV doc pm an bM ct) dV:=⟨⟨oc,od,kV,doc,pm,an,bM,ct,osl,rfl,l,c⟩,k⟩
end
def dP(cells:List (Str×Addr)):List (Str×NameKind)→List (Str×Addr)→List (Str×Addr)
 |[],cs=>cs
 |(n,k)::r,cs=>if k == .free then dP cells r ((n,(cells.lookup n).getD 0)::cs)else dP cells r cs
theorem xb{scope:cQ}{env:Env}(h:∀y∈scope.names,y.2=.free→∃c,env.cells.lookup y.1=some c):closureFor scope env=pure (dP env.cells scope.names []):=by
 have go:∀(names:List (Str×NameKind)) (cs:List (Str×Addr)),(∀y∈names,y.2=.free→∃c,env.cells.lookup y.1=some c)→
   (vL names cs fun(x:Str×NameKind) (r:List (Str×Addr))=>match x with
    |(name,kind)=>if(kind==eA)=true then do
      let a ←cellOf env name
      pure (pL ((name,a)::r))
     else pure (pL r):Sem (List (Str×Addr)))=pure (dP env.cells names cs):=by
  intro names
  induction names with
  |nil=>intro cs _;rfl
  |cons x r ih=>
   intro cs hh;obtain⟨n,k⟩:=x;rw[Ab];cases hk:(k==eA)with
   |true=>
    obtain⟨c,hc⟩:=hh (n,k) m9 (by simpa using hk);have hc':cellOf env n=pure c:=by unfold cellOf;rw[hc]
    simp only[hk,if_true];rw[hc'];have:=ih ((n,c)::cs) fun y hy=>hh y (jp _ hy);unfold dP;rw[hk,if_pos rfl,hc];exact this
   |false=>
    simp only[hk,Bool.false_eq_true,if_false];have:=ih cs fun y hy=>hh y (jp _ hy);unfold dP;rw[hk,if_neg bK];exact this
 have q:=go scope.names [] h;simp only[closureFor];exact congrArg (fun t:Sem (List (Str×Addr))=>t >>= fun r=>pure r) q
theorem xW{cells:List (Str×Addr)}:∀(names:List (Str×NameKind)) (cs:List (Str×Addr)),(∀y∈names,y.2=.free→∃c,cells.lookup y.1=some c)→(∀p∈cs,cells.lookup p.1=some p.2)→∀p∈dP cells names cs,cells.lookup p.1=some p.2
 |[],cs,_,h=>h
 |(n,k)::r,cs,hh,h=>by
  unfold dP;have hr:∀y∈r,y.2=.free→∃c,cells.lookup y.1=some c:=fun y hy=>hh y (jp _ hy);split
  ·rename_i hk;refine xW r _ hr fun p hp=>?_;rcases bu.mp hp with e|e
   ·obtain⟨c,hc⟩:=hh (n,k) m9 (by simpa using hk);subst e;show cells.lookup n=some ((cells.lookup n).getD 0);rw[show cells.lookup n=some c from hc];rfl
   ·exact h p e
  ·exact xW r cs hr h
theorem qy{cells:List (Str×Addr)}{y:Str}:∀(names:List (Str×NameKind)) (cs:List (Str×Addr)),((∃c,cs.lookup y=some c)∨(y,eA)∈names)→∃c,(dP cells names cs).lookup y=some c
 |[],cs,h=>by
  rcases h with h|h
  ·exact h
  ·exact nomatch h
 |(n,k)::r,cs,h=>by
  unfold dP;split
  ·rename_i hk;refine qy r _ ?_;rcases h with⟨c,hc⟩|h
   ·refine .inl ?_;rw[iD];cases hy:y==n with
    |true=>exact⟨_,rfl⟩
    |false=>exact⟨c,hc⟩
   ·rcases bu.mp h with e|e
    ·refine .inl ?_;cases e;rw[iD,beq_self_eq_true];exact⟨_,rfl⟩
    ·exact .inr e
  ·rename_i hk;refine qy r cs ?_;rcases h with h|h
   ·exact .inl h
   ·rcases bu.mp h with e|e
    ·cases e;exact absurd rfl hk
    ·exact .inr e
theorem tU{env:Env}{y:Str}:∀{names:List (Str×NameKind)},(∀p∈names,p.2≠nq)→∀{k:NameKind},(k=.cell∨k=.free)→
  (names.map fun(n,k)=>if(k==eA&&env.scope.kind == .function&&env.kindOf n==some .cell)then(n,nq)else(n,k)).lookup y=some k→(y,eA)∈names
 |[],_,_,_,h=>by simp at h
 |(n,k0)::r,hc,k,hk,h=>by
  have ih:=@tU env y r (fun p hp=>hc p (jp _ hp)) k hk;have h':iZ y ((if(k0==eA&&env.scope.kind == .function&&env.kindOf n==some .cell)=true then(n,nq)else(n,k0))::(r.map fun(n,k)=>if(k==eA&&env.scope.kind == .function&&env.kindOf n==some .cell)then(n,nq)else(n,k)))=some k:=h;by_cases c:(k0==eA&&env.scope.kind == .function&&env.kindOf n==some .cell)=true
  ·rw[if_pos c,iD]at h';cases hy:y==n with
   |true=>
    have e:y=n:=by simpa using hy
    subst e;have k0f:k0=.free:=by
     have:=(vg.mp (vg.mp c).1).1;simpa using this
    subst k0f;exact m9
   |false=>rw[hy]at h';exact jp _ (ih h')
  ·rw[if_neg c,iD]at h';cases hy:y==n with
   |true=>
    rw[hy]at h';have e:y=n:=by simpa using hy
    subst e;have ek:k0=k:=cP h';subst ek;rcases hk with hk|hk
    ·exact absurd hk (hc (y,k0) m9)
    ·subst hk;exact m9
   |false=>rw[hy]at h';exact jp _ (ih h')
def Cx.comp(X:Cx)(N':List Str)(scope:cQ)(C:Addr)(s₀ : Shared)(H₀ : Hp)(fp:List Addr)(aa:List (Addr×Obj)):Cx:=
 {X with N:=N',s₀:=s₀,H₀:=H₀,env:=mh scope (dP X.env.cells scope.names []) C X.env,outer:=X.stack,stack:=X.stack,ex:=fp,fn:=fun _=>false,pn:=X.pn++aa,xe:=fun _ _=>False}
structure kS(oN:List Str)(osc:cQ)(scope:cQ)(x:Str)(fr:List Str)(ix:List Nat):Prop where
 kind:scope.kind=.function
 cell:∀y∈scope.names,y.2≠.cell
 names:∀y∈scope.names,y.2=.local→scope.names.lookup y.1=some .local
 own:scope.names.lookup x=some .local
 nd:(x::fr).Nodup
 out:∀y∈scope.names,y.2=.free→osc.names.lookup y.1=some .cell∨osc.names.lookup y.1=some .free
 len:fr.length=ix.length
 at_:∀p∈fr.zip ix,oN[p.2]?=some p.1
 fre:∀y∈fr,(y,eA)∈scope.names∧scope.names.lookup y=some .free
def jI(σ : St)(ix:List Nat):St:=none::ix.map fun j=>(σ[j]?).getD none
section
variable{X:Cx}{oN:List Str}{osc scope:cQ}{x:Str}{fr:List Str}{ix:List Nat}{aa:List (Addr×Obj)}{σ : St}{H:Hp}{s:Shared}
theorem Gw{names:List (Str×NameKind)}{env:Env}{y:Str}(h:names.lookup y=some .free):
  (names.map fun(n,k)=>if(k==eA&&env.scope.kind == .function&&env.kindOf n==some .cell)then(n,nq)else(n,k)).lookup y=some .cell∨
  (names.map fun(n,k)=>if(k==eA&&env.scope.kind == .function&&env.kindOf n==some .cell)then(n,nq)else(n,k)).lookup y=some .free:=by
 induction names with
 |nil=>simp at h
 |cons p r ih=>
  obtain⟨n,k⟩:=p;rw[iD]at h;show iZ y ((if(k==eA&&env.scope.kind == .function&&env.kindOf n==some .cell)=true then(n,nq)else(n,k))::_)=_∨iZ y ((if(k==eA&&env.scope.kind == .function&&env.kindOf n==some .cell)=true then(n,nq)else(n,k))::_)=_;cases hy:y==n with
  |true=>
   rw[hy]at h;have ek:k=.free:=cP h;subst ek;by_cases c:(eA==eA&&env.scope.kind == .function&&env.kindOf n==some .cell)=true
   ·rw[if_pos c,iD,hy];exact .inl rfl
   ·rw[if_neg c,iD,hy];exact .inr rfl
  |false=>
   rw[hy]at h;have q:=ih h;by_cases c:(k==eA&&env.scope.kind == .function&&env.kindOf n==some .cell)=true
   ·rw[if_pos c,iD,hy];exact q
   ·rw[if_neg c,iD,hy];exact q
theorem yL(S:kS oN osc scope x fr ix)(hosc:X.env.scope=osc)(ok:X.Ok):∀y∈scope.names,y.2=.free→∃c,X.env.cells.lookup y.1=some c:=fun y hy hk=>by
 refine ok.has y.1 ?_;have q:=S.out y hy hk;rw[←hosc]at q;exact q
theorem JK{h1:Heap}{tk:Nat}{fp:List Addr}{m:Str→Option Value}(S:kS oN osc scope x fr ix)(hoN:X.N=oN)(hosc:X.env.scope=osc)(I:ag X aa σ H s)
  (hfp:∀b∈fp,cX X aa H b∧b<s.heap.objs.size) (hk:∀b o,s.heap.get? b=some o→h1.get? b=some o) (hn:h1.Ns s.heap.objs.size m) :
  ag (X.comp (x::fr) scope s.heap.objs.size s H fp aa) [] (jI σ ix) H {s with heap:=h1,toks:=tk}:=by
 have fre:=yL S hosc I.ok;have sub:=xW scope.names [] fre (fun _ z=>nomatch z);have cl:∀y c,(dP X.env.cells scope.names []).lookup y=some c→X.env.cells.lookup y=some c:=fun y c e=>sub (y,c) (pV e);have bst:=I.stkSub;have ltL:X.env.locals<s.heap.objs.size:=I.lt;have cellLt:∀y c,X.env.cells.lookup y=some c→c<s.heap.objs.size:=fun y c e=>by
  obtain⟨v,o,ho,_⟩:=I.cell y c e;exact bC ho
 have okc:(X.comp (x::fr) scope s.heap.objs.size s H fp aa).Ok:=by
  refine⟨I.ok.mod,S.kind,I.ok.glob,I.ok.blt,bv _,fun y z c e1 e2=>I.ok.inj y z c (cl y c e1) (cl z c e2),fun y hy=>?_,(fun y c hf _=>nomatch hf),I.ok.hd,I.ok.frames,vw rfl,fun b hb=>?_,I.bs,cB I.ok.bsz I.sz,fun b o e hb=>?_,fun b hb=>?_,I.stack,I.stkFree⟩
  ·have q:(y,eA)∈scope.names:=by
    rcases hy with hy|hy
    ·exact tU S.cell (.inl rfl) hy
    ·exact tU S.cell (.inr rfl) hy
   exact qy scope.names [] (.inr q)
  ·obtain⟨f,lt⟩:=hfp b hb;exact⟨cC lt,fun y c e=>f.2.2.2.2.1 y c (cl y c e)⟩
  ·obtain⟨f,lt⟩:=hfp b hb;have e1:=(I.ok.bs b o e).1;rcases f.2.2.2.1 with z|z
   ·exact I.ok.noex b o e z
   ·exact absurd (dq (bC e1) z) (fA _)
  ·obtain⟨f,lt⟩:=hfp b hb;intro z;rcases bu.mp (bst b z)with e|e
   ·exact f.2.1 e
   ·exact f.2.2.1 e
 refine⟨okc,rfl,I.bare,Un.kept hk,⟨m,hn,fun i y v e1 e2 e3=>?_⟩,fun y c e=>?_,I.hok.fresh (bv _),fun y c e=>I.freeC y c (cl y c e),fun p hp=>?_,I.hok.kept hk,?_⟩
 ·cases i with
  |zero=>exact nomatch e2
  |succ j=>
   have e1':fr[j]?=some y:=e1;have e2':(ix.map fun j=>(σ[j]?).getD none)[j]?=some (some v):=e2;rw[iC]at e2';cases ei:ix[j]? with
   |none=>rw[ei]at e2';cases e2'
   |some k=>
    rw[ei]at e2';have e4:(σ[k]?).getD none=some v:=cP e2';have e5:σ[k]?=some (some v):=by
     cases e6:σ[k]? with
     |none=>rw[e6]at e4;cases e4
     |some z=>rw[e6]at e4;exact congrArg some e4
    have mem:(y,k)∈fr.zip ix:=by
     have:(fr.zip ix)[j]?=some (y,k):=by rw[FA];exact⟨e1',ei⟩
     exact fw this
    have hN:X.N[k]?=some y:=by rw[hoN];exact S.at_ _ mem
    have hy:y∈fr:=fw e1';obtain⟨f1,f2⟩:=S.fre y hy;have ko:=S.out (y,.free) f1 rfl;rw[←hosc]at ko;obtain⟨m0,hn0,l0⟩:=I.loc;obtain⟨u,ru,lk⟩:=l0 k y v hN e5 (ko.elim (fun z=>.inr (.inl z)) fun z=>.inr (.inr z));refine⟨u,ru,.inr ⟨Gw f2,?_⟩⟩;have⟨c,ec,ic⟩:∃c,X.env.cells.lookup y=some c∧s.heap.IsCell c (some u):=by
     rcases lk with⟨z,_⟩|⟨_,z⟩
     ·have z':X.env.scope.names.lookup y=some .local:=z;rcases ko with q|q
      ·rw[show X.env.scope.names.lookup (y,eA).1=X.env.scope.names.lookup y from rfl,z']at q;cases q
      ·rw[show X.env.scope.names.lookup (y,eA).1=X.env.scope.names.lookup y from rfl,z']at q;cases q
     ·exact z
    obtain⟨c',ec'⟩:=qy (cells:=X.env.cells) scope.names [] (.inr f1);have:=cl y c' ec';rw[ec]at this;cases this;obtain⟨o,ho,hd⟩:=ic;exact⟨c,ec',o,hk c o ho,hd⟩
 ·obtain⟨v,o,ho,hd⟩:=I.cell y c (cl y c e);exact⟨v,o,hk c o ho,hd⟩
 ·have hp':p∈X.pn++aa:=by
   have:p∈(X.pn++aa)++[]:=hp;rw[gg]at this;exact this
  obtain⟨e,n,ne,nf,d⟩:=I.pin p hp';refine⟨hk _ _ e,n,cC (bC e),fun z=>?_,d⟩;rcases bu.mp (bst p.1 z)with q|q
  ·exact ne q
  ·exact nf q
 ·show(jI σ ix).length=(x::fr).length;unfold jI;rw[bI,bI,bo,S.len]
theorem CG{fp:List Addr}{σ':St}{H':Hp}{s':Shared}(S:kS oN osc scope x fr ix)(hosc:X.env.scope=osc)(I:ag X aa σ H s)
  (hfp:∀b∈fp,cX X aa H b∧b<s.heap.objs.size) {pl:List (Addr×Obj)} (J:ag (X.comp (x::fr) scope s.heap.objs.size s H fp aa) pl σ' H' s') :
  ag X aa σ H' s'∧cX X aa H' s.heap.objs.size∧∃m,s'.heap.Ns s.heap.objs.size m:=by
 refine⟨I.call' (ch:=fp) J.os J.base J.hok J.bare fun b hb=>?_,?_,?_⟩
 ·obtain⟨f,lt⟩:=hfp b hb;exact⟨f.2.2.2.1,f.2.1,f.2.2.2.2.1,f.2.2.2.2.2⟩
 ·exact I.fpOk (bv _) J.free
 ·obtain⟨m,hn,_⟩:=J.loc;exact⟨m,hn⟩
end
def eC(σ : St)(ix:List Nat)(z:V):St:=some z::ix.map fun j=>(σ[j]?).getD none
def iF(tc:TT)(te:TE)(ix:List Nat)(σ : St)(R:Addr→Hp→Prop)(J:It)(H1:Hp):Prop:=∀l H2,bS H1 l (.lst []) H2→
 ∃W:Nat→Nat→List V→Hp→Prop,(∃m,W 0 m [] H2)∧∀i m ys H,W i m ys H→H l=some (.lst ys)∧((J.stop i H∧R l H)∨(J.go i H∧ys.length<sizeLine∧∀z H',J.yld i H z H'→tc (eC σ ix z) H' fun b H4=>
  if b=true then te (eC σ ix z) H4 fun y H5=>H5 l=some (.lst ys)∧∀H6,cT H5 l (.lst (ys++[y])) H6→∃m',m'<m∧W (i+1) m' (ys++[y]) H6
  else∃m',m'<m∧W (i+1) m' ys H4))
def By(wi:TI)(tc:TT)(te:TE)(ix:List Nat):TE:=fun σ H Q=>wi σ H fun J H1=>iF tc te ix σ (fun l H5=>Q (.ref l) H5) J H1
def K3(wi:TI)(tc:TT)(te:TE)(ix:List Nat)(i:Nat):TS:=fun D σ H=>wi σ H fun J H1=>iF tc te ix σ (fun l H5=>D.nx (σ.set i (some (.ref l))) H5) J H1
def u0:TT:=fun _ H Q=>Q true H
section
variable{X:Cx}{oN:List Str}{osc scope:cQ}{x:Str}{px pos:Pos}{fr:List Str}{ix:List Nat}{elt iter:Expr}{ifs:List Expr}{wi:TI}{tc:TT}{te:TE}
def ka(X:Cx)(ifs:List Expr)(t:TT):Prop:=
 ∀(aa:List (Addr×Obj)) (s:Shared) (σ : St) (H:Hp) (Q:Bool→Hp→Prop),ag X aa σ H s→t σ H Q→
  ax (au X.prog X.w) X.A (vL ifs true fun c r=>if r=true then do let ok ←isTrue c X.env (eval c X.env);pure (pL ok)else pure (pL r)) (TP X aa σ Q) X.xe s
theorem qm:ka X [] u0:=fun _ _ _ H _ I h=>wpAny_pure ⟨H,I,h⟩
theorem ss{c:Expr}{t:TT}(h:PT X c t):ka X [c] t:=by
 intro aa s σ H Q I q;rw[Ab];show ax _ _ ((do let ok ←isTrue c X.env (eval c X.env);pure (pL ok)) >>= _) _ _ s;refine aE (aE (aK (h aa s σ H Q I q) fun b s1 hb=>wpAny_pure ?_));exact wpAny_pure hb
theorem Bj{aa:List (Addr×Obj)}{σ : St}{H:Hp}{s:Shared}(I:ag X aa σ H s):ag X aa σ (L2.upd H s.heap.objs.size (.lst [])) {s with heap:=s.heap.push {cls:=.type "list",data:=.seq ([]:List Value).toArray}}:=
 I.lnew (its:=[]) (t':=s.toks) .nil (fe _)
theorem Mt{aa:List (Addr×Obj)}{σ : St}{s:Shared}{R:Addr→Hp→Prop}{itv:Value}{RR:Value→Addr→nD→Shared→Prop}{E:Value→Shared→Prop}
  (S:kS oN osc scope x fr ix) (hoN:X.N=oN) (hosc:X.env.scope=osc) (hc:X.calm=true)
  (ht:∀C s₀ H₀ fp pl,ka (X.comp (x::fr) scope C s₀ H₀ fp pl) ifs tc) (he:∀C s₀ H₀ fp pl,PE (X.comp (x::fr) scope C s₀ H₀ fp pl) elt te)
  (h2:sL X aa σ (.Name x px) (iF tc te ix σ R) itv s)
  (hRR:∀l C H5 s5,ag X aa σ H5 s5→cX X aa H5 C→(∃m,s5.heap.Ns C m)→R l H5→RR (.ref l) C (.ok .next) s5) :
  ax (au X.prog X.w) X.A (newList []) (fun acc s₃=>ax (au X.prog X.w) X.A (Gb scope X.env.globals (dP X.env.cells scope.names []) [] X.env.qual none .none (some X.env)) (fun cenv s₄=>
   gE (au X.prog X.w) X.A (.compStart (.ListComp elt [⟨.Name x px,iter,ifs,0⟩] scope pos) 0 itv acc {cenv with scope:=relabel scope X.env}) (RR acc cenv.locals) s₄) E s₃) E s:=by
 obtain⟨it,fp,tn,J,H1,e,I1,T,st1,f1,q1⟩:=h2;subst e;have I2:=Bj I1;have hfree:H1 s.heap.objs.size=none:=I1.hok.fresh (bv _);obtain⟨W,⟨m0,w0⟩,turn⟩:=q1 _ _ (bS.mk' hfree (.lst []));have fpl:∀b∈fp,b<s.heap.objs.size:=fun b hb=>by
  obtain⟨o,ho,_⟩:=T.obj 0 _ st1 b hb;exact bC ho
 refine vR ?_;generalize hl:s.heap.objs.size=l at fpl⊢ hfree turn w0 I2;generalize hs2:({s with heap:=s.heap.push {cls:=.type "list",data:=.seq ([]:List Value).toArray}}:Shared)=s2 at *;have sz2:s2.heap.objs.size=l+1:=by rw[←hs2,←hl];exact vh ..
 have f2:∀b∈fp,cX X aa (L2.upd H1 l (.lst [])) b∧b<s2.heap.objs.size:=fun b hb=>by
  have:=fpl b hb;refine⟨⟨?_,(f1 b hb).2⟩,by rw[sz2];exact FG this⟩;rw[bp (cC this)];exact(f1 b hb).1
 refine Gk S.cell (by intro y hy;simp at hy) (fun h₁ hns₁ hsb₁=>?_) S.kind;have old:∀b o,s2.heap.get? b=some o→h₁.get? b=some o:=fun b o e=>hsb₁.extBut b o (cC (bC e)) (dL _ e);have I3:=JK (tk:=s2.toks+([]:List (Str×Value)).length) S hoN hosc I2 f2 old hns₁;have st3:tn 0 h₁:=T.keep _ _ _ st1 fun b hb o e=>old b o (by rw[←hs2];exact dL _ e);have loop:∀s₃ : Shared,s₃={s2 with heap:=h₁,toks:=s2.toks+([]:List (Str×Value)).length}→
   gE (au X.prog X.w) X.A (.compLoop (.ListComp elt [⟨.Name x px,iter,ifs,0⟩] scope pos) 0 (.ref it) (.ref l) (mh scope (dP X.env.cells scope.names []) s2.heap.objs.size X.env)) (RR (.ref l) s2.heap.objs.size) s₃:=by
  rintro s₃ rfl;have stat:∀{H':Hp},(∀b∈fp,H' b=none)→∀b∈fp,cX (X.comp (x::fr) scope s2.heap.objs.size s2 (L2.upd H1 l (.lst [])) fp aa) [] H' b:=fun hn b hb=>by
   obtain⟨f,lt⟩:=f2 b hb;refine⟨hn b hb,cC lt,fun z=>?_,.inl hb,fun y c e=>I3.ok.exf b hb |>.2 y c e,fun p hp=>?_⟩
   ·rcases bu.mp (I2.stkSub b z)with q|q
    ·exact f.2.1 q
    ·exact f.2.2.1 q
   ·have hp':p∈(X.pn++aa)++[]:=hp;rw[gg]at hp';exact f.2.2.2.2.2 p hp'
  refine PP (fun n s'=>∃i ys H',ag (X.comp (x::fr) scope s2.heap.objs.size s2 (L2.upd H1 l (.lst [])) fp aa) [] (jI σ ix) H' s'∧tn i s'.heap∧(∀b∈fp,H' b=none)∧W i n ys H') ?_ m0 ⟨0,[],_,I3,st3,fun b hb=>(f2 b hb).1.1,w0⟩;rintro n s4 ⟨i,ys,H4,I4,st4,fr4,w4⟩;obtain⟨hl4,alt⟩:=turn i n ys H4 w4;rcases alt with⟨stop,qn⟩|⟨go,hsz,step⟩
  ·refine aK (bT (T.done (X.comp (x::fr) scope s2.heap.objs.size s2 (L2.upd H1 l (.lst [])) fp aa) rfl rfl rfl hc i [] s4 _ H4 (fun _ _=>False) I4 (stat fr4) st4 stop) (fun _ _ z=>z) fun _ _ z=>z.elim) fun r s5 ⟨hr,I5⟩=>?_;subst hr;obtain⟨J1,J2,J3⟩:=CG S hosc I2 f2 I5;exact hRR l _ H4 s5 J1 J2 J3 qn
  ·refine aK (bT (T.item (X.comp (x::fr) scope s2.heap.objs.size s2 (L2.upd H1 l (.lst [])) fp aa) rfl rfl rfl hc i [] s4 _ H4 (fun _ _=>False) I4 (stat fr4) st4 go) (fun _ _ z=>z) fun _ _ z=>z.elim) fun r s5 ⟨u,hr,h5⟩=>?_;subst hr;have I5':∀{σ9:St} {H9:Hp} {s9:Shared} {pl:List (Addr×Obj)} {z:V},ag (X.comp (x::fr) scope s2.heap.objs.size s2 (L2.upd H1 l (.lst [])) fp aa) ([]++pl) (eC σ ix z) H9 s9→ag (X.comp (x::fr) scope s2.heap.objs.size s2 (L2.upd H1 l (.lst [])) fp aa) [] (jI σ ix) H9 s9:=fun{σ9 H9 s9 pl z} J9=>by
    refine(J9.unpinned).weak (by unfold jI eC;rfl) fun k v e=>?_;cases k with
    |zero=>exact nomatch e
    |succ k=>exact e
   show ax _ _ (rS (.Name x px) (.ref it) u >>= fun _=>assign (.Name x px) (mh scope (dP X.env.cells scope.names []) s2.heap.objs.size X.env) u) _ _ s5;refine aE (bT h5 (fun _ s6 aA=>?_) fun _ _ z=>z.elim);obtain⟨z,H6,I6,r6,y6,st6,fr6⟩:=aA;have I6':=I6.pinned (stat fr6) (T.obj _ _ st6);have pg:=kW (X:=X.comp (x::fr) scope s2.heap.objs.size s2 (L2.upd H1 l (.lst [])) fp aa) (pos:=px) (i:=0) (x:=x) S.nd rfl (.inl (rT S.own)) (.inr (rT S.own));refine bT (pg _ s6 _ H6 z u (fun σ' H'=>σ'=eC σ ix z∧H'=H6) I6' r6 ⟨rfl,rfl⟩) (fun _ s7 aA=>?_) fun _ _ z=>z.elim;obtain⟨σ7,H7,I7,e7,e7'⟩:=aA;subst e7 e7';have back:∀{H9:Hp} {s9:Shared} {ys':List V},ag (X.comp (x::fr) scope s2.heap.objs.size s2 (L2.upd H1 l (.lst [])) fp aa) ([]++oG fp s6.heap) (eC σ ix z) H9 s9→(∃m',m'<n∧W (i+1) m' ys' H9)→
     ∃m',m'<n∧∃i ys H',ag (X.comp (x::fr) scope s2.heap.objs.size s2 (L2.upd H1 l (.lst [])) fp aa) [] (jI σ ix) H' s9∧tn i s9.heap∧(∀b∈fp,H' b=none)∧W i m' ys H':=fun{H9 s9 ys'} J9 ⟨m',hm,w9⟩=>by
    refine⟨m',hm,i+1,ys',H9,I5' (σ9:=[]) J9,T.keep _ _ _ st6 fun b hb o e=>(J9.pin (b,o) (bZ _ (bZ _ (mQ hb e)))).1,fun b hb=>?_,w9⟩;obtain⟨o,e,d⟩:=T.obj _ _ st6 b hb;exact(J9.pin (b,o) (bZ _ (bZ _ (mQ hb e)))).2.1
   refine bT (ht _ _ _ _ _ _ s7 _ H7 _ I7 (step z H7 y6)) (fun b s8 aA=>?_) fun _ _ z=>z.elim;obtain⟨H8,I8,q8⟩:=aA;cases b with
   |false=>
    rw[if_neg bK]at q8⊢;exact back I8 q8
   |true=>
    rw[if_pos rfl]at q8⊢;refine bT (he _ _ _ _ _ _ s8 _ H8 _ I8 q8) (fun u9 s9 aA=>?_) fun _ _ z=>z.elim;obtain⟨v9,H9,I9,r9,hl9,q9⟩:=aA;refine bT (fP (X:=X.comp (x::fr) scope s2.heap.objs.size s2 (L2.upd H1 l (.lst [])) fp aa) _ s9 _ H9 (.ref l) [v9] (.ref l) [u9] (fun v H'=>∃m',m'<n∧W (i+1) m' (ys++[v9]) H') I9 rfl (.cons r9 .nil) ⟨l,ys,v9,rfl,rfl,hl9,hsz,q9⟩) (fun _ s10 aA=>?_) fun _ _ z=>z.elim;obtain⟨v10,H10,I10,_,q10⟩:=aA;exact back I10 q10
 exact F6 (loop _ rfl) (T.self _ 0 _ _ _ st3 (loop _ rfl))
theorem qu(S:kS oN osc scope x fr ix)(hoN:X.N=oN)(hosc:X.env.scope=osc)(hc:X.calm=true)(hi:PI X (.Name x px) iter wi)
  (ht:∀C s₀ H₀ fp pl,ka (X.comp (x::fr) scope C s₀ H₀ fp pl) ifs tc) (he:∀C s₀ H₀ fp pl,PE (X.comp (x::fr) scope C s₀ H₀ fp pl) elt te)
  (hs:∀x,vK iter X.env x=pure x:=by intro _;rfl):PE X (.ListComp elt [⟨.Name x px,iter,ifs,0⟩] scope pos) (By wi tc te ix):=by
 intro aa s σ H Q I h;rw[F9];refine AO (use:=none) rfl hs (xb (yL S hosc I.ok)) S.kind S.names (aK (hi aa s σ H _ I h) fun v s1 h1=>aK h1 fun itv s2 h2=>?_);refine Mt (RR:=fun acc C=>vJ (au X.prog X.w) X.A X.xe none (EP X aa σ Q) acc C) S hoN hosc hc ht he h2 fun l C H5 s5 I5 fC ⟨m,hm⟩ q=>?_;refine⟨m,hm,fun h' sb=>⟨.ref l,H5,?_,rfl,q⟩⟩;have:=I5.turned (h':=h') (t':=s5.toks) (it:=C) (fun b o hb e=>sb.extBut b o hb e) fC.1 fC.2.1 fC.2.2.2.1 fC.2.2.2.2.1 fC.2.2.2.2.2;exact this
theorem K9{i:Nat}{y:Str}{py spos:Pos}(S:kS oN osc scope x fr ix)(hoN:X.N=oN)(hosc:X.env.scope=osc)(hc:X.calm=true)(hN:X.N.Nodup)(hiy:X.N[i]?=some y)(hy:X.env.scope.names.lookup y=some .local)
  (hsw:AJ (.ListComp elt [⟨.Name x px,iter,ifs,0⟩] scope pos) (some (.Name y py)) spos.line X.env=pure true)
  (hi:PI X (.Name x px) iter wi) (ht:∀C s₀ H₀ fp pl,ka (X.comp (x::fr) scope C s₀ H₀ fp pl) ifs tc) (he:∀C s₀ H₀ fp pl,PE (X.comp (x::fr) scope C s₀ H₀ fp pl) elt te)
  (hs:∀x,vK iter X.env x=pure x:=by intro _;rfl):PS X (.Assign [.Name y py] (.ListComp elt [⟨.Name x px,iter,ifs,0⟩] scope pos) spos) (K3 wi tc te ix i):=by
 intro aa s σ H D I h;rw[exec_Assign_Name_used _ _ _ _ hsw];refine aE (kO (aE ?_));show ax _ X.A (do let _ ←comprehension (.ListComp elt [⟨.Name x px,iter,ifs,0⟩] scope pos) scope X.env _ (newList []) false (eval iter X.env) (some (assign (.Name y py) X.env))) _ _ s;refine aE (bT (AO (use:=some (assign (.Name y py) X.env)) (Q:=fun _ s'=>SP X aa D .next s') rfl hs (xb (yL S hosc I.ok)) S.kind S.names
  (aK (hi aa s σ H _ I h) fun v s1 h1=>aK h1 fun itv s2 h2=>?_)) (fun _ s' hq=>wpAny_pure (wpAny_pure hq)) fun _ _ e=>e)
 refine Mt (RR:=fun acc C=>vJ (au X.prog X.w) X.A X.xe (some (assign (.Name y py) X.env)) (fun _ s'=>SP X aa D .next s') acc C) S hoN hosc hc ht he h2 fun l C H5 s5 I5 fC ⟨m,hm⟩ q=>?_;show ax _ X.A (assign (.Name y py) X.env (.ref l)) _ _ _;refine Qf (Lu (v:=.ref l) (u:=.ref l) I5 hN hiy (.inl hy) rfl (fun s6 I6 aA=>?_) (.inr hy));obtain⟨a,sb,ha⟩:=aA;have hCa:C≠a:=by
  rcases ha with e|e
  ·rw[e];exact fC.2.1
  ·exact fun z=>fC.2.2.2.2.1 y a e z.symm
 refine⟨m,hm.sameBut sb hCa,fun h' sb'=>⟨_,H5,?_,q⟩⟩;have:=I6.turned (h':=h') (t':=s6.toks) (it:=C) (fun b o hb e=>sb'.extBut b o hb e) fC.1 fC.2.1 fC.2.2.2.1 fC.2.2.2.2.1 fC.2.2.2.2.2;exact this
end
theorem KE{J:It}{xs:List V}{tc:TT}{te:TE}{ix:List Nat}{σ : St}{R:Addr→Hp→Prop}{H1:Hp}(p:V→Bool)(f:V→V)
  (hgo:∀i z H,ah H1 H→xs[i]?=some z→J.go i H) (hyl:∀i H z H',i<xs.length→ah H1 H→J.yld i H z H'→H'=H∧xs[i]?=some z) (hst:∀i H,ah H1 H→xs.length≤i→J.stop i H) (hz:xs.length<sizeLine)
  (ht:∀z∈xs,∀H',ah H1 H'→∀Q:Bool→Hp→Prop,Q (p z) H'→tc (eC σ ix z) H' Q)
  (he:∀z∈xs,p z=true→∀H',ah H1 H'→∀Q:VK,Q (f z) H'→te (eC σ ix z) H' Q)
  (q:∀l H5,ah H1 H5→H1 l=none→H5 l=some (.lst ((xs.filter p).map f))→R l H5):iF tc te ix σ R J H1:=by
 intro l H2 nw;refine⟨fun i m ys H=>m=xs.length-i∧i≤xs.length∧ys=((xs.take i).filter p).map f∧H l=some (.lst ys)∧ah H1 H,⟨_,rfl,fe _,rfl,nw.at_,nw.same⟩,?_⟩;rintro i m ys H ⟨rfl,hi,rfl,hl,sm⟩;refine⟨hl,?_⟩;by_cases hlt:i<xs.length
 ·have sz:(((xs.take i).filter p).map f).length<sizeLine:=by
   rw[bo];have a:=kK p (xs.take i);rw[pN]at a;omega
  refine .inr ⟨hgo i xs[i] H sm (cL hlt),sz,fun z H' y=>?_⟩;obtain⟨rfl,ez⟩:=hyl i H z H' hlt sm y;rw[cL hlt]at ez;have ez':xs[i]=z:=cP ez;have mem:z∈xs:=by rw[←ez'];exact Ae hlt
  have tk:xs.take (i+1)=xs.take i++[z]:=by rw[vp,cL hlt,ez'];rfl
  refine ht z mem H' sm _ ?_;cases hp:p z with
  |false=>
   rw[if_neg bK];refine⟨xs.length-(i+1),by omega,rfl,by omega,?_,hl,sm⟩;rw[tk,m6,gN,hp,if_neg bK,m7,gg]
  |true=>
   rw[if_pos rfl];refine he z mem hp H' sm _ ⟨hl,fun H6 pu=>⟨xs.length-(i+1),by omega,rfl,by omega,?_,pu.at_,pu.same sm nw.free⟩⟩;rw[tk,m6,gN,hp,if_pos rfl,m7,m8];rfl
 ·refine .inl ⟨hst i H sm (by omega),q l H sm nw.free ?_⟩;rw[hl,pP (by omega)]
theorem Cr{K:aq}{a:Addr}{xs:List V}{tc:TT}{te:TE}{ix:List Nat}{σ : St}{R:Addr→Hp→Prop}{H1:Hp}(p:V→Bool)(f:V→V)(hS:ay K H1 a xs)(hz:xs.length<sizeLine)
  (ht:∀z∈xs,∀H',ah H1 H'→∀Q:Bool→Hp→Prop,Q (p z) H'→tc (eC σ ix z) H' Q)
  (he:∀z∈xs,p z=true→∀H',ah H1 H'→∀Q:VK,Q (f z) H'→te (eC σ ix z) H' Q)
  (q:∀l H5,ah H1 H5→H1 l=none→H5 l=some (.lst ((xs.filter p).map f))→R l H5):iF tc te ix σ R (kx K a) H1:=
 KE p f (fun i z H sm e=>⟨xs,z,sm.seq hS,e⟩) (fun i H z H' _ sm ⟨e,y⟩=>⟨e,y xs (sm.seq hS)⟩) (fun i H sm e=>⟨xs,sm.seq hS,e⟩) hz ht he q
section
variable{t u:TS}{D:fi}{σ σ':St}{H:Hp}{te ta tb tc:TE}{Q:VK}{g:TG}{i:Nat}{v:V}
def Dg(u v:TS):Prop:=∀(D:fi) (σ : St) (H:Hp),u D σ H→v D σ H
theorem RY(h:∀v:TS,Dg u v→t {D with nx:=v D} σ H):LQ t u D σ H:=h u fun _ _ _ x=>x
theorem K4{v:TS}(k:Dg u v)(h:u D σ H):v D σ H:=k _ _ _ h
theorem Ti{v:TS}{rt:VK}{bk ct:St→Hp→Prop}(k:Dg u v)(h:u D σ H):fi.nx ⟨v D,rt,bk,ct⟩ σ H:=k _ _ _ h
@[elab_as_elim] theorem aex {α : Type} {a b:α} {motive:α→Prop} (h:a=b) (k:motive b):motive a:=h▸k
theorem RA(h:D.nx σ H):HG D σ H:=h
theorem SH(h:te σ H fun x H1=>g x σ H1 D.nx):Ei te g D σ H:=h
theorem U9{R:St→Hp→Prop}(e:σ.set i (some v)=σ')(h:R σ' H):qY i v σ H R:=by subst e;exact h
theorem QP(h:te σ H fun _ H1=>D.nx σ H1):Ks te D σ H:=h
theorem VX(h:te σ H D.rt):MX te D σ H:=h
theorem qD{c:TT}(h:c σ H fun b H1=>if b=true then t D σ H1 else u D σ H1):Jv c t u D σ H:=h
theorem Tr(e:σ[i]?=some (some v))(h:Q v H):xa i σ H Q:=⟨v,e,h⟩
theorem Yw(h:Q v H):tC v σ H Q:=h
theorem SS{r:R2}(h:ta σ H fun x H1=>tb σ H1 fun y H2=>r x y H2 Q):sV r ta tb σ H Q:=h
theorem aaw{r:V→Hp→VK→Prop}(h:ta σ H fun x H1=>r x H1 Q):KU r ta σ H Q:=h
theorem ab5{R:Bool→Hp→Prop}(h:te σ H fun x H'=>∃k,x=.bl k∧R k H'):JP te σ H R:=h
theorem VN{R:Bool→Hp→Prop}(h:te σ H fun x H'=>∃k,x=.bl k∧R k H'):tB te σ H R:=h
theorem Ru{R:Bool→Prop}{b:Bool}(h:R b):∃k,V.bl b=.bl k∧R k:=⟨b,rfl,h⟩
theorem T6{R:Bool→Hp→Prop}{c:TT}(h:c σ H fun b H1=>R (!b) H1):LJ c σ H R:=h
theorem SW{R:Bool→Hp→Prop}{c d:TT}(h:c σ H fun b H1=>if b=true then d σ H1 R else R false H1):Kd c d σ H R:=h
theorem Yo{R:Bool→Hp→Prop}{c d:TT}(h:c σ H fun b H1=>if b=true then R true H1 else d σ H1 R):Hh c d σ H R:=h
theorem US(h:ta σ H fun x H1=>∃c,x=.bl c∧if c=true then tb σ H1 Q else Q (.bl false) H1):Jx ta tb σ H Q:=h
theorem aau(h:ta σ H fun x H1=>∃c,x=.bl c∧if c=true then Q (.bl true) H1 else tb σ H1 Q):IA ta tb σ H Q:=h
theorem Qy{c:TT}(h:c σ H fun b H1=>if b=true then ta σ H1 Q else tb σ H1 Q):HI c ta tb σ H Q:=h
theorem Bp{R:Bool→Hp→Prop}(h:R true H):u0 σ H R:=h
theorem XJ{R:List V→Hp→Prop}(h:R [] H):Bx σ H R:=h
theorem Wq{tr:TA}{R:List V→Hp→Prop}(h:ta σ H fun x H1=>tr σ H1 fun xs H2=>R (x::xs) H2):Hf ta tr σ H R:=h
theorem ZW{t:TA}(h:t σ H fun xs H1=>xs.length≤sizeLine∧∀p H2,bS H1 p (.tup xs) H2→Q (.ref p) H2):GO t σ H Q:=h
theorem Xz{t:TA}(h:t σ H fun xs H1=>xs.length≤sizeLine∧∀p H2,bS H1 p (.lst xs) H2→Q (.ref p) H2):Nq t σ H Q:=h
theorem aab{sp:Sp}{dvs:List V}{E:XK}{t:TA}(h:t σ H fun vs H1=>sp (vs++dvs) H1 Q E):sH sp dvs E t σ H Q:=h
theorem Yh{C:Addr}{m:Str}{sp:Sp}{dvs:List V}{E:XK}{t:TA}(h:ta σ H fun x H1=>∃a dx fs,x=.ref a∧H1 a=some (.ins C dx fs)∧fs.lookup m=none∧t σ H1 fun vs H2=>sp (x::(vs++dvs)) H2 Q E):Hw C m sp dvs E ta t σ H Q:=h
theorem abe{r:List V→Hp→VK→Prop}{t:TA}(h:t σ H fun vs H1=>r vs H1 Q):C1 r t σ H Q:=h
theorem X7{K:aq}{T:String}{r:V→List V→Hp→VK→Prop}{t:TA}(h:ta σ H fun x H1=>qK K T x H1∧t σ H1 fun xs H2=>r x xs H2 Q):He K T r ta t σ H Q:=h
theorem W6{K:aq}{T:String}{r:V→List V→Hp→VK→Prop}(h:ta σ H fun x H1=>qK K T x H1∧r x [] H1 Q):JW K T r ta σ H Q:=h
theorem aao{K:aq}{f:Str}(h:ta σ H fun x H1=>∃a C dx fs v,x=.ref a∧H1 a=some (.ins C dx fs)∧fG K C∧e8 K C f∧fs.lookup f=some v∧Q v H1):Bw K ta f σ H Q:=h
theorem T3{r:V→Option Int→Option Int→Hp→VK→Prop}{tl th:TO}(h:te σ H fun x H1=>tl σ H1 fun l H2=>th σ H2 fun u H3=>r x l u H3 Q):Ia r te tl th σ H Q:=h
theorem Xy{R:Option Int→Hp→Prop}(h:R none H):HJ σ H R:=h
theorem Wi{R:Option Int→Hp→Prop}(h:te σ H fun x H1=>∃i,x=.int i∧R (some i) H1):Ho te σ H R:=h
theorem WP{r r':R2}(h:ta σ H fun x H1=>tb σ H1 fun y H2=>r x y H2 fun z H3=>∃k,z=.bl k∧(if k=true then tc σ H3 fun w' H4=>r' y w' H4 Q else Q (.bl false) H3)):GW r r' ta tb tc σ H Q:=h
theorem SD{wi:TI} (h:wi σ H fun J H1=>∃W:Nat→Nat→St→Hp→Prop,(∃m,W 0 m σ H1)∧∀i m σ H,W i m σ H→
 (J.stop i H∧D.nx σ H)∨(J.go i H∧∃N:St→Hp→Prop,(∀σ' H',N σ' H'→∃m',m'<m∧W (i+1) m' σ' H')∧∀x H',J.yld i H x H'→g x σ H' fun σ2 H2=>t {D with nx:=N,ct:=N,bk:=D.nx} σ2 H2)):Iy wi g t D σ H:=h
theorem QB{t:TG}{u:ke}{v:V}{r:List V}{R:St→Hp→Prop}(h:t v σ H fun σ' H'=>u r σ' H' R):qV t u (v::r) σ H R:=⟨v,r,rfl,h⟩
theorem Rv{R:St→Hp→Prop}(h:R σ H):xm [] σ H R:=⟨rfl,h⟩
theorem abE{K:aq}{n:Nat}{t:ke}{a:Addr}{xs:List V}{R:St→Hp→Prop}(hS:di K H a xs)(hl:xs.length=n)(h:t xs σ H R):ug K n t (.ref a) σ H R:=⟨a,xs,rfl,hS,hl,h⟩
theorem Vt(e:σ=σ')(h:t D σ' H):t D σ H:=by rw[e];exact h
theorem HN{K:aq}{a:Addr}{xs:List V}{j:Int}(hS:ay K H a xs)(e:cw xs j=some v)(h:Q v H):EI K (.ref a) (.int j) H Q:=⟨a,xs,j,v,rfl,rfl,hS,e,h⟩
theorem Xt{K:aq}{a:Addr}{xs:List V}{j:Int}(hS:di K H a xs)(e:cw xs j=some v)(h:Q v H):Ec K (.ref a) (.int j) H Q:=⟨a,xs,j,v,rfl,rfl,hS,e,h⟩
theorem WN{K:aq}{tl:TE}{R:It→Hp→Prop}(h:tl σ H fun x H1=>∃a,x=.ref a∧(∃xs,ay K H1 a xs)∧R (kx K a) H1):Ea K tl σ H R:=h
theorem We{ta:TA}{R:It→Hp→Prop}(h:ta σ H fun vs H1=>∃j:Int,vs=[.int j]∧-(2^62)≤j∧j<2^62∧R (oX 0 j.toNat) H1):Nb ta σ H R:=h
theorem VP{K:aq}{a:Addr}{xs:List V}{R:Addr→Prop}(hS:ay K H a xs)(h:R a):∃a',V.ref a=.ref a'∧(∃xs,ay K H a' xs)∧R a':=⟨a,rfl,⟨xs,hS⟩,h⟩
theorem Zd{wi:TI}{tc:TT}{te:TE}{ix:List Nat}(h:wi σ H fun J H1=>iF tc te ix σ (fun l H5=>qY i (.ref l) σ H5 D.nx) J H1):K3 wi tc te ix i D σ H:=h
theorem Z4{wi:TI}{tc:TT}{te:TE}{ix:List Nat}(h:wi σ H fun J H1=>iF tc te ix σ (fun l H5=>Q (.ref l) H5) J H1):By wi tc te ix σ H Q:=h
theorem iS{K:aq}{x c:V}{t:Value}{b:Bool}{R:Bool→Prop}(hc:lN c=true)(hT:de K H x t)(e:eF K t (jC c)=some b)(h:R b):∃x' c' t b,[x,c]=[x',c']∧lN c'=true∧de K H x' t∧eF K t (jC c')=some b∧R b:=⟨x,c,t,b,rfl,hc,hT,e,h⟩
theorem Sb{K:aq}{a:Addr}{xs:List V}{R:List V→Prop}(hS:ay K H a xs)(h:R xs):∃p ys,[V.ref a]=[.ref p]∧(ay K H p ys∨di K H p ys)∧R ys:=⟨a,xs,rfl,.inl hS,h⟩
theorem U2{a b:Addr}{xs ys:List V}{R:List V→List V→Prop}(h1:H a=some (.lst xs))(h2:H b=some (.lst ys))(h:R xs ys):∃l b' xs zs,V.ref a=.ref l∧V.ref b=.ref b'∧H l=some (.lst xs)∧H b'=some (.lst zs)∧R xs zs:=⟨a,b,xs,ys,rfl,rfl,h1,h2,h⟩
theorem aa1{K:aq}{a:Addr}{xs:List V}{R:List V→Prop}(hS:ay K H a xs)(h:R xs):∃a' xs,V.ref a=.ref a'∧ay K H a' xs∧R xs:=⟨a,xs,rfl,hS,h⟩
theorem Zh{a:Addr}{xs:List V}{y:V}{R:Addr→List V→V→Prop}(h1:H a=some (.lst xs))(h:R a xs y):∃l xs y',V.ref a=.ref l∧[y]=[y']∧H l=some (.lst xs)∧R l xs y':=⟨a,xs,y,rfl,rfl,h1,h⟩
theorem bY(M:St→Hp→Prop)(h:t {D with nx:=M} σ H)(k:∀σ' H',M σ' H'→D.nx σ' H'):Bg t D σ H:=⟨M,h,k⟩
theorem abl(σ1:St)(P:Hp→Prop)(h:t {D with nx:=fun σ' H'=>σ'=σ1∧P H'} σ H)(k:∀H',P H'→D.nx σ1 H'):Bg t D σ H:=
 ⟨_,h,fun σ' H' z=>by obtain⟨rfl,p⟩:=z;exact k H' p⟩
theorem V5{R:Int→Prop}{a:Int}(h:R a):∃i,V.int a=.int i∧R i:=⟨a,rfl,h⟩
theorem abb{R:Int→Prop}{a:Int}(h:R a):∃i,[V.int a]=[V.int i]∧R i:=⟨a,rfl,h⟩
theorem XN{R:Int→Int→Prop}{a b:Int}(h:R a b):∃i j,V.int a=.int i∧V.int b=.int j∧R i j:=⟨a,b,rfl,rfl,h⟩
theorem QX{R:Int→Int→Prop}{a b:Int}(h:R a b):∃i j,[V.int a,V.int b]=[V.int i,V.int j]∧R i j:=⟨a,b,rfl,h⟩
theorem abA{R:Str→Str→Prop}{a b:Str}(h:R a b):∃i j,V.str a=.str i∧V.str b=.str j∧R i j:=⟨a,b,rfl,rfl,h⟩
theorem wA{a b:Int}(h:Q (.bl (decide (a=b))) H):BE (.int a) (.int b) H Q:=⟨rfl,by rw[show decide (V.int a=V.int b)=decide (a=b)by rw[oZ,lQ]];exact h⟩
theorem Xf{a b:Int}(h:Q (.bl (!decide (a=b))) H):BI (.int a) (.int b) H Q:=⟨rfl,by rw[show decide (V.int a=V.int b)=decide (a=b)by rw[oZ,lQ]];exact h⟩
theorem aac{a b:Str}(h:Q (.bl (decide (a=b))) H):BE (.str a) (.str b) H Q:=⟨rfl,by rw[show decide (V.str a=V.str b)=decide (a=b)from decide_eq_decide.mpr ⟨fun e=>by injection e,fun e=>by rw[e]⟩];exact h⟩
theorem TN{a b:Str}(h:Q (.bl (!decide (a=b))) H):BI (.str a) (.str b) H Q:=⟨rfl,by rw[show decide (V.str a=V.str b)=decide (a=b)from decide_eq_decide.mpr ⟨fun e=>by injection e,fun e=>by rw[e]⟩];exact h⟩
theorem cW{b:Bool}{A B:Prop}(e:b=true)(h:A):if b=true then A else B:=by rw[if_pos e];exact h
theorem dX{b:Bool}{A B:Prop}(e:b=false)(h:B):if b=true then A else B:=by rw[if_neg (by rw[e];exact bK)];exact h
theorem acH{p:Prop}[Decidable p]{A B:Prop}(e:p)(h:A):if decide p=true then A else B:=cW (decide_eq_true e) h
theorem VA{p:Prop}[Decidable p]{A B:Prop}(e:¬p)(h:B):if decide p=true then A else B:=dX (decide_eq_false e) h
theorem abF{p:Prop}[Decidable p]{A B:Prop}(e:¬p)(h:A):if(!decide p)=true then A else B:=cW (by rw[decide_eq_false e];rfl) h
theorem Yy{p:Prop}[Decidable p]{A B:Prop}(e:p)(h:B):if(!decide p)=true then A else B:=dX (by rw[decide_eq_true e];rfl) h
theorem TK{A B:Prop}(h:B):if(!true)=true then A else B:=dX rfl h
theorem Qw{A B:Prop}(h:A):if(!false)=true then A else B:=cW rfl h
theorem cG{p:Prop}[Decidable p]{A B:Prop}(h1:p→A)(h2:¬p→B):if decide p=true then A else B:=by
 by_cases h:p
 ·rw[if_pos (decide_eq_true h)];exact h1 h
 ·rw[if_neg (by rw[decide_eq_false h];exact bK)];exact h2 h
theorem C9{p:Prop}[Decidable p]{A B:Prop}(h1:p→B)(h2:¬p→A):if(!decide p)=true then A else B:=by
 by_cases h:p
 ·rw[decide_eq_true h];exact mz (h1 h)
 ·rw[decide_eq_false h];exact lp (h2 h)
end
section
variable{α : Type}{a b c d e f g k l m n o p q r s t u v w x y:α}{z:List α}
theorem abc:(a::b::z).set 1 x=a::x::z:=rfl
theorem QV:(a::b::c::z).set 2 x=a::b::x::z:=rfl
theorem V8:(a::b::c::d::z).set 3 x=a::b::c::x::z:=rfl
theorem Ry:(a::b::c::d::e::z).set 4 x=a::b::c::d::x::z:=rfl
theorem Yg:(a::b::c::d::e::f::z).set 5 x=a::b::c::d::e::x::z:=rfl
theorem SV:(a::b::c::d::e::f::g::z).set 6 x=a::b::c::d::e::f::x::z:=rfl
theorem aa3:(a::b::c::d::e::f::g::k::z).set 7 x=a::b::c::d::e::f::g::x::z:=rfl
theorem acL:(a::b::c::d::e::f::g::k::l::z).set 8 x=a::b::c::d::e::f::g::k::x::z:=rfl
theorem aam:(a::b::c::d::e::f::g::k::l::m::z).set 9 x=a::b::c::d::e::f::g::k::l::x::z:=rfl
end
section
variable{X:Cx}{CX:c9}{k:Nat}{E:XK}{m:Str}{pos apos:Pos}{e o:Expr}{es:List Expr}{ta:TE}{t:TA}
theorem ck{K:aq}(hK:X.K=K):lv X (EI K):=by subst hK;exact Vq
theorem bR{K:aq}(hK:X.K=K):lv X (Ec K):=by subst hK;exact TD
theorem qg{K:aq}(hK:X.K=K):bE X (dw .In) (pd K false):=by subst hK;exact Z9
theorem HH{K:aq}(hK:X.K=K):bE X (dw .NotIn) (pd K true):=by subst hK;exact ZY
theorem fS{K:aq}(hK:X.K=K):gu X (.builtin "len") (fun xs H Q=>∃p ys,xs=[.ref p]∧(ay K H p ys∨di K H p ys)∧Q (.int ys.length) H):=by subst hK;exact Vr
theorem cn{K:aq}{f:Str}(hK:X.K=K)(he:PE X e ta)(hb:vF e f X.env (eval e X.env)=eval e X.env):PE X (.Attribute e f pos) (Bw K ta f):=by subst hK;exact Xo he hb
theorem lL{K:aq}(hK:X.K=K):gu X (.builtin "isinstance") (fun xs H Q=>∃x c t b,xs=[x,c]∧lN c=true∧de K H x t∧eF K t (jC c)=some b∧Q (.bl b) H):=by subst hK;exact Wk
theorem pG{K:aq}(hK:X.K=K)(hu:X.A.units+64<pZ):bE X (dw .Eq) (xJ K):=by subst hK;exact XC hu
theorem M7{K:aq}(hK:X.K=K)(hu:X.A.units+64<pZ):bE X (dw .NotEq) (xD K):=by subst hK;exact VF hu
def mO(P:aG)(w:av)(K:aq)(mg:Str→Option Value)(base:Heap)(CX:c9)(k:Nat)(m:Str)(a:Addr)(H:Hp)(sp:Sp):Prop:=
 ∃C dx fs f fd ps,H a=some (.ins C dx fs)∧fs.lookup m=none∧fG K C∧fM K C m f∧aM P w K mg base CX k f fd ps sp∧fH K fd ps []
def Cu(P:aG)(w:av)(K:aq)(mg:Str→Option Value)(base:Heap)(CX:c9)(k:Nat)(m:Str)(E:XK)(ta:TE)(t:TA):TE:=fun σ H Q=>ta σ H fun x H1=>∃a sp,x=.ref a∧mO P w K mg base CX k m a H1 sp∧
 t σ H1 fun vs H2=>sp (.ref a::(vs++[])) H2 Q E
theorem uc{P:aG}{w:av}{K:aq}{mg:Str→Option Value}{base:Heap}{pl:Sem Bool}(hP:X.prog=P)(hW:X.w=w)(hK:X.K=K)(hG:X.mg=mg)(hB:X.base=base)(he:PE X o ta)(hr:cA k X.A)(hx:jv CX X E)(ha:PA X (e::es) t)
  (hst:bz (e::es) X.env=(false,eval e X.env)::bz es X.env:=by rfl) (hpl:(dN pos (bz es X.env)).any (·.1)=false:=by rfl)
  (ht:eval (.Call (.Attribute o m apos) (e::es) [] pos) X.env=(do
   let ov ←eval o X.env
   standAt apos.atName
   let(f,first) ←holding [ov] (getMethod ov m pl)
   vH pos f first (dN pos (bz (e::es) X.env)) (vG pos (vO [] X.env))):=by rfl) :
  PE X (.Call (.Attribute o m apos) (e::es) [] pos) (Cu P w K mg base CX k m E ta t):=by
 subst hP hW hK hG hB;intro aa s σ H Q I h;refine Aw (pl:=pl) (aK (he aa s σ H _ I h) fun u s1 e1=>?_) ht;obtain⟨x,H1,I1,rx,a,sp,ex,⟨C,dx,fs,f,fd,ps,ea,l,c,hm,F,hb⟩,q⟩:=e1;subst ex;obtain rfl:u=aZ a:=rx;refine wu I1 ea c hm l ?_;refine ny (first:=[.ref a]) (h₀:=X.base) I.ok.mod.kin hm.kp (aK (ha pos aa s1 σ H1 _ I1 q) fun us s2 e2=>?_) hst hpl;obtain⟨vs,H2,I2,r,q2⟩:=e2;refine⟨I2.kIn,?_⟩;exact uo (us:=.ref a::us) (vs:=.ref a::vs) F hr hb .nil hx I2 (.cons rfl r) q2
theorem zD{P:aG}{w:av}{K:aq}{mg:Str→Option Value}{base:Heap}{pl:Sem Bool}(hP:X.prog=P)(hW:X.w=w)(hK:X.K=K)(hG:X.mg=mg)(hB:X.base=base)(he:PE X o ta)(hr:cA k X.A)(hx:jv CX X E)
  (ht:eval (.Call (.Attribute o m apos) [] [] pos) X.env=(do
   let ov ←eval o X.env
   standAt apos.atName
   let(f,first) ←holding [ov] (getMethod ov m pl)
   vH pos f first (dN pos (bz [] X.env)) (vG pos (vO [] X.env))):=by rfl) :
  PE X (.Call (.Attribute o m apos) [] [] pos) (Cu P w K mg base CX k m E ta Bx):=by
 subst hP hW hK hG hB;intro aa s σ H Q I h;refine Aw (pl:=pl) (aK (he aa s σ H _ I h) fun u s1 e1=>?_) ht;obtain⟨x,H1,I1,rx,a,sp,ex,⟨C,dx,fs,f,fd,ps,ea,l,c,hm,F,hb⟩,q⟩:=e1;subst ex;obtain rfl:u=aZ a:=rx;refine wu I1 ea c hm l ?_;exact Pj (first:=[.ref a]) I1.kIn hm.kp (uo (us:=[.ref a]) (vs:=[.ref a]) F hr hb .nil hx I1 (.cons rfl .nil) q)
end
section
variable{P:aG}{w:av}{K:aq}{mg:Str→Option Value}{base:Heap}{CX:c9}{k:Nat}{E:XK}{m:Str}{σ : St}{H:Hp}{Q:VK}{ta:TE}{t:TA}
theorem QW(h:ta σ H fun x H1=>∃a sp,x=.ref a∧mO P w K mg base CX k m a H1 sp∧t σ H1 fun vs H2=>sp (.ref a::(vs++[])) H2 Q E):Cu P w K mg base CX k m E ta t σ H Q:=h
end
theorem ah.at'{H H':Hp}{a:Addr}{o:HO}(h:H a=some o)(s:ah H H'):H' a=some o:=s _ _ h
theorem ah.seqA{K:aq}{H H':Hp}{a:Addr}{xs:List V}(h:ay K H a xs)(s:ah H H'):ay K H' a xs:=s.seq h
theorem R9{P:aG}{w:av}{K:aq}{mg:Str→Option Value}{base:Heap}{CX:c9}{k:Nat}{m:Str}{a:Addr}{H:Hp}{sp:Sp}{R:Addr→Sp→Prop}(h:mO P w K mg base CX k m a H sp)(q:R a sp):
  ∃a' sp,V.ref a=.ref a'∧mO P w K mg base CX k m a' H sp∧R a' sp:=⟨a,sp,rfl,h,q⟩
def B8(K:aq)(H:Hp)(a:Addr)(f:Str)(v:V):Prop:=∃C dx fs,H a=some (.ins C dx fs)∧fG K C∧e8 K C f∧fs.lookup f=some v
theorem ij{K:aq}{H:Hp}{a:Addr}{f:Str}{v:V}{R:V→Prop}(h:B8 K H a f v)(q:R v):∃a' C dx fs v,V.ref a=.ref a'∧H a'=some (.ins C dx fs)∧fG K C∧e8 K C f∧fs.lookup f=some v∧R v:=
 let⟨C,dx,fs,h1,h2,h3,h4⟩:=h;⟨a,C,dx,fs,v,rfl,h1,h2,h3,h4,q⟩
def SameBut(l:Addr)(H H':Hp):Prop:=∀b o,b≠l→H b=some o→H' b=some o
theorem ah.but{H H':Hp}(s:ah H H')(l:Addr):SameBut l H H':=fun b o _ h=>s b o h
theorem cT.but{H H':Hp}{l:Addr}{o:HO}(p:cT H l o H'):SameBut l H H':=fun b u hb h=>by rw[p.else_ b hb];exact h
theorem Wb{J:It}{xs:List V}{te:TE}{ix:List Nat}{σ : St}{R:Addr→Hp→Prop}{H1:Hp}(U:Addr→Nat→V→Hp→Prop)
  (hgo:∀i z H,ah H1 H→xs[i]?=some z→J.go i H) (hyl:∀i H z H',ah H1 H→J.yld i H z H'→H'=H∧xs[i]?=some z) (hst:∀i H,ah H1 H→xs.length≤i→J.stop i H) (hz:xs.length<sizeLine)
  (hU:∀l i y H H',U l i y H→SameBut l H H'→U l i y H')
  (he:∀l i z H' ys,H1 l=none→xs[i]?=some z→ah H1 H'→H' l=some (.lst ys)→(∀j y,ys[j]?=some y→U l j y H')→ys.length=i→∀Q:VK,(∀y H'',ah H' H''→U l i y H''→Q y H'')→te (eC σ ix z) H' Q)
  (q:∀l H5 ys,ah H1 H5→H1 l=none→H5 l=some (.lst ys)→ys.length=xs.length→(∀i y,ys[i]?=some y→U l i y H5)→R l H5):iF u0 te ix σ R J H1:=by
 intro l H2 nw;refine⟨fun i m ys H=>m=xs.length-i∧i≤xs.length∧ys.length=i∧H l=some (.lst ys)∧ah H1 H∧∀j y,ys[j]?=some y→U l j y H,⟨_,rfl,fe _,rfl,nw.at_,nw.same,fun j y e=>by simp at e⟩,?_⟩;rintro i m ys H ⟨rfl,hi,hl0,hl,sm,hy⟩;refine⟨hl,?_⟩;by_cases hlt:i<xs.length
 ·refine .inr ⟨hgo i xs[i] H sm (cL hlt),by omega,fun z H' y=>?_⟩;obtain⟨rfl,ez⟩:=hyl i H z H' sm y;refine Bp ?_;refine lp ?_;refine he l i z H' ys nw.free ez sm hl hy hl0 _ fun y H'' s2 u=>⟨s2 _ _ hl,fun H6 pu=>⟨xs.length-(i+1),by omega,rfl,by omega,by rw[dm,hl0];rfl,pu.at_,pu.same (sm.trans s2) nw.free,fun j y' e=>?_⟩⟩;by_cases hj:j<ys.length
  ·rw[rE hj]at e;exact hU _ _ _ _ _ (hU _ _ _ _ _ (hy j y' e) (s2.but l)) pu.but
  ·rw[iY (by omega)]at e;have hz:j-ys.length=0:=by
    by_cases hz:j-ys.length=0
    ·exact hz
    ·rw[List.getElem?_eq_none (by simp;omega)]at e;cases e
   rw[hz]at e;simp at e;subst e;have:j=i:=by omega
   subst this;exact hU _ _ _ _ _ u pu.but
 ·exact .inl ⟨hst i H sm (by omega),q l H ys sm nw.free hl (by omega) hy⟩
theorem QG{K:aq}{a:Addr}{xs:List V}{te:TE}{ix:List Nat}{σ : St}{R:Addr→Hp→Prop}{H1:Hp}(U:Addr→Nat→V→Hp→Prop)(hS:ay K H1 a xs)(hz:xs.length<sizeLine)
  (hU:∀l i y H H',U l i y H→SameBut l H H'→U l i y H')
  (he:∀l i z H' ys,H1 l=none→xs[i]?=some z→ah H1 H'→H' l=some (.lst ys)→(∀j y,ys[j]?=some y→U l j y H')→ys.length=i→∀Q:VK,(∀y H'',ah H' H''→U l i y H''→Q y H'')→te (eC σ ix z) H' Q)
  (q:∀l H5 ys,ah H1 H5→H1 l=none→H5 l=some (.lst ys)→ys.length=xs.length→(∀i y,ys[i]?=some y→U l i y H5)→R l H5):iF u0 te ix σ R (kx K a) H1:=
 Wb U (fun i z H sm e=>⟨xs,z,sm.seq hS,e⟩) (fun i H z H' sm ⟨e,y⟩=>⟨e,y xs (sm.seq hS)⟩) (fun i H sm e=>⟨xs,sm.seq hS,e⟩) hz hU he q
theorem Dm(n:Int):∀hs:List Int,pD (.int n) (hs.map V.int)=decide (n∈hs)
 |[]=>by simp[pD]
 |a::r=>by
  have ih:=Dm n r;unfold pD at ih⊢;rw[eD,vk,ih];show(a==n||decide (n∈r))=_;by_cases h:a=n
  ·subst h;simp
  ·have h':¬n=a:=fun z=>h z.symm;simp[h,h']
theorem GL(hs:List Int):(hs.map V.int).all kZ=true:=by
 rw[gf];intro x hx;obtain⟨n,_,rfl⟩:=gP.mp hx;rfl
section
variable{K:aq}{H:Hp}{a b:Addr}{Q:VK}
theorem Vi{n:Int}{hs:List Int}(hS:ay K H a (hs.map V.int))(h:Q (.bl (decide (n∈hs))) H):pd K false (.int n) (.ref a) H Q:=
 ⟨a,_,rfl,.inl hS,rfl,GL hs,by rw[Dm];exact h⟩
theorem WI{n:Int}{hs:List Int}(hS:ay K H a (hs.map V.int))(h:Q (.bl (!decide (n∈hs))) H):pd K true (.int n) (.ref a) H Q:=
 ⟨a,_,rfl,.inl hS,rfl,GL hs,by rw[Dm];exact h⟩
theorem Q8{xs:List V}{R:Prop}(hS:ay K H a xs)(h:R):qK K "list" (.ref a) H∧R:=⟨.inl ⟨rfl,xs,hS⟩,h⟩
end
def AU(p:Int→Bool):V→Bool
 |.int n=>p n
 |_=>false
def gn:V→Bool
 |.non=>true
 |.int _=>true
 |.str x=>b8 x
 |_=>false
def eI:V→PyData
 |.int i=>.int i
 |.str x=>.str x
 |_=>.none
theorem Vf{K:aq}{H:Hp}{x:V}(h:gn x=true):fR K H x (eI x):=by
 cases x<;>first|exact .non|exact .int _|exact .str _|exact absurd h bK
theorem sU{K:aq}{H:Hp}:∀{xs:List V},xs.all gn=true→nR K H xs (xs.map eI)
 |[],_=>.nil
 |x::r,h=>by
  rw[rC,gb]at h;exact .cons (Vf h.1) (sU h.2)
theorem RP{x y:V}(hx:gn x=true)(hy:gn y=true):kL (eI x) (eI y)=decide (x=y):=by
 cases x<;>first
  |exact absurd hx bK
  |(cases y<;>first
    |exact absurd hy bK
    |(simp only[eI,kL,reduceCtorEq,decide_false,V.int.injEq,V.str.injEq,lQ,decide_true]))
theorem EL:∀{xs ys:List V},xs.all gn=true→ys.all gn=true→pT (xs.map eI) (ys.map eI)=decide (xs=ys)
 |[],[],_,_=>by simp[pT]
 |[],_::_,_,_=>by simp[pT]
 |_::_,[],_,_=>by simp[pT]
 |x::r,y::t,h,h'=>by
  rw[rC,gb]at h h';rw[eD,eD,pT,RP h.1 h'.1,EL h.2 h'.2];by_cases e:x=y<;>by_cases e':r=t<;>simp[e,e']
theorem Mg:∀{xs:List V},xs.all gn=true→vz (xs.map eI)=true
 |[],_=>rfl
 |x::r,h=>by
  rw[rC,gb]at h;have ih:=Mg h.2;rw[eD];cases x with
  |str z=>have hz:b8 z=true:=h.1;simp[eI,vz,vy,ih,hz]
  |_=>simp[eI,vz,vy,ih]
theorem IS:∀{xs:List V},rK (xs.map eI)=0
 |[]=>rfl
 |x::r=>by
  rw[eD];cases x<;>simp[eI,rK,Ap,IS (xs:=r)]
theorem zL{xs:List V}(h:xs.all gn=true):nE (.tuple (xs.map eI))=true:=by
 simp[nE,vy,Ap,Mg h,IS]
section
variable{K:aq}{H:Hp}{a b:Addr}{Q:VK}{xs ys:List V}
theorem tW(h1:di K H a xs)(h2:di K H b ys)(p1:xs.all gn=true)(p2:ys.all gn=true)(h:Q (.bl (decide (xs=ys))) H):xJ K (.ref a) (.ref b) H Q:=
 ⟨.tuple (xs.map eI),.tuple (ys.map eI),.tup h1 (sU p1),.tup h2 (sU p2),zL p1,zL p2,by
  have e:kL (.tuple (xs.map eI)) (.tuple (ys.map eI))=decide (xs=ys):=EL p1 p2;rw[e];exact h⟩
theorem T8(h1:di K H a xs)(h2:di K H b ys)(p1:xs.all gn=true)(p2:ys.all gn=true)(h:Q (.bl (!decide (xs=ys))) H):xD K (.ref a) (.ref b) H Q:=
 ⟨.tuple (xs.map eI),.tuple (ys.map eI),.tup h1 (sU p1),.tup h2 (sU p2),zL p1,zL p2,by
  have e:kL (.tuple (xs.map eI)) (.tuple (ys.map eI))=decide (xs=ys):=EL p1 p2;rw[e];exact h⟩
end
theorem La{ts:Array Value}{v:Value}{i:Nat}(h:ts[i]?=some v):ts.setIfInBounds i v=ts:=by
 refine Array.ext_getElem? fun j=>?_;rw[Array.getElem?_setIfInBounds];split
 ·rename_i e;subst e;rw[h];split
  ·rfl
  ·rename_i hz;exact absurd (jn.mp h).1 hz
 ·rfl
def dI(e:Addr)(h:Heap):Prop:=∃oe vs,h.get? e=some oe∧oe.data=.fields vs∧vs[2]?=some cE
theorem Vw:entryFor table "proto.unchain" = some Builtin.«proto.unchain»:=entryFor_of_tree (by kernel_rfl)
section
variable{prog:aG}{w:av}{A:bH}{E:Value→Shared→Prop}{s:Shared}{env:Env}
theorem ZV{v:Value}{e:Addr}{Q:Value→Shared→Prop}(c:dI e s.heap)(h:Q .none s):ax (au prog w) A (runValue (.builtin "proto.unchain" ⟨[v,.ref e,.ref e,.bool false],[]⟩)) Q E s:=by
 obtain⟨oe,vs,he,hd,h2⟩:=c;refine wpAny_runValue (PM Vw ?_);unfold Builtin.«proto.unchain»;refine aE (gF he hd h2 ?_);rw[if_pos (show(cE==cE)=true from by rfl)]
 repeat wp_step
 exact h
def uZ(C:Addr)(t e:Addr):Obj:={cls:=.ref C,data:=.fields #[.ref t,.none,.ref e,.ref e,.bool true,.none]}
theorem Ym{e e2 t C:Addr}{Q:mY→Shared→Prop}(hh:A.handled=some (.ref e))(ne:e≠e2)(c:dI e s.heap)(he2:s.heap.get? e2=some {cls:=.ref C,data:=.fields #[.ref t,.none,.none,.ref e,.bool true,.none]})
  (h:∀h',h'.get? e2=some (uZ C t e)→(∀b o,b≠e2→s.heap.get? b=some o→h'.get? b=some o)→E (.ref e2) {s with heap:=h'}):ax (au prog w) A (Gc (.ref e2):Sem mY) Q E s:=by
 unfold Gc;refine aE (wpAny_handled ?_);rw[hh];have hne:(aZ e != aZ e2)=true:=by simp[ne]
 simp only[hne,if_true];refine aE (jW (ZV c (aE ?_)));show ax _ _ (setField (.ref e2) 2 (.ref e)) _ _ _;refine jX (x:=.ref e) he2 rfl (by simp) (AR (h _ ?_ fun b o hb ho=>?_))
 ·rw[kI _ he2 rfl];rfl
 ·rw[iB _ _ (cH hb)];exact ho
end
section
variable{prog:aG}{w:av}{A:bH}{E:Value→Shared→Prop}{s:Shared}{env:Env}
variable{nm q:Str}{C N:Addr}{bs bm:List Value}{hdct:Bool}{sn:List Str}{sub:List Value}{ab:Bool}{col:Option Bool}{dd:Option Addr}{k0 k1 k2 k3 k5:Option Value}{newId:String}
variable{nm' q':Str}{C' N':Addr}{bs' bm':List Value}{hdct':Bool}{sn':List Str}{sub':List Value}{ab':Bool}{col':Option Bool}{dd':Option Addr}{j0 j1 j2 j3 j5:Option Value}{newId':String}
theorem KO{M:jq}{a:Addr}{o:Obj}{msg:String}{Q:Value→Shared→Prop}(hbase:bm.contains (.type "BaseException")=true)(ho:s.heap.get? a=some o)(hc:o.cls=.ref C)(hnc:∀cd,o.data≠.cls cd)
  (hC:s.heap.get? C=some (rR nm q C N bs bm hdct sn sub ab col dd k0 k1 k2 k3 k5 newId)) (h:Q (.ref a) s):ax M A (excFromValue (.ref a) msg) Q E s:=by
 have hcB:(aZ C::bm).contains (.type "BaseException")=true:=by rw[Ft,hbase,Fa]
 obtain⟨hp,g,d,tk,os⟩:=s;obtain⟨vc,vd,vdat,vsl⟩:=o;obtain rfl:vc=.ref C:=hc;unfold excFromValue
 repeat (first|with_reducible refine nM ho ?_|with_reducible refine nM hC ?_|(with_reducible refine wpAny_isSubtype_exc hC ?_;rw[hcB])|wp_step)
 exact h
theorem UO{x c:Sem Value}{e:Addr}{Q:mY→Shared→Prop}(hbase:bm.contains (.type "BaseException")=true)(hbase':bm'.contains (.type "BaseException")=true)(hh:A.handled=some (.ref e))
  (h:ax (au prog w) A x (fun v s₁=>∃e2 t,v=.ref e2∧s₁.heap.get? C=some (rR nm q C N bs bm hdct sn sub ab col dd k0 k1 k2 k3 k5 newId)∧
   s₁.heap.get? C'=some (rR nm' q' C' N' bs' bm' hdct' sn' sub' ab' col' dd' j0 j1 j2 j3 j5 newId')∧
   s₁.heap.get? e2=some {cls:=.ref C,data:=.fields #[.ref t,.none,.none,.none,.bool false,.none]}∧e≠e2∧(∃oe,s₁.heap.get? e=some oe∧oe.cls=.ref C')∧dI e s₁.heap∧
   ax (au prog w) A c (fun cv s₂=>cv=.ref e∧s₂=s₁∧∀h',h'.get? e2=some (uZ C t e)→(∀b o,b≠e2→s₁.heap.get? b=some o→h'.get? b=some o)→E (.ref e2) {s₁ with heap:=h'}) E s₁) E s) :
  ax (au prog w) A (raiseStmt env (some x) (some c)) Q E s:=by
 have hcB:(aZ C::bm).contains (.type "BaseException")=true:=by rw[Ft,hbase,Fa]
 have hcB':(aZ C'::bm').contains (.type "BaseException")=true:=by rw[Ft,hbase',Fa]
 unfold raiseStmt;refine aE (bT h (fun v s₁ h₁=>?_) fun _ _ x=>x);obtain⟨e2,t,rfl,hC,hC',he2,ne,⟨oe,he,hcl⟩,c0,h₁⟩:=h₁;refine aE (jW (bT h₁ (fun cv s₂ h₂=>?_) fun _ _ x=>x));obtain⟨rfl,rfl,h₂⟩:=h₂;refine aE (wpAny_pure ?_);refine aE (jW (KO hbase he2 rfl (fun _ z=>nomatch z) hC ?_));obtain⟨oe',vs,he',hd,h2⟩:=id c0;rw[he]at he';cases he'
 dsimp only
 rw[if_neg (show¬((aZ e==cE)=true)from by simp)];refine aE (jW (KO hbase' he hcl (fun _ z=>nomatch hd.symm.trans z) hC' ?_));refine aE (jX (x:=.ref e) he2 rfl (by simp) ?_);have u1:=kI (eE (·.setIfInBounds 3 (aZ e))) he2 rfl;refine aE (jX (x:=.bool true) u1 rfl (by simp) ?_);have u2:=kI (eE (·.setIfInBounds 4 (nF true))) u1 rfl;have kp:∀b o,b≠e2→s₂.heap.get? b=some o→((s₂.heap.update e2 (eE (·.setIfInBounds 3 (aZ e)))).update e2 (eE (·.setIfInBounds 4 (nF true)))).get? b=some o:=fun b o hb ho=>by
  rw[iB _ _ (cH hb),iB _ _ (cH hb)];exact ho
 generalize ((s₂.heap.update e2 (eE (·.setIfInBounds 3 (aZ e)))).update e2 (eE (·.setIfInBounds 4 (nF true))))=h3 at *;have u3:h3.get? e2=some {cls:=.ref C,data:=.fields #[.ref t,.none,.none,.ref e,.bool true,.none]}:=u2;have nCe:C≠e2:=fun z=>by rw[z,he2]at hC;exact absurd hC (by intro w;injection w with w;injection w with _ _ w;cases w)
 have hC3:=kp C _ nCe hC;have c3:dI e h3:=⟨oe,vs,kp e _ ne he,hd,h2⟩;have fin:ax (au prog w) A (Gc (.ref e2):Sem mY) Q E {s₂ with heap:=h3}:=Ym hh ne c3 u3 fun h' k1 k2=>h₂ h' k1 fun b o hb ho=>k2 b o hb (kp b o hb ho);obtain⟨hp,g,d,tk,os⟩:=s₂;clear u1 u2
 repeat (first|with_reducible exact fin|with_reducible refine nM u3 ?_|with_reducible refine nM hC3 ?_|wp_step)
end
section
variable{M:jq}{A:bH}{E:Value→Shared→Prop}{s:Shared}
theorem IL{e T L:Addr}{oe oT:Obj}{vs ts:Array Value}{Q:Unit→Shared→Prop}(he:s.heap.get? e=some oe)(hd:oe.data=.fields vs)(h1:vs[1]?=some (.ref T))(hT:s.heap.get? T=some oT)(hdT:oT.data=.fields ts)(h3:ts[3]?=some (rawInt L))
  (h:∀h',(∀b o,s.heap.get? b=some o→h'.get? b=some o)→Q () {s with heap:=h'}):ax M A (mi (.ref e) (some L)) Q E s:=by
 unfold mi;refine aE (gF he hd h1 ?_);rw[if_pos (show(aZ T != cE)=true from by simp)];refine jX hT hdT (jn.mp h3).1 (h _ fun b o hb=>?_);by_cases hz:b=T
 ·subst hz;rw[hT]at hb;cases hb;rw[kI _ hT (rH (lY hdT _))]
  congr 1
  obtain⟨c,dct,dat,sl⟩:=oT
  dsimp only at hdT
  subst hdT;show eE _ _=_;simp only[eE];rw[show((some L:Option Addr).elim cE fun f=>rawInt f)=rawInt L from rfl,La h3]
 ·rw[iB _ _ (cH hz)];exact hb
theorem Xq{base:Heap}{env:Env}{outer:List Env}{L e:Addr}{oe:Obj}{vs:Array Value}{a0:Value}{Q:Unit→Shared→Prop}
  (hfr:A.frames=some (env::outer)) (hl:s.heap.FunFrames base (env::outer)) (hf:env.frame=some L)
  (he:s.heap.get? e=some oe) (hkb:base.StaysIn s.heap) (hen:base.get? e=none) (hd:oe.data=.fields vs) (h1:vs[1]?=some .none) (h0:vs[0]?=some a0)
  (h:∀h',zV base (env::outer) e oe.cls a0 (rawInt L) s.heap h'→Q () {s with heap:=h'}):ax M A (ju (.ref e) env) Q E s:=by
 unfold ju;simp only[hf];refine aE (gF he hd h1 ?_);rw[if_neg (by decide)];exact wpAny_entryW hfr hl hf he hkb hen hd (jn.mp h1).1 h0 h
theorem DH{base:Heap}{env:Env}{outer:List Env}{L e:Addr}{oe:Obj}{vs:Array Value}{head a0:Value}{hadNext:Bool}{Q:Unit→Shared→Prop}
  (hfr:A.frames=some (env::outer)) (hl:s.heap.FunFrames base (env::outer)) (hf:env.frame=some L)
  (he:s.heap.get? e=some oe) (hkb:base.StaysIn s.heap) (hen:base.get? e=none) (hd:oe.data=.fields vs) (hsz:1<vs.size) (h0:vs[0]?=some a0)
  (h:∀h',zV base (env::outer) e oe.cls a0 (rawInt L) s.heap h'→(vs[2]?=some .none→dI e h')→Q () {s with heap:=h'}) :
  ax M A (do let a ←frameOf env;let pl ←entryPlaceOf L hadNext;let b ←Oa head a .none (rawInt L) .none pl;setField (.ref e) 1 b) Q E s:=by
 have hene:e∉(env::outer).filterMap (·.frame):=fun hm=>by
  obtain⟨_,o,ho,hnf⟩:=hl.mem hm;rw[he]at ho;injection ho with ho;subst ho;exact hnf vs hd
 refine aE (wpAny_frameOf_fun hfr hl hf fun h₁ hs₁=>?_);refine aE (wpAny_entryPlaceOf fun pl hpl=>?_);unfold Oa newFields;refine aE (vR ?_ (hpl.sizeOk5 _ _ _ _ _));have he₁ : h₁.get? e=some oe:=(hs₁.2.1 e hene).trans he;have kb₁ : base.StaysIn h₁:=fun b o hbo=>(hs₁.2.1 b fun hm=>by rw[(hl.mem hm).1]at hbo;cases hbo).trans (hkb b o hbo);have he₂:=dL (h:=h₁) {cls:=.type "traceback",dict:=none,data:=.fields ([head,.ref L,.none,rawInt L,.none]++(if pl.isEmpty then nh 6 cE else pl)).toArray} he₁;have hTe:h₁.objs.size≠e:=jR (bC he₁);have hd₃:=lY hd (·.setIfInBounds 1 (aZ h₁.objs.size));have he₃:=kI (eE (·.setIfInBounds 1 (aZ h₁.objs.size))) he₂ (rH hd₃);refine jX he₂ hd hsz (h _ ?_ fun h2=>⟨_,_,he₃,hd₃,by rw[NX (by decide)];exact h2⟩);have hT₃:=(iB (h₁.push {cls:=.type "traceback",dict:=none,data:=.fields ([head,.ref L,.none,rawInt L,.none]++(if pl.isEmpty then nh 6 cE else pl)).toArray})
  (eE (·.setIfInBounds 1 (aZ h₁.objs.size))) (cH hTe)).trans (iA h₁ rfl)
 have keep:∀b o,b≠e→h₁.get? b=some o→
   ((h₁.push {cls:=.type "traceback",dict:=none,data:=.fields ([head,.ref L,.none,rawInt L,.none]++(if pl.isEmpty then nh 6 cE else pl)).toArray}).update e (eE (·.setIfInBounds 1 (aZ h₁.objs.size)))).get? b=some o:=
  fun b o hbe hb=>by
   rw[iB _ _ (cH hbe)];exact dL _ hb
 have noRecord:∀b o,s.heap.get? b=some o→(∀vs,o.data≠.fields vs)→b≠e:=fun b o hb hnf q=>by
  rw[q,he]at hb;injection hb with hb;subst hb;exact hnf vs hd
 refine⟨fun b o hbo=>keep b o (fun q=>by rw[q,hen]at hbo;cases hbo) (kb₁ b o hbo),hl.of_keeps fun b o hb hnf=>?_,?_,fun b o hb hnf=>?_⟩
 ·obtain⟨sl,hs⟩:=hs₁.2.2 b o hb;exact⟨_,keep b _ (noRecord b o hb hnf) hs,rfl⟩
 ·exact⟨_,_,h₁.objs.size,_,_,he₃,⟨Obj.cls_mapFields _ _,by rw[NX (by decide)];exact h0⟩,hd₃,by simp[hsz],kb₁.fresh,hTe,hT₃,rfl,by first|(simp;done)|(rcases hpl with rfl|⟨_,_,_,_,_,_,_,rfl⟩<;>simp)⟩
 ·obtain⟨sl,hs⟩:=hs₁.2.2 b o hb;exact⟨sl,keep b _ (noRecord b o hb hnf) hs⟩
theorem aaF{base:Heap}{env:Env}{outer:List Env}{L e:Addr}{cls a0:Value}{Q:Unit→Shared→Prop}
  (hfr:A.frames=some (env::outer)) (hl:s.heap.FunFrames base (env::outer)) (hf:env.frame=some L) (ht:s.heap.TracedW base e cls a0) (hkb:base.StaysIn s.heap) (hen:base.get? e=none)
  (h:∀h',zV base (env::outer) e cls a0 (rawInt L) s.heap h'→(dI e s.heap→dI e h')→Q () {s with heap:=h'}):ax M A (ju (.ref e) env) Q E s:=by
 obtain⟨oe,vs,T,oT,ts,he,⟨hcls,h0⟩,hd,h1,hnT,hTe,hT,hdT,h3⟩:=ht;subst hcls;unfold ju;simp only[hf];refine aE (gF he hd h1 ?_);rw[if_pos (show(aZ T != cE)=true from by simp)];refine aE (gF hT hdT h3 ?_);rw[if_neg (show¬((cE==rawInt L)=true)from by simp[rawInt])];refine aE (jX hT hdT (jn.mp h3).1 ?_);have other:∀b,b≠T→(s.heap.update T (eE (·.setIfInBounds 3 cE))).get? b=s.heap.get? b:=fun b hb=>iB _ _ (cH hb);have noRecord:∀b o,s.heap.get? b=some o→(∀vs,o.data≠.fields vs)→b≠T:=fun b o hb hnf q=>by
  rw[q,hT]at hb;injection hb with hb;subst hb;exact hnf ts hdT
 refine DH hfr (hl.of_keeps fun b o hb hnf=>⟨o,(other b (noRecord b o hb hnf)).trans hb,rfl⟩) hf ((other e (cH hTe)).trans he)
  (fun b o hbo=>(other b fun q=>by rw[q,hnT]at hbo;cases hbo).trans (hkb b o hbo)) hen hd (jn.mp h1).1 h0
  fun h' ⟨x1,x2,x3,x4⟩ x5=>h h' ⟨x1,x2,x3,fun b o hb hnf=>x4 b o ((other b (noRecord b o hb hnf)).trans hb) hnf⟩ fun⟨o2,vs2,y1,y2,y3⟩=>x5 ?_
 rw[he]at y1;cases y1;rw[hd]at y2;cases y2;exact y3
theorem tx{base:Heap}{l:List Env}{e L:Addr}{cls a0:Value}{Q:Unit→Shared→Prop}(hh:zS base l e cls a0 L s.heap)
  (hQ:∀h',jO base l e cls a0 h'→s.heap.UpToSlots h'→(dI e s.heap→dI e h')→Q () {s with heap:=h'}):ax M A (mi (.ref e) none) Q E s:=by
 obtain⟨hkb,hen,hl,oe,vs,T,oT,ts,he,hcls,hd,h1,hnT,hTe,hT,hdT,h3⟩:=hh;have hsz3:3<ts.size:=(jn.mp h3).1;have other:∀b,b≠T→(s.heap.update T (eE (·.setIfInBounds 3 ((none:Option Addr).elim cE fun f=>rawInt f)))).get? b=s.heap.get? b:=
  fun b hb=>iB _ _ (cH hb)
 have noRecord:∀b o,s.heap.get? b=some o→(∀vs,o.data≠.fields vs)→b≠T:=fun b o hb hnf q=>by
  rw[q,hT]at hb;injection hb with hb;subst hb;exact hnf ts hdT
 unfold mi;refine aE (gF he hd h1 ?_);rw[if_pos (show(aZ T != cE)=true from by simp)];refine jX hT hdT hsz3 (hQ _ ⟨(fun b o hbo=>(other b fun q=>by rw[q,hnT]at hbo;cases hbo).trans (hkb b o hbo)),hen,
  (hl.of_keeps fun b o hb hnf=>⟨o,(other b (noRecord b o hb hnf)).trans hb,rfl⟩),?_⟩ (fun b o hb hnf=>⟨o.slots,(other b (noRecord b o hb hnf)).trans hb⟩) fun⟨o2,vs2,y1,y2,y3⟩=>⟨o2,vs2,(other e (cH hTe)).trans y1,y2,y3⟩)
 exact⟨oe,vs,T,_,_,(other e (cH hTe)).trans he,hcls,hd,h1,hnT,hTe,kI _ hT (rH (lY hdT _)),lY hdT _,by simp[hsz3]⟩
theorem J6{base:Heap}{env:Env}{outer:List Env}{L e:Addr}{cls a0:Value}{Q:Unit→Shared→Prop}(hf:env.frame=some L)
  (hh:zS base (env::outer) e cls a0 L s.heap) (hQ:∀h',jO base outer e cls a0 h'→s.heap.UpToSlots h'→(dI e s.heap→dI e h')→Q () {s with heap:=h'}):ax M A (ja env (.ref e)) Q E s:=by
 unfold ja;refine aE (Qm hf hh.2.2.2 ?_);refine tx hh fun h' hfl sm c=>?_;obtain⟨k1,k2,⟨_,_,k3⟩,k4⟩:=hfl;exact hQ h' ⟨k1,k2,k3,k4⟩ sm c
theorem Ey{base:Heap}{env:Env}{outer:List Env}{L e:Addr}{cls a0:Value}{Q:Unit→Shared→Prop}
  (hfr:A.frames=some (env::outer)) (hf:env.frame=some L) (hfl:jO base (env::outer) e cls a0 s.heap)
  (hQ:∀h',zS base (env::outer) e cls a0 L h'→s.heap.UpToSlots h'→(dI e s.heap→dI e h')→Q () {s with heap:=h'}):ax M A (ju (.ref e) env) Q E s:=by
 obtain⟨f1,f2,f3,f4⟩:=hfl;exact aaF hfr f3 hf f4 f1 f2 fun h' ⟨k1,k2,k3,k4⟩ c=>hQ h' ⟨k1,f2,k2,k3⟩ k4 c
theorem Y1{base:Heap}{env:Env}{outer:List Env}{L e:Addr}{cls a0:Value}{Q:Unit→Shared→Prop}
  (hfr:A.frames=some (env::outer)) (hf:env.frame=some L) (hfl:jO base (env::outer) e cls a0 s.heap)
  (hQ:∀h',jO base outer e cls a0 h'→s.heap.UpToSlots h'→(dI e s.heap→dI e h')→Q () {s with heap:=h'}):ax M A (ja env (.ref e)) Q E s:=by
 unfold ja;refine aE (Ey hfr hf hfl fun h1 x1 x2 x3=>?_);refine tx x1 fun h2 ⟨k1,k2,⟨_,_,k3⟩,k4⟩ y2 y3=>hQ h2 ⟨k1,k2,k3,k4⟩ (x2.trans y2) fun c=>y3 (x3 c)
theorem aaz{base h:Heap}{env:Env}{outer:List Env}{L e:Addr}{cls:Value}{args:List Value}{Q:Unit→Shared→Prop}
  (hfr:A.frames=some (env::outer)) (hf:env.frame=some L) (hkb:base.StaysIn h) (hl:h.FunFrames base (env::outer)) (hx:zU h s.heap e cls args)
  (hQ:∀h' t,jO base outer e cls (.ref t) h'→dI e h'→s.heap.UpToSlots h'→Q () {s with heap:=h'}):ax M A (ja env (.ref e)) Q E s:=by
 obtain⟨t,he,htn,ht⟩:=hx.there;have hen:base.get? e=none:=by
  cases hq:base.get? e with
  |none=>rfl
  |some o'=>have:=hkb e o' hq;rw[hx.new]at this;cases this
 unfold ja;refine aE ?_;unfold ju;simp only[hf];refine aE (gF (x:=.none) he rfl rfl ?_);rw[if_neg (by decide)];refine DH (a0:=.ref t) hfr (hl.of_keeps fun b o hb _=>⟨o,hx.keeps b o hb,rfl⟩) hf he (fun b o hb=>hx.keeps b o (hkb b o hb)) hen rfl (by simp) rfl fun h1 ⟨k1,k2,k3,k4⟩ c=>?_;refine tx (L:=L) ⟨k1,hen,k2,k3⟩ fun h2 ⟨k1,k2,⟨_,_,k3⟩,k4'⟩ y2 y3=>hQ h2 t ⟨k1,k2,k3,k4'⟩ (y3 (c rfl)) (Oe k4 y2)
end
def ki(B:Heap)(outer:List Env)(h:Heap)(H':Hp)(h':Heap):Prop:=∀b o,h'.get? b=some o→b∉bf outer→((∃u,H' b=some u)∨∃o0,h.get? b=some o0)→B.get? b=some o
def aC(P:aG)(w:av):c9:=fun outer H s E ev s'=>∃(e:Addr) (C:Value) (H':Hp) (B:Heap) (a0:Value) (k:Option Addr),ev=.ref e∧s'.os=s.os∧kD s'.gens∧Un (bf outer) [] H H' s.heap s'.heap∧cq P w H' s'.heap∧
 jO B outer e C a0 s'.heap∧ki B outer s.heap H' s'.heap∧(k=none→dI e s'.heap)∧E C k H'
theorem cq.tracked{P:aG}{w:av}{H:Hp}{h h':Heap}(x:cq P w H h)(k:∀b u o,H b=some u→h.get? b=some o→h'.get? b=some o):cq P w H h':=fun a o e=>
 (x a o e).stay (fun b u hb q=>by
  rcases hb with rfl|hb
  ·exact k _ _ _ e q
  ·exact k _ _ _ hb q) (fun _ q=>q) fun _ _ q=>q
theorem oi{P:aG}{w:av}{H:Hp}{h:Heap}(x:cq P w H h){b:Addr}{u:HO}(e:H b=some u):∃o,h.get? b=some o:=by
 have hx:=x b u e;cases u with
 |lst xs=>obtain⟨_,_,_,_,e⟩:=hx;exact⟨_,e⟩
 |tup xs=>obtain⟨_,_,_,o,e,_⟩:=hx;exact⟨_,e⟩
 |dK aH=>obtain⟨_,_,_,_,o,_,_,e,_⟩:=hx;exact⟨_,e⟩
 |dT aH=>obtain⟨_,_,_,_,o,_,_,e,_⟩:=hx;exact⟨_,e⟩
 |set S n=>obtain⟨o,_,_,_,e,_⟩:=hx;exact⟨_,e⟩
 |ins C dx fs=>obtain⟨_,_,_,e,_⟩:=hx;exact⟨_,e⟩
 |own y=>exact hx
 |xd fs=>obtain⟨_,⟨_,_,_,e,_⟩,_⟩:=hx;exact⟨_,e⟩
 |rng lo hi=>obtain⟨_,_,_,e⟩:=hx;exact⟨_,e⟩
 |frz ob u=>obtain⟨e,_⟩:=hx;exact⟨_,e⟩
 |tbl ps=>exact⟨_,(show h.get? b=some _ from hx)⟩
 |met f y=>exact⟨_,(show h.get? b=some _ from hx)⟩
 |ext φ=>obtain⟨_,e,_⟩:=hx;exact e
section
variable{X:Cx}{aa:List (Addr×Obj)}{σ : St}{H H':Hp}{s s':Shared}{B:Heap}{e:Addr}{C a0:Value}{h':Heap}
theorem JH(hex:X.ex=[])(I:ag X aa σ H s)(u:Un (bf X.stack) [] H H' s.heap s'.heap)(ok:cq X.prog X.w H' s'.heap)(cov:ki B X.stack s.heap H' s'.heap)(st:B.StaysIn h')(sm:s'.heap.UpToSlots h')(hfr:s'.heap.FunFrames B X.stack):
  Un (bf X.outer) [] X.H₀ H' X.s₀.heap h'∧cq X.prog X.w H' h'∧ki B X.outer X.s₀.heap H' h':=by
 have hb:=I.base;rw[hex]at hb;have nl:∀{b:Addr} {o:Obj},X.s₀.heap.get? b=some o→b∉bf X.outer→b∉bf X.stack:=fun{b o} e n z=>by
  rcases bu.mp (I.stkSub b z)with q|q
  ·have h1:=bC e;have h2:=I.ok.above;rw[q]at h1;exact absurd (dq h1 h2) (fA _)
  ·exact n q
 have os:∀b,b∈bf X.outer→b∈bf X.stack:=fun b hb=>by
  rcases I.ok.stk with e|⟨e,_⟩
  ·rw[e];exact hb
  ·rw[e];obtain⟨env,he,hf⟩:=fu.mp hb;exact fu.mpr ⟨env,.tail _ he,hf⟩
 have tr:∀{b:Addr} {v:HO},H' b=some v→b∉bf X.stack:=fun{b v} e z=>by
  have h1:=I.stkFree b z;obtain⟨_,o,ho,_⟩:=I.stack.mem z;have:=u.free b o ho h1 (by simp);rw[e]at this;cases this
 have ok':cq X.prog X.w H' h':=ok.tracked fun b v o e q=>st b o (cov b o q (tr e) (.inl ⟨v,e⟩));refine⟨⟨?_,?_,?_,?_,?_,?_,?_⟩,ok',?_⟩
 ·intro b o e n nf _;have e1:=hb.keep b o e n nf (by simp);have n1:=hb.free b o e n (by simp);have e2:=u.keep b o e1 n1 (nl e nf) (by simp);exact st b o (cov b o e2 (nl e nf) (.inr ⟨o,e1⟩))
 ·intro b o e n nf _;obtain⟨sl,e1⟩:=hb.slot b o e n nf (by simp);have n1:=hb.free b o e n (by simp);obtain⟨sl2,e2⟩:=u.slot b _ e1 n1 (os b nf) (by simp);obtain⟨_,ob,ho,hd⟩:=hfr.mem (os b nf);rw[e2]at ho;cases ho;obtain⟨sl3,e3⟩:=sm b _ e2 hd;exact⟨sl3,e3⟩
 ·intro b o e n _;obtain⟨sl,e1⟩:=hb.any e n (by simp);have n1:=hb.free b o e n (by simp);exact u.free b _ e1 n1 (by simp)
 ·intro b o e _;obtain⟨o1,e1⟩:=hb.there b o e (by simp);obtain⟨o2,e2⟩:=u.there b o1 e1 (by simp);by_cases hf:b∈bf X.stack
  ·obtain⟨_,ob,ho,hd⟩:=hfr.mem hf;rw[e2]at ho;cases ho;obtain⟨sl3,e3⟩:=sm b _ e2 hd;exact⟨_,e3⟩
  ·exact⟨o2,st b o2 (cov b o2 e2 hf (.inr ⟨o1,e1⟩))⟩
 ·intro b xs e;exact u.tups b xs (hb.tups b xs e)
 ·intro b o v e;exact u.frzs b o v (hb.frzs b o v e)
 ·intro b ps e;obtain⟨m1,e1⟩:=hb.tbls b ps e;obtain⟨m2,e2⟩:=u.tbls b _ e1;exact⟨m1++m2,by rw[e2,NW]⟩
 ·intro b o e nf alt;have get:∀{o2:Obj},s'.heap.get? b=some o2→b∉bf X.stack→((∃v,H' b=some v)∨∃o0,s.heap.get? b=some o0)→B.get? b=some o:=fun{o2} e2 n2 a2=>by
   have e3:=cov b o2 e2 n2 a2;have e4:=st b o2 e3;rw[e]at e4;cases e4;exact e3
  rcases alt with⟨v,hv⟩|⟨o0,e0⟩
  ·obtain⟨o2,e2⟩:=oi ok hv;exact get e2 (tr hv) (.inl ⟨v,hv⟩)
  ·obtain⟨o1,e1⟩:=hb.there b o0 e0 (by simp);obtain⟨o2,e2⟩:=u.there b o1 e1 (by simp);exact get e2 (nl e0 nf) (.inr ⟨o1,e1⟩)
end
def jY(CX:c9)(X:Cx)(G:St→XK):Prop:=∀(aa:List (Addr×Obj)) (σ : St) (H:Hp) (s:Shared) (ev:Value) (s':Shared),ag X aa σ H s→CX X.stack H s (G σ) ev s'→X.xe ev s'
theorem iJ{X:Cx}{P:aG}{w:av}:jv (aC P w) X E0:=fun _ _ _ _ _ _ _ c=>by
 obtain⟨_,_,_,_,_,_,_,_,_,_,_,_,_,_,q⟩:=c;exact q.elim
section
variable{P:aG}{w:av}{K:aq}{mg:Str→Option Value}{base:Heap}{N:List Str}{qual:Str}{scope:cQ}{f:Addr}{cd:Value}{A:bH}{outer:List Env}{s:Shared}{H:Hp}{E:XK}
theorem ji:jY (aC P w) (aR (aC P w) P w K mg base N qual scope f cd A outer s H E) fun _=>E:=by
 intro aa σ H1 s1 ev s' I c;obtain⟨e,C,H',B,a0,k,rfl,ho,hg,u,ok,fl,cov,c0,q⟩:=c;show ax _ _ (ja _ _) _ _ _;refine Y1 I.ok.frames rfl fl fun h' fl' sm c1=>?_;obtain⟨u',ok',cov'⟩:=JH (h':=h') rfl I u ok cov fl'.1 sm fl.2.2.1;exact⟨e,C,H',B,a0,k,rfl,ho.trans I.os,hg,u',ok',fl',cov',fun z=>c1 (c0 z),q⟩
theorem U7{aa:List (Addr×Obj)}{σ : St}{H1:Hp}{s1 s2:Shared}{e:Addr}{C:Value}{args:List Value}(I:ag (aR (aC P w) P w K mg base N qual scope f cd A outer s H E) aa σ H1 s1)(hs:s2.os=s1.os∧s2.gens=s1.gens)
  (hx:zU s1.heap s2.heap e C args) (q:E C none H1):(aR (aC P w) P w K mg base N qual scope f cd A outer s H E).xe (.ref e) s2:=by
 show ax _ _ (ja _ _) _ _ _;have hin:∀env∈(aR (aC P w) P w K mg base N qual scope f cd A outer s H E).stack,∀b,env.frame=some b→b∈bf (aR (aC P w) P w K mg base N qual scope f cd A outer s H E).stack:=fun env he b hb=>fu.mpr ⟨env,he,hb⟩;refine aaz (base:=ma s1.heap (bf (aR (aC P w) P w K mg base N qual scope f cd A outer s H E).stack)) I.ok.frames rfl (fun b o z=>Ay _ z) (As I.stack hin) hx fun h' t fl c0 sm=>?_;have u:Un (bf (aR (aC P w) P w K mg base N qual scope f cd A outer s H E).stack) [] H1 H1 s1.heap s2.heap:=Un.kept hx.keeps;have ok:cq P w H1 s2.heap:=I.hok.kept hx.keeps;have cov:ki (ma s1.heap (bf (aR (aC P w) P w K mg base N qual scope f cd A outer s H E).stack)) (aR (aC P w) P w K mg base N qual scope f cd A outer s H E).stack s1.heap H1 s2.heap:=fun b o z nf alt=>by
  have get:∀{o1:Obj},s1.heap.get? b=some o1→(ma s1.heap (bf (aR (aC P w) P w K mg base N qual scope f cd A outer s H E).stack)).get? b=some o:=fun{o1} e1=>by
   have:=hx.keeps b o1 e1;rw[z]at this;cases this;exact Au _ e1 nf
  rcases alt with⟨v,hv⟩|⟨o0,e0⟩
  ·obtain⟨o1,e1⟩:=oi I.hok hv;exact get e1
  ·exact get e0
 have hfr:s2.heap.FunFrames (ma s1.heap (bf (aR (aC P w) P w K mg base N qual scope f cd A outer s H E).stack)) (aR (aC P w) P w K mg base N qual scope f cd A outer s H E).stack:=
  (As I.stack hin).of_keeps fun b o z _=>⟨o,hx.keeps b o z,rfl⟩
 obtain⟨u',ok',cov'⟩:=JH (h':=h') rfl I u ok cov fl.1 sm hfr;exact⟨e,C,H1,_,.ref t,none,rfl,hs.1.trans I.os,by rw[show({s2 with heap:=h'}:Shared).gens=s2.gens from rfl,hs.2];exact I.bare,u',ok',fl,cov',fun _=>c0,q⟩
end
abbrev E2:List Value:=[.type "ValueError",.type "Exception",.type "BaseException",.type "object"]
def iH(K:aq)(C:Addr):Prop:=Ar K C E2 "ValueError.__new__" = true
theorem Yb{R:Prop}{F:Addr→List Value→String→Bool}{m:List Value}{l:List (Option Value)}(k:∀C' bm k0 k1 k2 k3 n k5,m=.ref C'::bm→l=[k0,k1,k2,k3,some (.builtin n),k5]→F C' bm n=true→R)
  (q:Pl (fun _ _=>Bool) m l (fun C' bm _ _ _ _ n _=>F C' bm n) (fun _ _=>false)=true):R:=by
 have no:∀{R:Prop},false=true→R:=fun z=>nomatch z;rcases m with _|⟨v,bm⟩
 ·exact no q
 cases v with
 |ref C'=>
  have k':=fun k0 k1 k2 k3 n k5=>k C' bm k0 k1 k2 k3 n k5 rfl;clear k;rcases l with _|⟨k0,l⟩
  ·exact no q
  replace k':=fun k1 k2 k3 n k5 e=>k' k0 k1 k2 k3 n k5 (congrArg (z6 k0) e);rcases l with _|⟨k1,l⟩
  ·exact no q
  replace k':=fun k2 k3 n k5 e=>k' k1 k2 k3 n k5 (congrArg (z6 k1) e);rcases l with _|⟨k2,l⟩
  ·exact no q
  replace k':=fun k3 n k5 e=>k' k2 k3 n k5 (congrArg (z6 k2) e);rcases l with _|⟨k3,l⟩
  ·exact no q
  replace k':=fun n k5 e=>k' k3 n k5 (congrArg (z6 k3) e);rcases l with _|⟨k4,l⟩
  ·exact no q
  rcases k4 with _|v
  ·exact no q
  cases v with
  |builtin n=>
   rcases l with _|⟨k5,l⟩
   ·exact no q
   rcases l with _|⟨k6,l⟩
   ·exact k' n k5 rfl q
   ·exact no q
  |_=>exact no q
 |_=>exact no q
theorem IO{K:aq}{C:Addr}{bmB:List Value}{newId:String}{R:Prop}(q:Ar K C bmB newId=true) (k:∀dd cd sl,K.lookup C=some ⟨.type "type",dd,.cls cd,sl⟩→
  Pl (fun _ _=>Bool) cd.mro sl.toList (fun C' bm _ _ _ _ n _=>C'==C&&n==newId && !cd.hasDel&&Ps K bmB bm&&FR K cd.ns&&Ax K cd.ns "__init__" == some none) (fun _ _=>false)=true→R):R:=by
 have no:∀{R:Prop},false=true→R:=fun z=>nomatch z;unfold Ar at q;generalize K.lookup C=o at q k;rcases o with _|⟨cls,dd,data,sl⟩
 ·exact no q
 cases cls with
 |type T=>
  by_cases hT:T="type"
  ·subst hT;cases data with
   |cls cd=>exact k dd cd sl rfl q
   |_=>exact no q
  ·unfold aeb FR._sparseCasesOn_4 Ar._sparseCasesOn_6 at q
   dsimp only at q
   rw[dif_neg hT]at q;exact no q
 |_=>exact no q
theorem AZ{K:aq}{h:Heap}{C:Addr}(X:K.In h)(q:iH K C):∃bm N nm qn bs hdct sn sub ab col dd k0 k1 k2 k3 k5 mN,h.get? C=some (rR nm qn C N bs bm hdct sn sub ab col dd k0 k1 k2 k3 k5 "ValueError.__new__")∧h.Ns N mN∧mN "__init__" = none∧OwnTail h E2 bm:=by
 refine IO q fun dd cd sl ho q=>Yb (F:=fun C' bm n=>C'==C&&n == "ValueError.__new__" && !cd.hasDel&&Ps K E2 bm&&FR K cd.ns&&Ax K cd.ns "__init__" == some none) (fun C' bm k0 k1 k2 k3 n k5 hm hs q=>?_) q;simp only[gb,beq_iff_eq,N2]at q;obtain⟨⟨⟨⟨⟨rfl,rfl⟩,hdel⟩,ht⟩,hok⟩,hni⟩:=q;obtain⟨nm,bs,mro,ns,qn,hd,sn,sub,ab,col,del⟩:=cd
 dsimp only at hm hdel hok hni
 subst hm hdel;have hsl:sl=#[k0,k1,k2,k3,some (.builtin "ValueError.__new__"),k5]:=by
  obtain⟨l⟩:=sl;simp only at hs;rw[hs]
 subst hsl;exact⟨bm,ns,nm,qn,bs,hd,sn,sub,ab,col,dd,k0,k1,k2,k3,k5,_,X _ _ ho,.of_isNs (PySem.W.isNs_of_in X hok),PySem.W.nsMap_none_of_in X hok hni,PySem.W.tail_of_in X ht⟩
section
variable{P:aG}{w:av}{K:aq}{mg:Str→Option Value}{base:Heap}{N:List Str}{qual:Str}{scope:cQ}{f:Addr}{cd:Value}{A:bH}{outer:List Env}{s₀ : Shared}{H₀ : Hp}{E:XK}
def Ny(E:XK)(C:Addr)(t:TA):TS:=fun _ σ H=>t σ H fun vs H1=>vs.length≤sizeLine∧E (.ref C) none H1
theorem gv{x:Str}{C:Addr}{np cpos pos:Pos}{e:Expr}{es:List Expr}{t:TA}(q:iH K C)(hg:Gl (aR (aC P w) P w K mg base N qual scope f cd A outer s₀ H₀ E) x)(hm:mg x=some (.ref C))
  (ha:PA (aR (aC P w) P w K mg base N qual scope f cd A outer s₀ H₀ E) (e::es) t) (hdb:(x==("__debug__" : Str))=false:=by decide)
  (he:bz (e::es) (aR (aC P w) P w K mg base N qual scope f cd A outer s₀ H₀ E).env=(false,eval e (aR (aC P w) P w K mg base N qual scope f cd A outer s₀ H₀ E).env)::bz es (aR (aC P w) P w K mg base N qual scope f cd A outer s₀ H₀ E).env:=by rfl)
  (hpl:(dN cpos (bz es (aR (aC P w) P w K mg base N qual scope f cd A outer s₀ H₀ E).env)).any (·.1)=false:=by rfl) :
  PS (aR (aC P w) P w K mg base N qual scope f cd A outer s₀ H₀ E) (.Raise (some (.Call (.Name x np) (e::es) [] cpos)) none pos) (Ny E C t):=by
 intro aa s σ H D I h;obtain⟨tl,N',nm,qn,bs,hdct,sn,sub,ab,col,dd,k0,k1,k2,k3,k5,mN,hC,hN,hni,TL⟩:=AZ I.ok.mod.kin q;refine wpAny_Raise_call_subU (C:=C) (nm:=nm) (q:=qn) (N:=N') (bs:=bs) (bm:=tl) (hdct:=hdct) (sn:=sn) (sub:=sub) (ab:=ab) (col:=col) (dd:=dd) (k0:=k0) (k1:=k1) (k2:=k2) (k3:=k3) (k5:=k5)
  pU (by decide) pU (mN:=mN) (TL.hasType pU.hasBase) (I.ok.hd rfl) (by rw[he];show(false||(dN cpos (bz es _)).any (·.1))=false;rw[hpl];rfl) hni (mV I hg hm ⟨rfl,?_⟩ hdb)
 have ha':=ha cpos aa s σ H _ I h;rw[he]at ha'⊢;exact Ff (bT ha' (fun vs s₂ ⟨xs,H2,I2,r2,z,q2⟩=>⟨rfl,by rw[←r2.length];exact z,I2.bk _ _ hC,hN.keeps I2.bk,TL.keeps I2.bk,fun h' e hx=>U7 I2 ⟨rfl,rfl⟩ hx q2⟩) fun _ _ y=>y)
end
section
variable{P:aG}{w:av}{K:aq}{mg:Str→Option Value}{base:Heap}
theorem mW.okE{x qual:Str}{st:aw}{f:Addr}{fd:FuncData}{N ps:List Str}{k:Nat}{sp:Sp}(F:mW K x qual st f fd)(S:aY N ps (aB st))(len:∀vs H Q E,sp vs H Q E→vs.length=ps.length)
  (hbody:∀(bM:Value) (A:bH) (outer:List Env) (s:Shared) (H:Hp) (vs:List V) (Q:VK) (E:XK),cA k (A.deeper (jU qual (aB st) s.heap.objs.size f bM))→sp vs H Q E→
   ∃t,fq (aR (aC P w) P w K mg base N qual (aB st) f bM A outer s H E) (eJ st) t∧t {nx:=fun _ H'=>Q .non H',rt:=Q} (jx N vs) H):aM P w K mg base (aC P w) (k+1) f fd ps sp:=by
 obtain⟨oc,od,kV,doc,pm,an,bM,ct,osl,rfl,lk,hcd⟩:=F.ex;exact A5 lk hcd S len fun A outer s H vs Q E hr hsp=>hbody bM A outer s H vs Q E hr hsp
end
section
variable{X:Cx}{CX:c9}{k:Nat}{f C:Addr}{fd:FuncData}{ps:List Str}{sp:Sp}{dvs:List V}{ds:List Value}{G:St→XK}{x m:Str}{p pos apos:Pos}{e o:Expr}{es:List Expr}{ta:TE}{t:TA}
theorem Ka{aa:List (Addr×Obj)}{σ : St}{H:Hp}{s:Shared}{Q:VK}{us:List Value}{vs:List V}(F:aM X.prog X.w X.K X.mg X.base CX k f fd ps sp)(hr:cA k X.A)(hb:fH X.K fd ps ds)(hd:aP dvs ds)(hx:jY CX X G)
  (I:ag X aa σ H s) (r:aP vs us) (h:sp (vs++dvs) H Q (G σ)):ax (au X.prog X.w) X.A (call (.ref f) us) (EP X aa σ Q) X.xe s:=by
 have r2:aP (vs++dvs) (us++ds):=r.append hd;have hl:(us++ds).length=ps.length:=by rw[←r2.length];exact F.len _ _ _ _ h
 refine AN (rQ (F.run X.A X.stack s H ⟨us,[]⟩ (us++ds) (vs++dvs) Q (G σ) hr I.env0 (hb s us I.kIn hl) r2 h) fun r s' hq=>?_);cases r with
 |error e=>exact hx aa σ H s e s' I hq
 |ok fl=>
  cases fl with
  |ret u=>exact I.after hq
  |next=>exact ej hq
  |brk=>exact ej hq
  |cont=>exact ej hq
def Ly(sp:Sp)(dvs:List V)(G:St→XK)(t:TA):TE:=fun σ H Q=>t σ H fun vs H1=>sp (vs++dvs) H1 Q (G σ)
theorem ip(F:aM X.prog X.w X.K X.mg X.base CX k f fd ps sp)(hr:cA k X.A)(hg:Gl X x)(hm:X.mg x=some (.ref f))(hk:js X.K (.ref f)=true)(hb:fH X.K fd ps ds)(hd:aP dvs ds)(hx:jY CX X G)
  (ha:PA X (e::es) t) (hdb:(x==("__debug__" : Str))=false:=by decide) (he:bz (e::es) X.env=(false,eval e X.env)::bz es X.env:=by rfl) (hpl:(dN pos (bz es X.env)).any (·.1)=false:=by rfl) :
  PE X (.Call (.Name x p) (e::es) [] pos) (Ly sp dvs G t):=by
 intro aa s σ H Q I h;refine nL (mV I hg hm ?_ hdb);refine ny (h₀:=X.base) I.ok.mod.kin hk (aK (ha pos aa s σ H _ I h) fun us s1 ⟨vs,H1,I1,r,q⟩=>⟨I1.kIn,?_⟩) he hpl;exact Ka F hr hb hd hx I1 r q
theorem acr{aa:List (Addr×Obj)}{σ : St}{H:Hp}{s:Shared}{Q:VK}{us:List Value}{vs:List V}(M:Mk X.K C f)(F:aM X.prog X.w X.K X.mg X.base CX k f fd ps sp)(hr:cA (k+1) X.A)(hb:fH X.K fd ps ds)(hd:aP dvs ds)
  (hx:jY CX X G) (I:ag X aa σ H s) (r:aP vs us)
  (h:∀x dx,H x=none→H dx=none→dx≠x→sp (.ref x::(vs++dvs)) (L2.upd (L2.upd H dx (.own x)) x (.ins C dx [])) (fun v H2=>v=.non∧Q (.ref x) H2) (G σ)) :
  ax (au X.prog X.w) X.A (call (.ref C) us) (EP X aa σ Q) X.xe s:=by
 have hq:=h (s.heap.objs.size+1) s.heap.objs.size (I.hok.fresh (pR _)) (I.hok.fresh (bv _)) (cC (pS _));have I2:=ag.made (C:=C) I;have r2:aP (V.ref (s.heap.objs.size+1)::(vs++dvs)) (aZ (s.heap.objs.size+1)::(us++ds)):=.cons rfl (r.append hd);have hl:(aZ (s.heap.objs.size+1)::us++ds).length=ps.length:=by
  have e:=r2.length;rw[F.len _ _ _ _ hq]at e;exact e.symm
 refine AN (J8 (f:=f) I.kIn M.makes M.init (beq_iff_eq.mp M.fn) (rQ (F.run _ X.stack _ _ ⟨aZ (s.heap.objs.size+1)::us,[]⟩ (aZ (s.heap.objs.size+1)::(us++ds)) _ _ (G σ) (hr.make C us [])
  (I2.env0.make C us []) (hb _ (aZ (s.heap.objs.size+1)::us) I2.kIn hl) r2 hq) fun r s' hq'=>?_))
 cases r with
 |error e=>exact hx aa σ _ _ e s' I2 hq'
 |ok fl=>
  cases fl with
  |ret u=>
   obtain⟨v,H',I3,rv,ev,q3⟩:=I2.after hq';subst ev;exact⟨rv,⟨V.ref (s.heap.objs.size+1),H',I3,rfl,q3⟩⟩
  |next=>exact ej hq'
  |brk=>exact ej hq'
  |cont=>exact ej hq'
theorem IR{A:List V→Hp→VK→XK→Prop}(W:∀vs H1 Q E,A vs H1 Q E→∀x dx,H1 x=none→H1 dx=none→dx≠x→sp (.ref x::(vs++[])) (L2.upd (L2.upd H1 dx (.own x)) x (.ins C dx [])) (fun v H2=>v=.non∧Q (.ref x) H2) E)
  (M:Mk X.K C f) (F:aM X.prog X.w X.K X.mg X.base CX k f fd ps sp) (hr:cA (k+1) X.A) (hg:Gl X x) (hm:X.mg x=some (.ref C)) (hb:fH X.K fd ps []) (hx:jY CX X G)
  (ha:PA X (e::es) t) (hdb:(x==("__debug__" : Str))=false:=by decide) (he:bz (e::es) X.env=(false,eval e X.env)::bz es X.env:=by rfl) (hpl:(dN pos (bz es X.env)).any (·.1)=false:=by rfl) :
  PE X (.Call (.Name x p) (e::es) [] pos) (fun σ H Q=>t σ H fun vs H1=>A vs H1 Q (G σ)):=by
 intro aa s σ H Q I h;refine nL (mV I hg hm ?_ hdb);refine ny (h₀:=X.base) I.ok.mod.kin M.kp (aK (ha pos aa s σ H _ I h) fun us s1 ⟨vs,H1,I1,r,q⟩=>⟨I1.kIn,?_⟩) he hpl;exact acr M F hr hb .nil hx I1 r (W vs H1 Q (G σ) q)
def LB(C:Addr)(m:Str)(sp:Sp)(G:St→XK)(ta:TE)(t:TA):TE:=fun σ H Q=>ta σ H fun x H1=>∃a dx fs,x=.ref a∧H1 a=some (.ins C dx fs)∧fs.lookup m=none∧t σ H1 fun vs H2=>sp (x::(vs++[])) H2 Q (G σ)
end
end L2
namespace L2
open PySem PySem.Spec PyProof.Rows PySem.W
theorem G5{α : Type}{M:jq}{A:bH}{E:Value→Shared→Prop}{s:Shared}{β : Type}{f:α→β→Sem (ForInStep β)}{b0:β}{Q:β→Shared→Prop}:∀{cs:List α},(∀c∈cs,∀Q':ForInStep β→Shared→Prop,Q' (.yield b0) s→ax M A (f c b0) Q' E s)→Q b0 s→ax M A (vL cs b0 f) Q E s
 |[],_,q=>by rw[Oy];exact wpAny_pure q
 |c::r,h,q=>by
  rw[Ab];refine aE (h c (.head _) _ ?_);exact G5 (fun c' hc'=>h c' (.tail _ hc')) q
theorem IN{K:Frag}{cls:Value}:∀{cs:List Value} {b:Bool},exmAny K cls cs=some b→∀c∈cs,∃v,exmOne K cls c=some v
 |c::r,b,h,c',hc=>by
  obtain⟨b1,d1,h1,h2,_⟩:=exmAny_cons h;rcases bu.mp hc with rfl|hc
  ·exact⟨b1,h1⟩
  ·exact IN h2 c' hc
theorem Ha{K:Frag}{M:jq}{A:bH}{E:Value→Shared→Prop}{s:Shared}{cls:Value}{f:Value→Option Bool×Unit→Sem (ForInStep (Option Bool×Unit))}{Q:Option Bool×Unit→Shared→Prop}:
  ∀{cs:List Value} {b:Bool},exmAny K cls cs=some b→(∀c v,exmOne K cls c=some v→∀Q':ForInStep (Option Bool×Unit)→Shared→Prop,Q' (if v=true then .done (some true,())else .yield (none,())) s→ax M A (f c (none,())) Q' E s)→
  Q (if b=true then(some true,())else(none,())) s→ax M A (vL cs (none,()) f) Q E s
 |[],b,h,_,q=>by
  have e:some false=some b:=h;cases e;rw[Oy];exact wpAny_pure q
 |c::r,b,h,hf,q=>by
  obtain⟨b1,d1,h1,h2,rfl⟩:=exmAny_cons h;rw[Ab];refine aE (hf c b1 h1 _ ?_);cases b1 with
  |true=>exact wpAny_pure q
  |false=>exact Ha h2 hf q
theorem Jh{K:Frag}{M:jq}{cls:Value}{cs:List Value}{tp e:Addr}{b:Bool}{h:Heap}{ot:Obj}{n:Nat}(X:K.In h)(LT:Looks M h (rW (.ref e)) cls)(hp:h.get? tp=some ot)(hpc:ot.cls=.type "tuple")(hpd:ot.data=.seq cs.toArray n)(hx:exmAny K cls cs=some b):
  Looks M h (AH (.ref e) (.ref tp)) b:=by
 intro A Q E s k₀ q;obtain⟨hh,g,d,tk,os⟩:=s;have k:∀b o,h.get? b=some o→hh.get? b=some o:=k₀;have LT0:Looks M h (isInstance (.ref tp) (.type "tuple")) true:=by
  have l1:=(Looks.ld (M:=M) (part:=none) hp).andThen (f:=fun o=>pure o.cls) .now;rw[hpc]at l1;exact l1.andThen (Looks.of_pure isSubtype_tuple_tuple)
 have LT:=LT.keeps k;have LT0:=LT0.keeps k;have hp':=k _ _ hp;unfold AH;refine aE (LT0.at ?_)
 dsimp only
 rw[if_pos rfl]
 first
  |refine aE (Qq hp' hpd ?_)
  |refine aE (aE (Qq hp' hpd (wpAny_pure ?_)))
 dsimp only[Option.getD_some,Option.getD]
 refine aE (wpAny_pure ?_);refine aE (G5 ?_ ?_)
 ·intro c hc Q' hq;obtain⟨v,hv⟩:=IN hx c hc;obtain⟨e1,_⟩:=exm_cls (M:=M) X hv;refine aE ((e1.keeps k).at ?_);rw[if_neg (by decide)];exact wpAny_pure hq
 ·refine aE (LT.at ?_);refine aE (Ha hx ?_ ?_)
  ·intro c v hv Q' hq;obtain⟨_,S1⟩:=exm_cls (M:=M) X hv;refine aE ((S1.keeps k).at ?_);cases v with
   |true=>rw[if_pos rfl];exact wpAny_pure hq
   |false=>rw[if_neg bK];exact wpAny_pure hq
  ·cases b with
   |true=>exact wpAny_pure q
   |false=>exact wpAny_pure q
section
variable{X:Cx}{aa:List (Addr×Obj)}{σ : St}{H H':Hp}{s s':Shared}{B:Heap}{e:Addr}{C a0:Value}{h':Heap}
theorem BV(I:ag X aa σ H s)(u:Un (bf X.stack) [] H H' s.heap s'.heap)(ok:cq X.prog X.w H' s'.heap)(cov:ki B X.stack s.heap H' s'.heap)(st:B.StaysIn h')(sm:s'.heap.UpToSlots h')(hfr:s'.heap.FunFrames B X.stack):
  Un (bf X.stack) [] H H' s.heap h'∧cq X.prog X.w H' h':=by
 have tr:∀{b:Addr} {v:HO},H' b=some v→b∉bf X.stack:=fun{b v} e z=>by
  have h1:=I.stkFree b z;obtain⟨_,o,ho,_⟩:=I.stack.mem z;have:=u.free b o ho h1 (by simp);rw[e]at this;cases this
 refine⟨⟨?_,?_,?_,?_,u.tups,u.frzs,u.tbls⟩,ok.tracked fun b v o e q=>st b o (cov b o q (tr e) (.inl ⟨v,e⟩))⟩
 ·intro b o e n nf _;have e2:=u.keep b o e n nf (by simp);exact st b o (cov b o e2 nf (.inr ⟨o,e⟩))
 ·intro b o e n nf _;obtain⟨sl2,e2⟩:=u.slot b _ e n nf (by simp);obtain⟨_,ob,ho,hd⟩:=hfr.mem nf;rw[e2]at ho;cases ho;obtain⟨sl3,e3⟩:=sm b _ e2 hd;exact⟨sl3,e3⟩
 ·exact u.free
 ·intro b o e _;obtain⟨o2,e2⟩:=u.there b o e (by simp);by_cases hf:b∈bf X.stack
  ·obtain⟨_,ob,ho,hd⟩:=hfr.mem hf;rw[e2]at ho;cases ho;obtain⟨sl3,e3⟩:=sm b _ e2 hd;exact⟨_,e3⟩
  ·exact⟨o2,st b o2 (cov b o2 e2 hf (.inr ⟨o,e⟩))⟩
end
structure qE(e T:Addr)(oe oT:Obj)(C:Value):Prop where
 cls:oe.cls=C
 ne:T≠e
 ex:∃vs ts:Array Value,oe.data=.fields vs∧vs[1]?=some (.ref T)∧oT.data=.fields ts∧ts[3]?=some .none
def je(e:Addr)(C:Value)(h:Heap):Prop:=∃oe,h.get? e=some oe∧oe.cls=C
theorem L9{M:jq}{A:bH}{E:Value→Shared→Prop}{s:Shared}{Q:Unit→Shared→Prop}{e T:Addr}{oe oT:Obj}{C:Value}(t:qE e T oe oT C)(he:s.heap.get? e=some oe)(hT:s.heap.get? T=some oT)
  (h:∀h',(∀b o,s.heap.get? b=some o→h'.get? b=some o)→Q () {s with heap:=h'}):ax M A (mi (.ref e) none) Q E s:=by
 obtain⟨vs,ts,hd,h1,hdT,h3⟩:=t.ex;unfold mi;refine aE (gF he hd h1 ?_);rw[if_pos (show(aZ T != cE)=true from by simp)];refine jX hT hdT (jn.mp h3).1 (h _ fun b o hb=>?_);by_cases hz:b=T
 ·subst hz;rw[hT]at hb;cases hb;rw[kI _ hT (rH (lY hdT _))]
  congr 1
  obtain⟨c,dct,dat,sl⟩:=oT
  dsimp only at hdT
  subst hdT;show eE _ _=_;simp only[eE];rw[show((none:Option Addr).elim cE fun f=>rawInt f)=cE from rfl,La h3]
 ·rw[iB _ _ (cH hz)];exact hb
section
variable{X:Cx}{aa:List (Addr×Obj)}{σ : St}{H:Hp}{s:Shared}{B:Heap}{e:Addr}{C a0:Value}
theorem Q4(hst:X.stack=X.env::X.outer∧X.env.frame=some X.env.locals)(I:ag X aa σ H s)(fl:jO B X.stack e C a0 s.heap)(hB:∀b u,H b=some u→B.get? b≠none):∃T oe oT,qE e T oe oT C∧s.heap.get? e=some oe∧(B.get? T=none∧T∉bf X.stack)∧ag X (aa++[(e,oe),(T,oT)]) σ H s:=by
 obtain⟨st,hbe,hfr,oe,vs,T,oT,ts,he,⟨hcls,_⟩,hd,h1,hnT,hTe,hT,hdT,h3⟩:=fl;have fr:∀{b:Addr} {o:Obj} {us:Array Value},s.heap.get? b=some o→o.data=.fields us→b∉bf X.stack:=fun{b o us} eb hu z=>by
  obtain⟨_,ob,ho,hn⟩:=hfr.mem z;rw[eb]at ho;cases ho;exact hn us hu
 have lo:X.env.locals∈bf X.stack:=by rw[hst.1];exact fu.mpr ⟨X.env,.head _,hst.2⟩
 have ou:∀b,b∈X.fs→b∈bf X.stack:=fun b hb=>by
  rw[hst.1];obtain⟨env,he',hf⟩:=fu.mp hb;exact fu.mpr ⟨env,.tail _ he',hf⟩
 have one:∀{b:Addr} {o:Obj} {us:Array Value},s.heap.get? b=some o→o.data=.fields us→B.get? b=none→s.heap.get? b=some o∧H b=none∧b≠X.env.locals∧b∉X.fs∧∀v,o.data≠.cell v:=fun{b o us} eb hu hn=>by
  refine⟨eb,?_,fun z=>fr eb hu (z▸lo),fun z=>fr eb hu (ou b z),fun v z=>by rw[hu]at z;cases z⟩;cases hq:H b with
  |none=>rfl
  |some u=>exact absurd hn (hB b u hq)
 refine⟨T,oe,oT,⟨hcls,hTe,vs,ts,hd,h1,hdT,h3⟩,he,⟨hnT,fr hT hdT⟩,I.pins_of fun p hp=>?_⟩;rcases jQ.mp hp with hp|hp
 ·exact I.pin p (bZ _ hp)
 ·rcases bu.mp hp with rfl|hp
  ·exact one he hd hbe
  ·rw[dS]at hp;subst hp;exact one hT hdT hnT
end
def Cx.markC(X:Cx)(e:Addr):Cx:={X with A:=X.A.mark (some (.ref e)),calm:=false,xe:=fun _ _=>False}
theorem ag.markC{X:Cx}{aa:List (Addr×Obj)}{σ : St}{H:Hp}{s:Shared}(I:ag X aa σ H s)(e:Addr):ag (X.markC e) aa σ H s:=
 ⟨⟨I.ok.mod,I.ok.kind,I.ok.glob,I.ok.blt,I.ok.above,I.ok.inj,I.ok.has,I.ok.cab,(fun z=>nomatch z),I.ok.frames,I.ok.stk,I.ok.exf,I.ok.bs,I.ok.bsz,I.ok.noex,I.ok.exfs,I.ok.funs,I.ok.frf⟩,I.os,I.bare,I.base,I.loc,I.cell,I.free,I.freeC,I.pin,I.hok,I.len⟩
theorem ag.unmark{X:Cx}{aa:List (Addr×Obj)}{σ : St}{H:Hp}{s:Shared}{e:Addr}(ok:X.Ok)(I:ag (X.markC e) aa σ H s):ag X aa σ H s:=
 ⟨ok,I.os,I.bare,I.base,I.loc,I.cell,I.free,I.freeC,I.pin,I.hok,I.len⟩
def wJ(H:Hp)(v:V)(cs:List Value):Prop:=(∃c,v=.ref c∧cs=[.ref c])∨∃p xs,v=.ref p∧H p=some (.tup xs)∧cs=xs.map jC∧xs.all lN=true
def PH(X:Cx)(hs:List lS)(th:Value→TS):Prop:=∀(e T:Addr) (oe oT:Obj) (C:Value) (aa:List (Addr×Obj)) (s:Shared) (σ : St) (H:Hp) (D:fi),qE e T oe oT C→X.s₀.heap.get? e=none→(∀p∈X.pn++aa,p.1≠e)→
 ag X (aa++[(e,oe),(T,oT)]) σ H s→th C D σ H→ax (au X.prog X.w) X.A (Ga (.ref e) X.env hs) (SP X aa D) X.xe s
theorem MW{X:Cx}:PH X [] (fun _ _ _ _=>False):=fun _ _ _ _ _ _ _ _ _ _ _ _ _ _ h=>h.elim
def aa2(K:Frag)(tt:TE)(su re:Value→TS):Value→TS:=fun C D σ H=>tt σ H fun v H1=>∃cs b,wJ H1 v cs∧exmAny K C cs=some b∧if b=true then su C D σ H1 else re C D σ H1
theorem DD:∀{xs:List V} {us:List Value},aP xs us→xs.all lN=true→us=xs.map jC
 |_,_,.nil,_=>rfl
 |x::xs,u::us,.cons r t,f=>by
  rw[rC,gb]at f;rw[eD,←DD t f.2]
  congr 1
  cases x<;>first
   |exact r
   |exact absurd f.1 bK
section
variable{X:Cx}{t:Expr}{name:Option Str}{b₀ : aw}{body:List aw}{pos:Pos}{bO:List lS}{tt:TE}{su re:Value→TS}
def Ja(X:Cx)(name:Option Str)(body:List aw)(pos:Pos)(su:Value→TS):Prop:=∀(e T:Addr) (oe oT:Obj) (C:Value) (aa:List (Addr×Obj)) (s:Shared) (σ : St) (H:Hp) (D:fi),qE e T oe oT C→X.s₀.heap.get? e=none→(∀p∈X.pn++aa,p.1≠e)→
 ag X (aa++[(e,oe),(T,oT)]) σ H s→su C D σ H→gE (au X.prog X.w) (X.A.mark (some (.ref e))) (.handlers (.ref e) [.ExceptHandler none name body pos] X.env) (fun r s₂=>match r with
  |.ok f=>(match name with
   |none=>SP X aa D f s₂
   |some n=>ax (au X.prog X.w) X.A (do F4 X.env n .none;Gg X.env n pos) (fun _ s₃=>SP X aa D f s₃) X.xe s₂)
  |.error x=>vI (au X.prog X.w) X.A X.env X.xe x s₂) s
theorem Hu(ht:∀e,PE (X.markC e) t tt)(hs:Ja X name (b₀::body) pos su)(hr:PH X bO re):PH X (.ExceptHandler (some t) name (b₀::body) pos::bO) (aa2 X.K tt su re):=by
 intro e T oe oT C aa s σ H D tr hn hnp I h;have ok:=I.ok;refine Qh (PR (bT (ht e _ s σ H _ (I.markC e) h) (fun u s1 aA=>?_) fun _ _ z=>ej z)) (by intro q;cases q);obtain⟨v,H1,I1,rv,cs,b,hT,hx,q⟩:=aA;have I1':=I1.unmark ok;obtain⟨he,hne,_⟩:=I1'.pin (e,oe) (bZ _ (bZ _ (.head _)));have LT:Looks (au X.prog X.w) s1.heap (rW (.ref e)) C:=by
  have l1:=(Looks.ld (M:=au X.prog X.w) (part:=none) he).andThen (f:=fun o=>pure o.cls) .now;rw[tr.cls]at l1;exact l1
 have LM:Looks (au X.prog X.w) s1.heap (AH (.ref e) u) b:=by
  rcases hT with⟨c,rfl,rfl⟩|⟨p,xs,rfl,hp,rfl,hc⟩
  ·obtain rfl:u=aZ c:=rv;obtain⟨b1,d1,h1,h2,rfl⟩:=exmAny_cons hx;have e0:some false=some d1:=h2;cases e0;rw[E9];exact exm_one I1'.kIn LT h1
  ·obtain rfl:u=aZ p:=rv;obtain⟨_,its,r,⟨ot,ho,hcl,n,hd⟩⟩:=(show cS X.prog X.w H1 s1.heap p (.tup xs)from I1'.hok p _ hp);rw[DD r hc]at hd;exact Jh I1'.kIn LT ho hcl hd hx
 refine LM.here ?_;cases b with
 |true=>exact hs e T oe oT C aa s1 σ H1 D tr hn hnp I1' q
 |false=>exact hr e T oe oT C aa s1 σ H1 D tr hn hnp I1' q
end
end L2
namespace L2
open PySem PySem.Spec PyProof.Rows PySem.W
section
variable{X:Cx}{aa:List (Addr×Obj)}{σ : St}{H:Hp}{s:Shared}{e T:Addr}{oe oT:Obj}{C:Value}
theorem ag.track(I:ag X (aa++[(e,oe),(T,oT)]) σ H s)(hn:X.s₀.heap.get? e=none)(hnp:∀p∈X.pn++aa,p.1≠e)(hc:oe.cls=C):ag X aa σ (L2.upd H e (.ext (je e C))) s:=by
 obtain⟨he,hne,hl,hf,hd⟩:=I.pin (e,oe) (bZ _ (bZ _ (.head _)));have nt:∀{b:Addr} {u:HO},H b=some u→b≠e:=fun{b u} q z=>by rw[z]at q;exact absurd (q.symm.trans hne) (by intro w;cases w)
 refine⟨I.ok,I.os,I.bare,⟨I.base.keep,I.base.slot,fun b o q n hx=>?_,I.base.there,fun b xs q=>?_,fun b o u q=>?_,fun b ps q=>?_⟩,I.loc,I.cell,?_,fun x c q=>?_,fun p hp=>?_,fun b u q=>?_,I.len⟩
 ·rw[bp (fun z=>by rw[z,hn]at q;cases q)];exact I.base.free b o q n hx
 ·have q':=I.base.tups b xs q;rw[bp (nt q')];exact q'
 ·have q':=I.base.frzs b o u q;rw[bp (nt q')];exact q'
 ·obtain⟨m,q'⟩:=I.base.tbls b ps q;exact⟨m,by rw[bp (nt q')];exact q'⟩
 ·rw[bp (cH hl)];exact I.free
 ·have hce:c≠e:=fun z=>by
   obtain⟨v,o,ho,hv⟩:=I.cell x c q;rw[z,he]at ho;cases ho;exact hd v hv
  rw[bp hce];exact I.freeC x c q
 ·have hpp:p∈X.pn++(aa++[(e,oe),(T,oT)]):=(jQ.mp hp).elim (fun z=>lV _ z) fun z=>bZ _ (lV _ z);obtain⟨h1,h2,h3⟩:=I.pin p hpp;exact⟨h1,by rw[bp (hnp p hp)];exact h2,h3⟩
 ·by_cases hb:b=e
  ·subst hb;rw[eB]at q;cases q;exact⟨⟨oe,he,hc⟩,⟨oe,he⟩,fun h1 h2 ⟨o,ho,hcc⟩ k=>⟨o,k o ho,hcc⟩⟩
  ·rw[bp hb]at q;exact(I.hok b u q).stay (fun c o _ z=>z) (fun c z=>by rw[bp (nt z)];exact z) fun c xs z=>by rw[bp (nt z)];exact z
theorem ag.gone{i:Nat}{x:Str}{h':Heap}{v:Option Value}{m:Str→Option Value}{tk:Nat}(I:ag X aa σ H s)(hN:X.N.Nodup)(hi:X.N[i]?=some x)(hm:s.heap.Ns X.env.locals m)
  (hl:∀(j:Nat) (y:Str) (w':V),X.N[j]?=some y→σ[j]?=some (some w')→uT X.env.scope y→∃u,bc w' u∧Lw X.env s.heap m y u)
  (hn':h'.Ns X.env.locals (fun y=>if y=x then v else m y)) (hs:zW X.env.locals s.heap h'):ag X aa (σ.set i none) H {s with heap:=h',toks:=tk}:=by
 have hiσ : i < σ.length:=by rw[I.len];exact(gO.mp hi).1
 refine⟨I.ok,I.os,I.bare,⟨fun b o e n hb hx=>?_,fun b o e n hb hx=>?_,I.base.free,fun b o e hx=>?_,I.base.tups,I.base.frzs,I.base.tbls⟩,⟨_,hn',fun j y v' e1 e2 e3=>?_⟩,fun y c e=>?_,I.free,I.freeC,fun p hp=>?_,fun b ob e=>?_,by rw[OE];exact I.len⟩
 ·exact(hs.2 b (cC (dq (bC e) I.ok.above))).trans (I.base.keep b o e n hb hx)
 ·obtain⟨sl,e1⟩:=I.base.slot b o e n hb hx;exact⟨sl,(hs.2 b (cC (dq (bC e) I.ok.above))).trans e1⟩
 ·obtain⟨o',e1⟩:=I.base.there b o e hx;exact⟨o',(hs.2 b (cC (dq (bC e) I.ok.above))).trans e1⟩
 ·by_cases hj:j=i
  ·subst hj;rw[Ad hiσ]at e2;cases e2
  ·rw[Fz (cH hj)]at e2;obtain⟨u',r',q⟩:=hl j y v' e1 e2 e3;refine⟨u',r',?_⟩;rcases q with⟨k,e⟩|⟨k,c,e,z⟩
   ·refine .inl ⟨k,?_⟩;have:y≠x:=fun e=>hj (CV hN e1 (e▸hi));simp[this,e]
   ·exact .inr ⟨k,c,e,z.sameBut hs (I.cne y c e)⟩
 ·obtain⟨w',z⟩:=I.cell y c e;exact⟨w',z.sameBut hs (I.cne y c e)⟩
 ·obtain⟨e,n,ne,nf,d⟩:=I.pin p hp;exact⟨(hs.2 p.1 ne).trans e,n,ne,nf,d⟩
 ·refine(I.hok b ob e).stay (fun c w' hc q=>(hs.2 c ?_).trans q) (fun _ q=>q) fun _ _ q=>q;rintro rfl;rcases hc with rfl|hc
  ·rw[I.free]at e;cases e
  ·rw[I.free]at hc;cases hc
end
section
variable{X:Cx}{b₀ : aw}{body:List aw}{pos:Pos}
def YA(i:Nat)(tS:TS):Value→TS:=fun C D σ H=>∀e H2,bS H e (.ext (je e C)) H2→
 tS {nx:=fun σ' H'=>D.nx (σ'.set i none) H',rt:=D.rt,bk:=fun σ' H'=>D.bk (σ'.set i none) H',ct:=fun σ' H'=>D.ct (σ'.set i none) H'} (σ.set i (some (.ref e))) H2
theorem MG{n:Str}{i:Nat}{tS:TS}(hN:X.N.Nodup)(hi:X.N[i]?=some n)(hk:X.env.scope.names.lookup n=some .local)(hb:∀e,fq (X.markC e) (b₀::body) tS):Ja X (some n) (b₀::body) pos (YA i tS):=by
 intro e T oe oT C aa s σ H D tr hn hnp I h;have ok:=I.ok;obtain⟨he,hne,_⟩:=I.pin (e,oe) (bZ _ (bZ _ (.head _)));obtain⟨hT,_⟩:=I.pin (T,oT) (bZ _ (bZ _ (.tail _ (.head _))));refine PQ (L9 tr he hT fun h' k=>?_);have I':=(I.kept (h':=h') (t':=s.toks) k).track hn hnp tr.cls;have hcls:(X.env.scope.kind == .class||(X.env.scope.kind == .module&&X.env.locals != X.env.globals))=false:=by rw[ok.kind];rfl
 refine sY (v:=.ref e) (u:=.ref e) I' hN hi (.inl hk) rfl (fun s3 I3=>?_) (.inr hk);refine bT (hb e aa s3 _ _ _ (I3.markC e) (h e _ (bS.mk' hne _))) (fun f s4 q=>?_) fun _ _ z=>ej z;have fin:∀{σ':St} {H':Hp} {Q:Unit→Shared→Prop},ag (X.markC e) aa σ' H' s4→(∀s5,ag X aa (σ'.set i none) H' s5→Q () s5)→ax (au X.prog X.w) X.A (do F4 X.env n .none;Gg X.env n pos) Q X.xe s4:=fun{σ' H' Q} I4 hq=>by
  have I4':=I4.unmark ok;obtain⟨m,hm,hl⟩:=id I4'.loc;exact Qk hk hm hcls fun h5 v hn5 hs5=>hq _ (I4'.gone hN hi hm hl hn5 hs5)
 cases f with
 |next=>obtain⟨σ',H',I4,q4⟩:=q;exact fin I4 fun s5 I5=>⟨_,H',I5,q4⟩
 |brk=>obtain⟨σ',H',I4,q4⟩:=q;exact fin I4 fun s5 I5=>⟨_,H',I5,q4⟩
 |cont=>obtain⟨σ',H',I4,q4⟩:=q;exact fin I4 fun s5 I5=>⟨_,H',I5,q4⟩
 |ret u=>obtain⟨v,σ',H',I4,r4,q4⟩:=q;exact fin I4 fun s5 I5=>⟨v,_,H',I5,r4,q4⟩
def Cx.tryC(X:Cx)(pn:List (Addr×Obj))(xe:Value→Shared→Prop):Cx:={X with pn:=X.pn++pn,xe:=xe}
theorem ag.tryC{aa:List (Addr×Obj)}{σ : St}{H:Hp}{s:Shared}{xe:Value→Shared→Prop}(I:ag X aa σ H s):ag (X.tryC aa xe) [] σ H s:=
 ⟨⟨I.ok.mod,I.ok.kind,I.ok.glob,I.ok.blt,I.ok.above,I.ok.inj,I.ok.has,I.ok.cab,I.ok.hd,I.ok.frames,I.ok.stk,I.ok.exf,I.ok.bs,I.ok.bsz,I.ok.noex,I.ok.exfs,I.ok.funs,I.ok.frf⟩,I.os,I.bare,I.base,I.loc,I.cell,I.free,I.freeC,
  fun p hp=>I.pin p (by rw[gg]at hp;exact hp),I.hok,I.len⟩
theorem ag.untry{aa pins':List (Addr×Obj)}{σ : St}{H:Hp}{s:Shared}{xe:Value→Shared→Prop}(ok:X.Ok)(I:ag (X.tryC aa xe) pins' σ H s):ag X aa σ H s:=
 ⟨ok,I.os,I.bare,I.base,I.loc,I.cell,I.free,I.freeC,fun p hp=>I.pin p (lV _ hp),I.hok,I.len⟩
theorem SP.untry{aa pins':List (Addr×Obj)}{xe:Value→Shared→Prop}{D:fi}{f:mY}{s':Shared}(ok:X.Ok)(h:SP (X.tryC aa xe) pins' D f s'):SP X aa D f s':=by
 cases f with
 |next=>obtain⟨σ',H',I,q⟩:=h;exact⟨σ',H',I.untry ok,q⟩
 |brk=>obtain⟨σ',H',I,q⟩:=h;exact⟨σ',H',I.untry ok,q⟩
 |cont=>obtain⟨σ',H',I,q⟩:=h;exact⟨σ',H',I.untry ok,q⟩
 |ret u=>obtain⟨v,σ',H',I,r,q⟩:=h;exact⟨v,σ',H',I.untry ok,r,q⟩
def A3(oe:Obj):Prop:=∃vs,oe.data=.fields vs∧vs[2]?=some cE
theorem VW{h:Heap}{e:Addr}{oe:Obj}(he:h.get? e=some oe)(c:dI e h):A3 oe:=by
 obtain⟨o2,vs,e2,r⟩:=c;rw[he]at e2;cases e2;exact⟨vs,r⟩
def tz(X:Cx)(hs:List lS)(th:Value→Option Addr→TS):Prop:=∀(e T:Addr) (oe oT:Obj) (C:Value) (k:Option Addr) (aa:List (Addr×Obj)) (s:Shared) (σ : St) (H:Hp) (D:fi),qE e T oe oT C→(k=none→A3 oe)→X.s₀.heap.get? e=none→(∀p∈X.pn++aa,p.1≠e)→(X.s₀.heap.get? T=none∧∀p∈X.pn++aa,p.1≠T)→
 ag X (aa++[(e,oe),(T,oT)]) σ H s→th C k D σ H→ax (au X.prog X.w) X.A (Ga (.ref e) X.env hs) (SP X aa D) X.xe s
theorem PH.k{hs:List lS}{th:Value→TS}(h:PH X hs th):tz X hs (fun C _=>th C):=fun e T oe oT C _ aa s σ H D tr _ hn hnp _ I q=>h e T oe oT C aa s σ H D tr hn hnp I q
def LA(t:(St→XK)→TS)(th:Value→Option Addr→TS):TS:=fun D σ H=>t (fun σ' C k H'=>th C k D σ' H') D σ H
theorem EN{P:aG}{w:av}{stmts:List aw}{h₀ : lS}{hs:List lS}{t:(St→XK)→TS}{th:Value→Option Addr→TS}(hP:X.prog=P)(hW:X.w=w)(hex:X.ex=[])(hst:X.stack=X.env::X.outer∧X.env.frame=some X.env.locals)
  (hb:∀G pn xe,jY (aC P w) (X.tryC pn xe) G→fq (X.tryC pn xe) stmts (t G)) (hh:tz X (h₀::hs) th):PS X (.Try stmts (h₀::hs) [] [] pos) (LA t th):=by
 subst hP hW;intro aa s σ H D I h;have ok:=I.ok;refine wpAny_Try_except (bT (hb (fun σ' C k H'=>th C k D σ' H') aa (fun e s₁=>ax (au X.prog X.w) X.A (ju e X.env) (fun _ s₂=>ax (au X.prog X.w) X.A (mi e none) (fun _ s₃=>ax (au X.prog X.w) X.A (Ga e X.env (h₀::hs)) (SP X aa D) X.xe s₃) X.xe s₂) X.xe s₁) ?_ [] s σ H D I.tryC h) (fun f s1 q=>?_) fun _ _ z=>z)
 ·intro pins' σ' H1 s1 ev s' I1 c;obtain⟨e,C,H',B,a0,k,rfl,ho,hg,u,okk,fl,cov,c0,q⟩:=c;have fl0:jO B (X.env::X.outer) e C a0 s'.heap:=by rw[←hst.1];exact fl
  have hfr:X.A.frames=some (X.env::X.outer):=by rw[←hst.1];exact ok.frames
  have hfl2:B.get? e=none:=fl.2.1;have nofr:e∉bf X.stack:=fun z=>by
   obtain⟨_,_,hf,oe,vs,_,_,_,he,_,hd,_⟩:=fl;obtain⟨_,ob,hob,hn⟩:=hf.mem z;rw[he]at hob;cases hob;exact hn vs hd
  have old:∀{o:Obj},s1.heap.get? e=some o→False:=fun{o} z=>by
   obtain⟨o2,e2⟩:=u.there e o z (by simp);have:=cov e o2 e2 nofr (.inr ⟨o,z⟩);rw[hfl2]at this;cases this
  show ax _ _ (ju _ _) _ _ _;refine Ey hfr hst.2 fl0 fun h4 held sm4 c4=>?_;refine tx held fun h5 fl5 sm5 c5=>?_;obtain⟨u5,ok5⟩:=BV (X:=X.tryC aa _) I1 u okk cov fl5.1 (sm4.trans sm5) fl.2.2.1;have I5:=(I1.call' (s':={s' with heap:=h5}) ho u5 ok5 hg (fun b z=>absurd z (by simp))).untry ok;have hB:∀b v,H' b=some v→B.get? b≠none:=fun b v hv=>by
   obtain⟨o,hob⟩:=oi okk hv;have nf:b∉bf X.stack:=fun z=>by
    have h1:=I1.stkFree b z;obtain⟨_,o',ho',_⟩:=I1.stack.mem z;have:=u.free b o' ho' h1 (by simp);rw[hv]at this;cases this
   rw[cov b o hob nf (.inl ⟨v,hv⟩)];intro z;cases z
  obtain⟨T,oe,oT,tr,he6,⟨hnT,nfT⟩,I6⟩:=Q4 hst I5 (by rw[hst.1];exact fl5) hB;have hn:X.s₀.heap.get? e=none:=by
   cases hq:X.s₀.heap.get? e with
   |none=>rfl
   |some o=>
    obtain⟨o1,e1⟩:=I1.base.there e o hq (by show e∉X.ex;rw[hex];simp);exact(old e1).elim
  have hnp:∀p∈X.pn++aa,p.1≠e:=fun p hp z=>by
   have:=(I1.pin p (lV _ hp)).1;rw[z]at this;exact old this
  have oldT:∀{o:Obj},s1.heap.get? T=some o→False:=fun{o} z=>by
   obtain⟨o2,e2⟩:=u.there T o z (by simp);have:=cov T o2 e2 nfT (.inr ⟨o,z⟩);rw[hnT]at this;cases this
  have hnT0:X.s₀.heap.get? T=none:=by
   cases hq:X.s₀.heap.get? T with
   |none=>rfl
   |some o=>
    obtain⟨o1,e1⟩:=I1.base.there T o hq (by show T∉X.ex;rw[hex];simp);exact(oldT e1).elim
  have hnpT:∀p∈X.pn++aa,p.1≠T:=fun p hp z=>by
   have:=(I1.pin p (lV _ hp)).1;rw[z]at this;exact oldT this
  exact hh e T oe oT C k aa _ σ' H' D tr (fun z=>VW he6 (c5 (c4 (c0 z)))) hn hnp ⟨hnT0,hnpT⟩ I6 q
 ·have q':=SP.untry ok q;cases f with
  |next=>exact vQ q'
  |brk=>exact q'
  |cont=>exact q'
  |ret u=>exact q'
def MH(t:(St→XK)→TS)(th:Value→TS):TS:=fun D σ H=>t (fun σ' C _ H'=>th C D σ' H') D σ H
theorem GF{P:aG}{w:av}{stmts:List aw}{h₀ : lS}{hs:List lS}{t:(St→XK)→TS}{th:Value→TS}(hP:X.prog=P)(hW:X.w=w)(hex:X.ex=[])(hst:X.stack=X.env::X.outer∧X.env.frame=some X.env.locals)
  (hb:∀G pn xe,jY (aC P w) (X.tryC pn xe) G→fq (X.tryC pn xe) stmts (t G)) (hh:PH X (h₀::hs) th):PS X (.Try stmts (h₀::hs) [] [] pos) (MH t th):=EN hP hW hex hst hb hh.k
end
end L2
namespace L2
open PySem PySem.Spec PyProof.Rows PySem.W
section
variable{K:Frag}{x t:Value}{H:Heap→Prop}
end
section
variable{X:Cx}
end
section
variable{t:(St→XK)→TS}{th:Value→TS}{D:fi}{σ : St}{H:Hp}{E:XK}{C:Addr}{ta:TA}{sp:Sp}{dvs:List V}{G:St→XK}{Q:VK}{to:TE}{m:Str}
theorem VC(h:t (fun σ' C _ H'=>th C D σ' H') D σ H):MH t th D σ H:=h
theorem TU(h:ta σ H fun vs H1=>vs.length≤sizeLine∧E (.ref C) none H1):Ny E C ta D σ H:=h
theorem abn(h:ta σ H fun vs H1=>sp (vs++dvs) H1 Q (G σ)):Ly sp dvs G ta σ H Q:=h
theorem Yt(h:to σ H fun x H1=>∃a dx fs,x=.ref a∧H1 a=some (.ins C dx fs)∧fs.lookup m=none∧ta σ H1 fun vs H2=>sp (x::(vs++[])) H2 Q (G σ)):LB C m sp G to ta σ H Q:=h
theorem gr{K:Frag}{c:Addr}{b:Bool}{C:Value}{R:Bool→Prop}(e:exmAny K C [.ref c]=some b)(h:R b):∃cs b,wJ H (.ref c) cs∧exmAny K C cs=some b∧R b:=⟨_,b,.inl ⟨c,rfl,rfl⟩,e,h⟩
end
end L2
namespace L2
open PySem
theorem Wu:fU "ValueError" = some (.type "ValueError"):=by k_go
end L2
namespace L2
open PySem PySem.Spec PyProof.Rows PySem.W
section
variable{X:Cx}{aa:List (Addr×Obj)}{σ : St}{H:Hp}{s:Shared}{B:Heap}{h':Heap}
theorem JM(hex:X.ex=[])(I:ag X aa σ H s)(cov:ki B X.stack X.s₀.heap H s.heap)(st:B.StaysIn h')(sm:s.heap.UpToSlots h')(hfr:s.heap.FunFrames B X.stack):
  Un (bf X.outer) [] X.H₀ H X.s₀.heap h'∧cq X.prog X.w H h'∧ki B X.outer X.s₀.heap H h':=by
 have hb:=I.base;rw[hex]at hb;have nl:∀{b:Addr} {o:Obj},X.s₀.heap.get? b=some o→b∉bf X.outer→b∉bf X.stack:=fun{b o} e n z=>by
  rcases bu.mp (I.stkSub b z)with q|q
  ·have h1:=bC e;have h2:=I.ok.above;rw[q]at h1;exact absurd (dq h1 h2) (fA _)
  ·exact n q
 have os:∀b,b∈bf X.outer→b∈bf X.stack:=fun b hb=>by
  rcases I.ok.stk with e|⟨e,_⟩
  ·rw[e];exact hb
  ·rw[e];obtain⟨env,he,hf⟩:=fu.mp hb;exact fu.mpr ⟨env,.tail _ he,hf⟩
 have tr:∀{b:Addr} {v:HO},H b=some v→b∉bf X.stack:=fun{b v} e z=>by
  have h1:=I.stkFree b z;rw[e]at h1;cases h1
 have ok':cq X.prog X.w H h':=I.hok.tracked fun b v o e q=>st b o (cov b o q (tr e) (.inl ⟨v,e⟩));refine⟨⟨?_,?_,?_,?_,?_,?_,?_⟩,ok',?_⟩
 ·intro b o e n nf _;have e1:=hb.keep b o e n nf (by simp);exact st b o (cov b o e1 (nl e nf) (.inr ⟨o,e⟩))
 ·intro b o e n nf _;obtain⟨sl,e1⟩:=hb.slot b o e n nf (by simp);obtain⟨_,ob,ho,hd⟩:=hfr.mem (os b nf);rw[e1]at ho;cases ho;obtain⟨sl3,e3⟩:=sm b _ e1 hd;exact⟨sl3,e3⟩
 ·intro b o e n _;exact hb.free b o e n (by simp)
 ·intro b o e _;obtain⟨o1,e1⟩:=hb.there b o e (by simp);by_cases hf:b∈bf X.stack
  ·obtain⟨_,ob,ho,hd⟩:=hfr.mem hf;rw[e1]at ho;cases ho;obtain⟨sl3,e3⟩:=sm b _ e1 hd;exact⟨_,e3⟩
  ·exact⟨o1,st b o1 (cov b o1 e1 hf (.inr ⟨o,e⟩))⟩
 ·exact hb.tups
 ·exact hb.frzs
 ·exact hb.tbls
 ·intro b o e nf alt;have get:∀{o2:Obj},s.heap.get? b=some o2→b∉bf X.stack→B.get? b=some o:=fun{o2} e2 n2=>by
   have e3:=cov b o2 e2 n2 alt;have e4:=st b o2 e3;rw[e]at e4;cases e4;exact e3
  rcases alt with⟨v,hv⟩|⟨o0,e0⟩
  ·obtain⟨o2,e2⟩:=oi I.hok hv;exact get e2 (tr hv)
  ·obtain⟨o1,e1⟩:=hb.there b o0 e0 (by simp);exact get e1 (nl e0 nf)
end
section
variable{P:aG}{w:av}{K:aq}{mg:Str→Option Value}{base:Heap}{N:List Str}{qual:Str}{scope:cQ}{f:Addr}{cd:Value}{A:bH}{outer:List Env}{s₀ : Shared}{H₀ : Hp}{E:XK}
theorem IM{aa:List (Addr×Obj)}{σ : St}{H:Hp}{s:Shared}{e T:Addr}{oe oT:Obj}{vs ts:Array Value}{C a0:Value}{k:Option Addr}(I:ag (aR (aC P w) P w K mg base N qual scope f cd A outer s₀ H₀ E) aa σ H s)
  (he:s.heap.get? e=some oe) (hcl:oe.cls=C) (hd:oe.data=.fields vs) (h0:vs[0]?=some a0) (h1:vs[1]?=some (.ref T)) (hTe:T≠e) (hT:s.heap.get? T=some oT) (hdT:oT.data=.fields ts)
  (h3:ts[3]?=some (rawInt (aR (aC P w) P w K mg base N qual scope f cd A outer s₀ H₀ E).env.locals)) (ne:H e=none) (nT:H T=none) (n0e:s₀.heap.get? e=none) (n0T:s₀.heap.get? T=none) (c0:k=none→dI e s.heap) (q:E C k H) :
  (aR (aC P w) P w K mg base N qual scope f cd A outer s₀ H₀ E).xe (.ref e) s:=by
 show ax _ _ (ja _ _) _ _ _;have hin:∀env∈(aR (aC P w) P w K mg base N qual scope f cd A outer s₀ H₀ E).stack,∀b,env.frame=some b→b∈e::T::bf (aR (aC P w) P w K mg base N qual scope f cd A outer s₀ H₀ E).stack:=fun env he b hb=>.tail _ (.tail _ (fu.mpr ⟨env,he,hb⟩));have hfr:=As I.stack hin;have held:zS (ma s.heap (e::T::bf (aR (aC P w) P w K mg base N qual scope f cd A outer s₀ H₀ E).stack)) (aR (aC P w) P w K mg base N qual scope f cd A outer s₀ H₀ E).stack e C a0 (aR (aC P w) P w K mg base N qual scope f cd A outer s₀ H₀ E).env.locals s.heap:=
  ⟨fun b o z=>Ay _ z,vA _ (.head _),hfr,⟨oe,vs,T,oT,ts,he,⟨hcl,h0⟩,hd,h1,vA _ (.tail _ (.head _)),hTe,hT,hdT,h3⟩⟩
 refine J6 rfl held fun h' fl sm c1=>?_;have cov:ki (ma s.heap (e::T::bf (aR (aC P w) P w K mg base N qual scope f cd A outer s₀ H₀ E).stack)) (aR (aC P w) P w K mg base N qual scope f cd A outer s₀ H₀ E).stack s₀.heap H s.heap:=fun b o z nf alt=>by
  refine Au _ z fun hm=>?_;have no:∀{c:Addr},H c=none→s₀.heap.get? c=none→b=c→False:=fun{c} x y z=>by
   subst z;rcases alt with⟨v,hv⟩|⟨o0,e0⟩
   ·rw[x]at hv;cases hv
   ·rw[y]at e0;cases e0
  rcases bu.mp hm with z|hm
  ·exact no ne n0e z
  ·rcases bu.mp hm with z|hm
   ·exact no nT n0T z
   ·exact nf hm
 obtain⟨u',ok',cov'⟩:=JM (h':=h') rfl I cov fl.1 sm hfr;exact⟨e,C,H,_,a0,k,rfl,I.os,I.bare,u',ok',fl,cov',(fun z=>c1 (c0 z)),q⟩
end
end L2
namespace L2
open PySem PySem.Spec PyProof.Rows PySem.W
section
variable{prog:aG}{w:av}{A:bH}{E:Value→Shared→Prop}{s:Shared}{env:Env}
variable{nm q:Str}{C N:Addr}{bs bm bmB:List Value}{hdct:Bool}{sn:List Str}{sub:List Value}{ab:Bool}{col:Option Bool}{dd:Option Addr}{k0 k1 k2 k3 k5:Option Value}{B Bn newId nid initId inN:String}{bmN:List Value}
variable{nm' q':Str}{C' N':Addr}{bs' bm':List Value}{hdct':Bool}{sn':List Str}{sub':List Value}{ab':Bool}{col':Option Bool}{dd':Option Addr}{j0 j1 j2 j3 j5:Option Value}{newId':String}
theorem Q5(Fn:ExcBaseFacts Bn newId inN bmN)(hBn:bmB.contains (.type Bn)=true)(F:ExcBaseFacts B nid initId bmB){mN:Str→Option Value}{x:Str}{np cpos pos:Pos}{args:List Expr}{ce:Expr}{e:Addr}{Q:mY→Shared→Prop}
  (hbase:bm.contains (.type "BaseException")=true) (hbase':bm'.contains (.type "BaseException")=true) (hh:A.handled=some (.ref e)) (hplain:(dN cpos (bz args env)).any (·.1)=false) (hni:mN "__init__" = none)
  (h:ax (au prog w) A (eval (.Name x np) env) (fun f s₁=>f=.ref C∧ax (au prog w) A (evalArgs (.ref C) true (dN cpos (bz args env)) [])
   (fun a s₂=>a.kw=[]∧a.pos.length≤sizeLine∧s₂.heap.get? C=some (rR nm q C N bs bm hdct sn sub ab col dd k0 k1 k2 k3 k5 newId)∧s₂.heap.Ns N mN∧OwnTail s₂.heap bmB bm∧
    s₂.heap.get? C'=some (rR nm' q' C' N' bs' bm' hdct' sn' sub' ab' col' dd' j0 j1 j2 j3 j5 newId')∧(∃oe,s₂.heap.get? e=some oe∧oe.cls=.ref C')∧dI e s₂.heap∧
    ∀h' e2,zU s₂.heap h' e2 (.ref C) a.pos→ax (au prog w) A (eval ce env) (fun cv s₃=>cv=.ref e∧s₃={s₂ with heap:=h'}∧
     ∀t h'',h''.get? e2=some (uZ C t e)→(∀b o,b≠e2→h'.get? b=some o→h''.get? b=some o)→E (.ref e2) {s₂ with heap:=h''}) E {s₂ with heap:=h'}) E s₁) E s) :
  ax (au prog w) A (exec (.Raise (some (.Call (.Name x np) args [] cpos)) (some ce) pos) env) Q E s:=by
 rw[arm_exec_Raise];refine aE (kO (UO (C:=C) (nm:=nm) (q:=q) (N:=N) (bs:=bs) (bm:=bm) (hdct:=hdct) (sn:=sn) (sub:=sub) (ab:=ab) (col:=col) (dd:=dd) (k0:=k0) (k1:=k1) (k2:=k2) (k3:=k3) (k5:=k5) (newId:=newId)
  (C':=C') (nm':=nm') (q':=q') (N':=N') (bs':=bs') (bm':=bm') (hdct':=hdct') (sn':=sn') (sub':=sub') (ab':=ab') (col':=col') (dd':=dd') (j0:=j0) (j1:=j1) (j2:=j2) (j3:=j3) (j5:=j5) (newId':=newId') hbase hbase' hh
  (aE (bT (wpAny_Call_ofName (bT h (fun f s₁ h₁=>?_) fun _ _ x=>x)) (fun v s₃ h₃=>aE (kO (wpAny_pure h₃))) fun _ _ x=>x))))
 obtain⟨rfl,h₁⟩:=h₁;unfold vH;refine aE (jW (bT h₁ (fun a s₂ h₂=>aE (kO ?_)) fun _ _ x=>x));obtain⟨apos,akw⟩:=a;obtain⟨hkw,dO,hC,hn,T,hC',⟨oe,he,hcl⟩,c0,h₂⟩:=h₂;obtain rfl:akw=[]:=hkw;obtain⟨hp,g,d,tk,os⟩:=s₂;simp only[hplain];refine aE (wpAny_keeperOf_exc hC ?_);refine aE (wpAny_call_exc_subU (hrest:=dO) Fn hBn F T hC hn hni fun h' e2 hm=>aE (jW (wpAny_point (wpAny_pure ?_))));obtain⟨t,ht,_,_⟩:=hm.there;have ne:e≠e2:=fun z=>by
  have:=hm.new;rw[←z]at this;rw[show hp.get? e=some oe from he]at this;cases this
 obtain⟨o2,vs,y1,y2⟩:=c0;refine⟨e2,t,rfl,hm.keeps _ _ hC,hm.keeps _ _ hC',ht,ne,⟨oe,hm.keeps _ _ he,hcl⟩,⟨o2,vs,hm.keeps _ _ y1,y2⟩,?_⟩;refine aE (bT (h₂ h' e2 hm) (fun cv s₃ h₃=>?_) fun _ _ x=>x);obtain⟨rfl,rfl,h₃⟩:=h₃;exact aE (kO (wpAny_pure ⟨rfl,rfl,fun h'' z1 z2=>h₃ t h'' z1 z2⟩))
end
end L2
namespace L2
open PySem PySem.Spec PyProof.Rows PySem.W
section
variable{X:Cx}{t:Expr}{name:Option Str}{b₀ : aw}{body:List aw}{pos:Pos}{bO:List lS}{tt:TE}{su re:Value→Option Addr→TS}
def Ki(X:Cx)(name:Option Str)(body:List aw)(pos:Pos)(su:Value→Option Addr→TS):Prop:=∀(e T:Addr) (oe oT:Obj) (C:Value) (k:Option Addr) (aa:List (Addr×Obj)) (s:Shared) (σ : St) (H:Hp) (D:fi),qE e T oe oT C→(k=none→A3 oe)→X.s₀.heap.get? e=none→(∀p∈X.pn++aa,p.1≠e)→
 ag X (aa++[(e,oe),(T,oT)]) σ H s→su C k D σ H→gE (au X.prog X.w) (X.A.mark (some (.ref e))) (.handlers (.ref e) [.ExceptHandler none name body pos] X.env) (fun r s₂=>match r with
  |.ok f=>(match name with
   |none=>SP X aa D f s₂
   |some n=>ax (au X.prog X.w) X.A (do F4 X.env n .none;Gg X.env n pos) (fun _ s₃=>SP X aa D f s₃) X.xe s₂)
  |.error x=>vI (au X.prog X.w) X.A X.env X.xe x s₂) s
def IV(K:Frag)(tt:TE)(su re:Value→Option Addr→TS):Value→Option Addr→TS:=fun C k D σ H=>tt σ H fun v H1=>∃cs b,wJ H1 v cs∧exmAny K C cs=some b∧if b=true then su C k D σ H1 else re C k D σ H1
theorem Jq(ht:∀e,PE (X.markC e) t tt)(hs:Ki X name (b₀::body) pos su)(hr:tz X bO re):tz X (.ExceptHandler (some t) name (b₀::body) pos::bO) (IV X.K tt su re):=by
 intro e T oe oT C k aa s σ H D tr c2 hn hnp hT0 I h;have ok:=I.ok;refine Qh (PR (bT (ht e _ s σ H _ (I.markC e) h) (fun u s1 aA=>?_) fun _ _ z=>ej z)) (by intro q;cases q);obtain⟨v,H1,I1,rv,cs,b,hT,hx,q⟩:=aA;have I1':=I1.unmark ok;obtain⟨he,hne,_⟩:=I1'.pin (e,oe) (bZ _ (bZ _ (.head _)));have LT:Looks (au X.prog X.w) s1.heap (rW (.ref e)) C:=by
  have l1:=(Looks.ld (M:=au X.prog X.w) (part:=none) he).andThen (f:=fun o=>pure o.cls) .now;rw[tr.cls]at l1;exact l1
 have LM:Looks (au X.prog X.w) s1.heap (AH (.ref e) u) b:=by
  rcases hT with⟨c,rfl,rfl⟩|⟨p,xs,rfl,hp,rfl,hc⟩
  ·obtain rfl:u=aZ c:=rv;obtain⟨b1,d1,h1,h2,rfl⟩:=exmAny_cons hx;have e0:some false=some d1:=h2;cases e0;rw[E9];exact exm_one I1'.kIn LT h1
  ·obtain rfl:u=aZ p:=rv;obtain⟨_,its,r,⟨ot,ho,hcl,n,hd⟩⟩:=(show cS X.prog X.w H1 s1.heap p (.tup xs)from I1'.hok p _ hp);rw[DD r hc]at hd;exact Jh I1'.kIn LT ho hcl hd hx
 refine LM.here ?_;cases b with
 |true=>exact hs e T oe oT C k aa s1 σ H1 D tr c2 hn hnp I1' q
 |false=>exact hr e T oe oT C k aa s1 σ H1 D tr c2 hn hnp hT0 I1' q
end
section
variable{X:Cx}
theorem Vv{n:Str}{i:Nat}{pos:Pos}{v:Value}{aa:List (Addr×Obj)}{σ : St}{H:Hp}{s:Shared}{h' h'':Heap}{e e2 t C2:Addr}{args:List Value}(hst:X.stack=X.env::X.outer∧X.env.frame=some X.env.locals)(hex:X.ex=[])(hN:X.N.Nodup)(hi:X.N[i]?=some n)(hk:X.env.scope.names.lookup n=some .local)
  (I:ag X aa σ H s) (hx:zU s.heap h' e2 (.ref C2) args) (z1:h''.get? e2=some (uZ C2 t e)) (z2:∀b o,b≠e2→h'.get? b=some o→h''.get? b=some o)
  (out:∀(σ':St) (s':Shared) (T:Addr) (oe oT:Obj) (vs ts:Array Value) (a0:Value),ag X aa σ' H s'→s'.heap.get? e2=some oe→oe.cls=.ref C2→oe.data=.fields vs→vs[0]?=some a0→vs[1]?=some (.ref T)→T≠e2→s'.heap.get? T=some oT→oT.data=.fields ts→ts[3]?=some (rawInt X.env.locals)→H e2=none→H T=none→X.s₀.heap.get? e2=none→X.s₀.heap.get? T=none→X.xe (.ref e2) s') :
  NY (au X.prog X.w) (X.A.mark (some v)) X.env n pos (jV (au X.prog X.w) (X.A.mark (some v)) X.env (vI (au X.prog X.w) X.A X.env X.xe)) (.ref e2) {s with heap:=h''}:=by
 have ok:=I.ok;have hcls:(X.env.scope.kind == .class||(X.env.scope.kind == .module&&X.env.locals != X.env.globals))=false:=by rw[ok.kind];rfl
 have hfr:X.A.frames=some (X.env::X.outer):=by rw[←hst.1];exact ok.frames
 have kp:∀b o,s.heap.get? b=some o→h''.get? b=some o:=fun b o z=>z2 b o (fun q=>by rw[q,hx.new]at z;cases z) (hx.keeps b o z);have hin:∀env∈X.stack,∀b,env.frame=some b→b∈bf X.stack:=fun env he b hb=>fu.mpr ⟨env,he,hb⟩;have hf0:s.heap.FunFrames (hideAll s.heap (bf X.stack)) X.stack:=funFrames_hide I.stack hin;have hf1:h''.FunFrames (hideAll s.heap (bf X.stack)) X.stack:=hf0.of_keeps fun b o z _=>⟨o,kp b o z,rfl⟩;have new:∀{b:Addr},s.heap.get? b=none→H b=none∧X.s₀.heap.get? b=none:=fun{b} z=>by
  refine⟨?_,?_⟩
  ·cases q:H b with
   |none=>rfl
   |some u=>obtain⟨o,ho⟩:=oi I.hok q;rw[z]at ho;cases ho
  ·cases q:X.s₀.heap.get? b with
   |none=>rfl
   |some o=>obtain⟨o1,e1⟩:=I.base.there b o q (by rw[hex];simp);rw[z]at e1;cases e1
 have hen:(hideAll s.heap (bf X.stack)).get? e2=none:=by
  cases q:(hideAll s.heap (bf X.stack)).get? e2 with
  |none=>rfl
  |some o=>have:=of_hideAll _ q;rw[hx.new]at this;cases this
 have st1:(hideAll s.heap (bf X.stack)).StaysIn h'':=fun b o z=>kp b o (of_hideAll _ z);refine Xq (base:=hideAll s.heap (bf X.stack)) (L:=X.env.locals) (a0:=.ref t) (outer:=X.outer) hfr (by rw[←hst.1];exact hf1) hst.2 z1 st1 hen rfl rfl rfl fun h4 nt=>?_;obtain⟨st4,fr4,tr4,up4⟩:=nt;have cov:ki (hideAll s.heap (bf X.stack)) X.stack s.heap H h'':=fun b o z nf alt=>by
  have get:∀{o1:Obj},s.heap.get? b=some o1→(hideAll s.heap (bf X.stack)).get? b=some o:=fun{o1} e1=>by
   have:=kp b o1 e1;rw[z]at this;cases this;exact hideAll_get _ e1 nf
  rcases alt with⟨v,hv⟩|⟨o0,e0⟩
  ·obtain⟨o1,e1⟩:=oi I.hok hv;exact get e1
  ·exact get e0
 obtain⟨u4,ok4⟩:=BV (s':={s with heap:=h''}) (h':=h4) I (Un.kept kp) (I.hok.kept kp) cov st4 up4 hf1;have I4:=I.call' (s':={s with heap:=h4}) rfl u4 ok4 I.bare (fun b z=>absurd z (by simp));obtain⟨m,hm,hl⟩:=id I4.loc;refine Qk hk hm hcls fun h5 v5 hn5 hs5=>?_;have I5:=I4.gone (tk:=s.toks+1) hN hi hm hl hn5 hs5;obtain⟨oe2,vs2,T2,oT2,ts2,he2,⟨hc2,h02⟩,hd2,h12,hnT,hTe,hT2,hdT2,h32⟩:=tr4;have nofr:∀{b:Addr} {o:Obj} {us:Array Value},h4.get? b=some o→o.data=.fields us→b∉bf X.stack:=fun{b o us} x y z=>by
  rw[hst.1]at z;obtain⟨_,ob,hob,hn⟩:=fr4.mem z;rw[x]at hob;cases hob;exact hn us y
 have loc:X.env.locals∈bf X.stack:=by rw[hst.1];exact fu.mpr ⟨X.env,.head _,hst.2⟩
 have nl:∀{b:Addr} {o:Obj} {us:Array Value},h4.get? b=some o→o.data=.fields us→h5.get? b=some o:=fun{b o us} x y=>(hs5.2 b fun z=>nofr x y (z▸loc)).trans x;have nT:s.heap.get? T2=none:=by
  cases q:s.heap.get? T2 with
  |none=>rfl
  |some o=>have:=hideAll_get _ q (nofr hT2 hdT2);rw[hnT]at this;cases this
 unfold AA;refine aE (gF (nl he2 hd2) hd2 h12 ?_)
 dsimp only
 rw[if_neg (show¬((aZ T2==cE)=true)from by simp),hst.2];refine aE (IL (nl he2 hd2) hd2 h12 (nl hT2 hdT2) hdT2 h32 fun h6 k6=>AR ?_);refine Qm (base:=hideAll s.heap (bf X.stack)) hst.2 ⟨oe2,vs2,T2,oT2,ts2,k6 _ _ (nl he2 hd2),⟨hc2,h02⟩,hd2,h12,hnT,hTe,k6 _ _ (nl hT2 hdT2),hdT2,h32⟩ ?_;unfold vI;refine aE (gF (k6 _ _ (nl he2 hd2)) hd2 h12 ?_)
 dsimp only
 rw[if_neg (show¬((aZ T2==cE)=true)from by simp),hst.2];refine IL (k6 _ _ (nl he2 hd2)) hd2 h12 (k6 _ _ (nl hT2 hdT2)) hdT2 h32 fun h7 k7=>?_;have I6:=I5.kept (t':=s.toks+1) k6;have I7:=I6.kept (t':=s.toks+1) k7;exact out _ _ T2 oe2 oT2 vs2 ts2 _ I7 (k7 _ _ (k6 _ _ (nl he2 hd2))) hc2 hd2 h02 h12 hTe (k7 _ _ (k6 _ _ (nl hT2 hdT2))) hdT2 h32 (new hx.new).1 (new nT).1 (new hx.new).2 (new nT).2
end
section
variable{X:Cx}{aa:List (Addr×Obj)}{σ : St}{H:Hp}{s:Shared}{b:Addr}{h':Heap}
theorem ag.besides(I:ag X aa σ H s)(h0:X.s₀.heap.get? b=none)(hp:∀p∈X.pn++aa,p.1≠b)(hH:H b=none)(hl:b≠X.env.locals)(hf:b∉X.fs)(hc:∀x c,X.env.cells.lookup x=some c→c≠b)(k:∀c,c≠b→h'.get? c=s.heap.get? c):ag X aa σ H {s with heap:=h'}:=by
 have nb:∀{c:Addr} {o:Obj},X.s₀.heap.get? c=some o→c≠b:=fun{c o} z w=>by rw[w,h0]at z;cases z
 have nt:∀{c:Addr} {u:HO},H c=some u→c≠b:=fun{c u} z w=>by rw[w,hH]at z;cases z
 refine⟨I.ok,I.os,I.bare,⟨fun c o e n n2 hx=>?_,fun c o e n n2 hx=>?_,I.base.free,fun c o e hx=>?_,I.base.tups,I.base.frzs,I.base.tbls⟩,?_,fun x c e=>?_,I.free,I.freeC,fun p hpp=>?_,?_,I.len⟩
 ·exact(k c (nb e)).trans (I.base.keep c o e n n2 hx)
 ·obtain⟨sl,e1⟩:=I.base.slot c o e n n2 hx;exact⟨sl,(k c (nb e)).trans e1⟩
 ·obtain⟨o',e1⟩:=I.base.there c o e hx;exact⟨o',(k c (nb e)).trans e1⟩
 ·obtain⟨m,hn,hl'⟩:=I.loc;obtain⟨o,es,ep,e,r⟩:=hn;refine⟨m,⟨o,es,ep,(k _ (cH hl)).trans e,r⟩,fun i x v e1 e2 e3=>?_⟩;obtain⟨u,ru,q⟩:=hl' i x v e1 e2 e3;refine⟨u,ru,?_⟩;rcases q with z|⟨k1,c,e,o,ho,hv⟩
  ·exact .inl z
  ·exact .inr ⟨k1,c,e,o,(k c (hc x c e)).trans ho,hv⟩
 ·obtain⟨v,o,ho,hv⟩:=I.cell x c e;exact⟨v,o,(k c (hc x c e)).trans ho,hv⟩
 ·obtain⟨h1,h2⟩:=I.pin p hpp;exact⟨(k _ (hp p hpp)).trans h1,h2⟩
 ·exact I.hok.tracked fun c u o e z=>(k c (nt e)).trans z
end
section
variable{P:aG}{w:av}{K:aq}{mg:Str→Option Value}{base:Heap}{N:List Str}{qual:Str}{scope:cQ}{f:Addr}{cd:Value}{A:bH}{outer:List Env}{s₀ : Shared}{H₀ : Hp}{E:XK}
theorem LK:tz (aR (aC P w) P w K mg base N qual scope f cd A outer s₀ H₀ E) [] (fun C k _ _ H=>E C k H):=by
 intro e T oe oT C k aa s σ H D tr c2 hn hnp hT0 I q;obtain⟨he,hne,_⟩:=I.pin (e,oe) (bZ _ (bZ _ (.head _)));obtain⟨hT,hnT,hlT,hfT,hcT⟩:=I.pin (T,oT) (bZ _ (bZ _ (.tail _ (.head _))));obtain⟨vs,ts,hd,h1,hdT,h3⟩:=tr.ex;have hsz:3<ts.size:=(jn.mp h3).1;show ax _ _ (AA _ _ _) _ _ _;unfold AA;refine aE (gF he hd h1 ?_)
 dsimp only
 rw[if_neg (show¬((aZ T==cE)=true)from by simp)];unfold mi;refine aE (aE (gF he hd h1 ?_));rw[if_pos (show(aZ T != cE)=true from by simp)];refine jX hT hdT hsz (AR ?_);have other:∀b,b≠T→(s.heap.update T (eE (·.setIfInBounds 3 (rawInt (aR (aC P w) P w K mg base N qual scope f cd A outer s₀ H₀ E).env.locals)))).get? b=s.heap.get? b:=fun b hb=>iB _ _ (cH hb);have self:=kI (eE (·.setIfInBounds 3 (rawInt (aR (aC P w) P w K mg base N qual scope f cd A outer s₀ H₀ E).env.locals))) hT (rH (lY hdT _));have J:=I.unpinned.besides (b:=T) (h':=s.heap.update T (eE (·.setIfInBounds 3 (rawInt (aR (aC P w) P w K mg base N qual scope f cd A outer s₀ H₀ E).env.locals)))) hT0.1 hT0.2 hnT hlT hfT (fun x c z w'=>by
   obtain⟨v,o,ho,hv⟩:=I.cell x c z;rw[w',hT]at ho;cases ho;rw[hdT]at hv;cases hv) other
 obtain⟨a0,h0⟩:∃a0,vs[0]?=some a0:=⟨_,Array.getElem?_eq_getElem (Nat.lt_of_succ_lt (jn.mp h1).1)⟩;refine IM J ((other e (cH tr.ne)).trans he) tr.cls hd h0 h1 tr.ne self (lY hdT _) (by simp[hsz]) hne hnT hn hT0.1 (fun z=>?_) q;obtain⟨vs',y1,y2⟩:=c2 z;exact⟨oe,vs',(other e (cH tr.ne)).trans he,y1,y2⟩
def K8(K:Frag)(E:XK)(i:Nat)(C2:Addr)(t:TA):Value→Option Addr→TS:=fun C k _ σ H=>k=none∧(∃Ca,C=.ref Ca∧iH K Ca)∧∀e,t (σ.set i (some (.ref e))) H fun vs H1=>vs.length≤sizeLine∧E (.ref C2) (some 0) H1
theorem JL{n x:Str}{i:Nat}{C2:Addr}{np np2 cpos rpos pos:Pos}{a:Expr}{es:List Expr}{t:TA}(hN:N.Nodup)(hi:N[i]?=some n)(hk:scope.names.lookup n=some .local)(q:iH K C2)(hg:Gl (aR (aC P w) P w K mg base N qual scope f cd A outer s₀ H₀ E) x)(hm:mg x=some (.ref C2))
  (ha:∀e,PA ((aR (aC P w) P w K mg base N qual scope f cd A outer s₀ H₀ E).markC e) (a::es) t) (hdb:(x==("__debug__" : Str))=false:=by decide) (hdn:(n==("__debug__" : Str))=false:=by decide)
  (hse:bz (a::es) (aR (aC P w) P w K mg base N qual scope f cd A outer s₀ H₀ E).env=(false,eval a (aR (aC P w) P w K mg base N qual scope f cd A outer s₀ H₀ E).env)::bz es (aR (aC P w) P w K mg base N qual scope f cd A outer s₀ H₀ E).env:=by rfl)
  (hpl:(dN cpos (bz es (aR (aC P w) P w K mg base N qual scope f cd A outer s₀ H₀ E).env)).any (·.1)=false:=by rfl) :
  Ki (aR (aC P w) P w K mg base N qual scope f cd A outer s₀ H₀ E) (some n) [.Raise (some (.Call (.Name x np) (a::es) [] cpos)) (some (.Name n np2)) rpos] pos (K8 K E i C2 t):=by
 intro e T oe oT C k aa s σ H D tr c2 hn hnp I h;obtain⟨rfl,⟨Ca,rfl,qa⟩,h⟩:=h;have ok:=I.ok;obtain⟨he,_⟩:=I.pin (e,oe) (bZ _ (bZ _ (.head _)));obtain⟨hT,_⟩:=I.pin (T,oT) (bZ _ (bZ _ (.tail _ (.head _))));refine PQ (L9 tr he hT fun h' k=>?_);have I':=I.kept (h':=h') (t':=s.toks) k;have hcls:((aR (aC P w) P w K mg base N qual scope f cd A outer s₀ H₀ E).env.scope.kind == .class||((aR (aC P w) P w K mg base N qual scope f cd A outer s₀ H₀ E).env.scope.kind == .module&&(aR (aC P w) P w K mg base N qual scope f cd A outer s₀ H₀ E).env.locals != (aR (aC P w) P w K mg base N qual scope f cd A outer s₀ H₀ E).env.globals))=false:=by rw[ok.kind];rfl
 refine sY (v:=.ref e) (u:=.ref e) I' hN hi (.inl hk) rfl (fun s3 I3=>?_) (.inr hk);have Im:=I3.markC e;obtain⟨tl,N',nm,qn,bs,hdct,sn,sub,ab,col,dd,k0,k1,k2,k3,k5,mN,hC,hN',hni,TL⟩:=AZ ok.mod.kin q;obtain⟨tl',N1,nm',qn',bs',hdct',sn',sub',ab',col',dd',j0,j1,j2,j3,j5,mN',hCa,_,_,TLa⟩:=AZ ok.mod.kin qa;refine Gh (Q5 (C:=C2) (nm:=nm) (q:=qn) (N:=N') (bs:=bs) (bm:=tl) (hdct:=hdct) (sn:=sn) (sub:=sub) (ab:=ab) (col:=col) (dd:=dd) (k0:=k0) (k1:=k1) (k2:=k2) (k3:=k3) (k5:=k5)
  (C':=Ca) (nm':=nm') (q':=qn') (N':=N1) (bs':=bs') (bm':=tl') (hdct':=hdct') (sn':=sn') (sub':=sub') (ab':=ab') (col':=col') (dd':=dd') (j0:=j0) (j1:=j1) (j2:=j2) (j3:=j3) (j5:=j5) (newId':="ValueError.__new__")
  pU (by decide) pU (mN:=mN) (TL.hasType pU.hasBase) (TLa.hasType pU.hasBase) rfl (by rw[hse];show(false||(dN cpos (bz es _)).any (·.1))=false;rw[hpl];rfl) hni (mV Im hg hm ⟨rfl,?_⟩ hdb))
 have ha':=ha e cpos _ s3 _ H _ Im (h e);rw[show((aR (aC P w) P w K mg base N qual scope f cd A outer s₀ H₀ E).markC e).env=(aR (aC P w) P w K mg base N qual scope f cd A outer s₀ H₀ E).env from rfl]at ha';rw[hse]at ha'⊢;refine Ff (bT ha' (fun vs s₂ aA=>?_) fun _ _ y=>ej y);obtain⟨xs,H2,I2,r2,z,q2⟩:=aA;have I2u:=I2.unmark ok;obtain⟨heE,_⟩:=I2u.pin (e,oe) (bZ _ (bZ _ (.head _)));obtain⟨vs2,hd2,h22⟩:=c2 rfl;refine⟨rfl,by rw[←r2.length];exact z,I2.bk _ _ hC,hN'.keeps I2.bk,TL.keeps I2.bk,I2.bk _ _ hCa,⟨oe,heE,tr.cls⟩,⟨oe,vs2,heE,hd2,h22⟩,fun h' e2 hx=>?_⟩;have J:=I2u.unpinned.kept (t':=s₂.toks) hx.keeps;obtain⟨m,hn',hl⟩:=J.loc;have hiσ : i < σ.length:=by rw[I.len];exact(gO.mp hi).1
 obtain⟨u,ru,l⟩:=hl i n (.ref e) hi (by rw[Ad hiσ]) (.inl hk);obtain rfl:u=.ref e:=ru;have fin:∀tt h'',h''.get? e2=some (uZ C2 tt e)→(∀b o,b≠e2→h'.get? b=some o→h''.get? b=some o)→NY (au P w) ((aR (aC P w) P w K mg base N qual scope f cd A outer s₀ H₀ E).A.mark (some (.ref e))) (aR (aC P w) P w K mg base N qual scope f cd A outer s₀ H₀ E).env n pos (jV (au P w) ((aR (aC P w) P w K mg base N qual scope f cd A outer s₀ H₀ E).A.mark (some (.ref e))) (aR (aC P w) P w K mg base N qual scope f cd A outer s₀ H₀ E).env (vI (au P w) (aR (aC P w) P w K mg base N qual scope f cd A outer s₀ H₀ E).A (aR (aC P w) P w K mg base N qual scope f cd A outer s₀ H₀ E).env (aR (aC P w) P w K mg base N qual scope f cd A outer s₀ H₀ E).xe)) (.ref e2) {s₂ with heap:=h''}:=
  fun tt h'' z1 z2=>Vv ⟨rfl,rfl⟩ rfl hN hi hk I2u.unpinned hx z1 z2 fun σ' s' T oe oT vs ts a0 J he hcl hd h0 h1 hTe hT hdT h3 ne nT n0e n0T=>IM (k:=some 0) J he hcl hd h0 h1 hTe hT hdT h3 ne nT n0e n0T (fun z=>nomatch z) q2
 rcases l with⟨hk1,hm1⟩|⟨hk1,_⟩
 ·exact AM (Gi ok.kind hk1 hn' hm1 ⟨rfl,rfl,fun tt h'' z1 z2=>fin tt h'' z1 z2⟩) hdn
 ·rcases hk1 with z|z
  ·exact absurd ((show scope.names.lookup n=some .cell from z).symm.trans hk) (by intro w;cases w)
  ·exact absurd ((show scope.names.lookup n=some .free from z).symm.trans hk) (by intro w;cases w)
end
end L2
namespace L2
open PySem PySem.Spec PyProof.Rows PySem.W
section
variable{t:(St→XK)→TS}{th:Value→Option Addr→TS}{D:fi}{σ : St}{H:Hp}{ta:TA}{E:XK}
theorem yu(h:t (fun σ' C k H'=>th C k D σ' H') D σ H):LA t th D σ H:=h
theorem lI{K:Frag}{tt:TE}{su re:Value→Option Addr→TS}{C:Value}{k:Option Addr}(h:tt σ H fun v H1=>∃cs b,wJ H1 v cs∧exmAny K C cs=some b∧if b=true then su C k D σ H1 else re C k D σ H1):IV K tt su re C k D σ H:=h
theorem mR{K:Frag}{i:Nat}{C2 Ca:Addr}(q:iH K Ca)(h:∀e,ta (σ.set i (some (.ref e))) H fun vs H1=>vs.length≤sizeLine∧E (.ref C2) (some 0) H1):K8 K E i C2 ta (.ref Ca) none D σ H:=⟨rfl,⟨Ca,rfl,q⟩,h⟩
end
end L2
namespace L2
open PySem PySem.Spec PyProof.Rows PySem.W
structure eY(K:Frag)(C:Addr):Prop where
 cls:(clsIn K C).isSome=true
 ga:findIn K (.ref C) "__getattribute__" = some (some (.builtin "BaseException.__getattribute__"))
 nga:findIn K (.ref C) "__getattr__" = some none
 cl:findIn K (.ref C) "__class__" = some (some (.builtin "object.__class__"))
 sB:subIn K (.ref C) (.type "BaseException")=some true
 sO:subIn K (.ref C) (.type "object")=some true
theorem eY.of{K:Frag}{C:Addr}(q:iH K C)(ga:findIn K (.ref C) "__getattribute__" = some (some (.builtin "BaseException.__getattribute__")))(nga:findIn K (.ref C) "__getattr__" = some none)(cl:findIn K (.ref C) "__class__" = some (some (.builtin "object.__class__")))
  (sB:mroIn K C (.type "BaseException")=some true) (sO:mroIn K C (.type "object")=some true):eY K C:=by
 refine⟨?_,ga,nga,cl,sB,sO⟩;exact IO q fun _ _ _ ho _=>by
  unfold clsIn;rw[ho];rfl
section
variable{prog:aG}{w:av}{A:bH}{E:Value→Shared→Prop}{h:Heap}{g:Array zR}{d:Drawn}{t:Nat}{os:bL}{a C:Addr}{o:Obj}{K:Frag}
theorem WZ{R:nD→Shared→Prop}(Z:eY K C)(X:K.In h)(hx:h.get? a=some o)(hc:o.cls=.ref C)(hq:R (.ok (.ret (.ref C))) ⟨h,g,d,t,os⟩):
  gE (au prog w) A (.call (.builtin "getset_descriptor.__get__") ⟨[.builtin "object.__class__",.ref a,.ref C],[]⟩) R ⟨h,g,d,t,os⟩:=by
 have hT5:(⟨h,g,d,t,os⟩:Shared).TypeIs (.builtin "object.__class__") "getset_descriptor":=Fo;have LO:Looks (au prog w) h (isSubtype (.ref C) (.type (".".intercalate ("object.__class__".cutAt '.').dropLast))) true:=by rw[F.owner_object_class];exact looks_subIn X Z.sO
 refine PN Fk.plain F.entry_gs_get (Fk.check _ _ _ _ _ _ _ _ hT5 (F.args_gs_get _ _ _) ?_)
 repeat (any_goals (first|assumption|(with_reducible refine nM hx ?_;rw[hc])|with_reducible refine LO.at ?_|wp_step))
 refine⟨Code.quiet_builtin _ (by k_go),PM F.entry_object_class ?_⟩
 repeat (any_goals (first|assumption|(with_reducible refine nM hx ?_;rw[hc])|wp_step))
theorem Za{tk:Tok}{Q:Fin→Shared→Prop}(Z:eY K C)(X:K.In h)(hx:h.get? a=some o)(hc:o.cls=.ref C)(hq:Q (.done (.ret (.ref C))) ⟨h,g,d,t,os⟩):
  ax (au prog w) A (Builtin.«object.__getattribute__» ⟨[.ref a,.str "__class__" tk],[]⟩) Q E ⟨h,g,d,t,os⟩:=by
 have hT5:(⟨h,g,d,t,os⟩:Shared).TypeIs (.builtin "object.__class__") "getset_descriptor":=Fo;have f4:=looks_findIn (M:=au prog w) X Z.cl;have f5:=Fo;have f6:=Fk.lookup;have f7:=F.slot_gs_set.lookup
 repeat (any_goals (first|assumption|(with_reducible refine nM hx ?_;rw[hc])|with_reducible refine f4.at ?_|wp_step))
 refine WZ Z X hx hc ?_
 repeat (any_goals (first|assumption|wp_step))
theorem WA{M:jq}{nameV:Value}{Q:Unit→Shared→Prop}(Z:eY K C)(X:K.In h)(hx:h.get? a=some o)(hc:o.cls=.ref C)(hq:Q () ⟨h,g,d,t,os⟩):ax M A (checkBuiltinCall "BaseException.__getattribute__" ⟨[.ref a,nameV],[]⟩) Q E ⟨h,g,d,t,os⟩:=by
 have LT:Looks M h (rW (.ref a)) (.ref C):=hc▸(Looks.ld hx).andThen .now;exact check_slot (i:="BaseException.__getattribute__") (owner:="BaseException") (n:="__getattribute__") (by k_go) (by k_go) (LT.andThen (looks_subIn X Z.sB)) (F.args_bexc_ga (.ref a) nameV) hq
theorem acw{tk:Tok}{fill expr:Bool}{Q:Value→Shared→Prop}(Z:eY K C)(X:K.In h)(hx:h.get? a=some o)(hc:o.cls=.ref C)(hq:Q (.ref C) ⟨h,g,d,t,os⟩):
  ax (au prog w) A (getAttrBy (.ref a) (.str "__class__" tk) fill expr) Q E ⟨h,g,d,t,os⟩:=by
 have f3:=Ob.ga.bind (.ref a);have hx0:(expr&&onTheHeap (vE "BaseException.__getattribute__"))=false:=by cases expr<;>rfl
 have hx2:(vE "BaseException.__getattribute__" == vE "object.__getattribute__")=false:=by k_go
 have hx1:(onTheHeap (aZ C)&&vE "BaseException.__getattribute__" == vE "object.__getattribute__")=false:=by rw[hx2];rfl
 have L1:=looks_findIn (M:=au prog w) X Z.ga;have L2:=looks_findIn (M:=au prog w) X Z.nga
 repeat (any_goals (first|assumption|(with_reducible refine nM hx ?_;rw[hc])|with_reducible refine L1.at ?_|with_reducible refine L2.at ?_|wp_step))
 refine PN Ob.ga.plain F.entry_bexc_ga (WA Z X hx hc (Za Z X hx hc ?_))
 repeat (any_goals (first|assumption|wp_step))
theorem W4{Q:Option Value→Shared→Prop}(Z:eY K C)(X:K.In h)(hx:h.get? a=some o)(hc:o.cls=.ref C)(hq:Q (some (.ref C)) ⟨h,g,d,t+1,os⟩):ax (au prog w) A (getAttr? (.ref a) "__class__") Q E ⟨h,g,d,t,os⟩:=by
 unfold getAttr? getAttrBy?
 repeat (any_goals (first|assumption|with_reducible apply acw Z X hx hc|wp_step))
end
section
variable{K:Frag}{a C:Addr}
theorem abv(Z:eY K C):KitX K (.ref a) (.ref C) (je a (.ref C)) where
 ty:=fun _ _ _ ⟨_,h1,h2⟩=>h2▸(Looks.ld h1).andThen .now
 it:=fun _ _ X _=>by
  have z0:=Z.cls;unfold clsIn at z0;split at z0
  ·rename_i c' d' cd' sl' ho;intro A' Q' E' s' k q;unfold isType loadHead;exact aE (Qj (k _ _ (X _ _ ho)) (wpAny_pure q))
  ·cases z0
 ne:=fun h tp dd its n sl X htp=>by
  have z0:=Z.cls;refine N0.mpr fun q=>?_;have e:C=tp:=Value.ref.inj (beq_iff_eq.mp q);subst e;unfold clsIn at z0;split at z0
  ·rename_i c' d' cd' sl' ho;have z:=(X _ _ ho).symm.trans htp;cases z
  ·cases z0
 ca:=fun{_ _ _ _ _ s} X p k=>by
  obtain⟨h,g,d,t,os⟩:=s;obtain⟨o,h1,h2⟩:=p;exact W4 Z X h1 h2 k
end
def uE(K:Frag)(H:Hp)(x:V)(t:Value):Prop:=de K H x t∨∃a C,x=.ref a∧t=.ref C∧H a=some (.ext (je a (.ref C)))∧eY K C
section
variable{X:Cx}{aa:List (Addr×Obj)}{σ : St}{H:Hp}{s:Shared}
theorem aaJ{x:V}{u t:Value}(I:ag X aa σ H s)(rx:bc x u)(ty:uE X.K H x t):∃P,KitX X.K u t P∧P s.heap∧u≠.builtin "__main__.__loader__#opaque":=by
 rcases ty with ty|⟨a,C,rfl,rfl,ha,hk⟩
 ·cases ty with
  |non=>cases(show u=cE from rx);exact⟨_,kitx_none,jt,fun z=>nomatch z⟩
  |bl y=>cases(show u=nF y from rx);exact⟨_,kitx_bool,jt,fun z=>nomatch z⟩
  |int i=>obtain⟨t,q⟩:=(show∃t,u=nG i t from rx);cases q;exact⟨_,kitx_int,jt,fun z=>nomatch z⟩
  |str y=>obtain⟨t,q⟩:=(show∃t,u=pY y t from rx);cases q;exact⟨_,kitx_str,jt,fun z=>nomatch z⟩
  |flt y=>obtain⟨t,q⟩:=(show∃t,u=AD y t from rx);cases q;exact⟨_,kitx_float,jt,fun z=>nomatch z⟩
  | @lst a xs ea=>
   cases(show u=aZ a from rx);obtain⟨_,_,n,_,h1⟩:=(show cS X.prog X.w H s.heap a (.lst xs)from I.hok a _ ea);exact⟨_,kitx_list,⟨_,h1,rfl⟩,fun z=>nomatch z⟩
  | @frz a ob xs ea=>
   cases(show u=aZ a from rx);obtain⟨_,_,_,n,_,h1⟩:=(show cS X.prog X.w H s.heap a (.frz ob (.lst xs))from I.hok a _ ea);exact⟨_,kitx_list,⟨_,h1,rfl⟩,fun z=>nomatch z⟩
  | @tup a xs ea=>
   cases(show u=aZ a from rx);obtain⟨_,_,_,p⟩:=(show cS X.prog X.w H s.heap a (.tup xs)from I.hok a _ ea);obtain⟨o,h1,h2,_⟩:=p;exact⟨_,kitx_tuple,⟨o,h1,h2⟩,fun z=>nomatch z⟩
  | @dK a aH ea=>
   cases(show u=aZ a from rx);obtain⟨_,_,vs,_,p⟩:=(show cS X.prog X.w H s.heap a (.dK aH)from I.hok a _ ea);obtain⟨o,es,ep,h1,h2,_⟩:=p;exact⟨_,kitx_dict,⟨o,h1,h2.1⟩,fun z=>nomatch z⟩
  | @dT a aH ea=>
   cases(show u=aZ a from rx);obtain⟨_,_,xs,_,o,es,ep,h1,h2,_⟩:=(show cS X.prog X.w H s.heap a (.dT aH)from I.hok a _ ea);exact⟨_,kitx_dict,⟨o,h1,h2.1⟩,fun z=>nomatch z⟩
  | @ins a C dx fs ea cl ha hn htk hm=>
   cases(show u=aZ a from rx);obtain⟨mA,O,_⟩:=uC I.hok ea;obtain⟨od,J,_⟩:=O.look;exact⟨_,kitx_own (cl.get _) cl.hd ha hn htk hm,J,fun z=>nomatch z⟩
 ·cases(show u=aZ a from rx);obtain⟨p,_,_⟩:=(show cS X.prog X.w H s.heap a (.ext (je a (.ref C)))from I.hok a _ ha);exact⟨_,abv hk,p,fun z=>nomatch z⟩
theorem kP{K:Frag}(hK:X.K=K):gu X (.builtin "isinstance") (fun xs H Q=>∃x c t b,xs=[x,c]∧lN c=true∧uE K H x t∧kitOne K t (jC c)=some b∧Q (.bl b) H):=by
 subst hK;intro aa s σ H xs us Q I r h;obtain⟨x,c,t,b,rfl,hc,ty,e,q⟩:=h;obtain⟨u,v,rfl,rx,rc⟩:=wB r;have hv:v=jC c:=by
  cases c<;>first
   |exact rc
   |exact absurd hc bK
 subst hv;obtain⟨P,Z,p,hn⟩:=aaJ I rx ty;exact kia_one Z I.kIn p e hn fun tk=>⟨.bl b,H,I.tok tk,rfl,q⟩
end
section
variable{K:Frag}{H:Hp}{x:V}{t:Value}{b:Bool}{Q:VK}
theorem bV{c:V}(hc:lN c=true)(ty:uE K H x t)(e:kitOne K t (jC c)=some b){R:Bool→Prop}(h:R b):∃x' c' t b,[x,c]=[x',c']∧lN c'=true∧uE K H x' t∧kitOne K t (jC c')=some b∧R b:=⟨x,c,t,b,rfl,hc,ty,e,h⟩
theorem bU{a C:Addr}(ha:H a=some (.ext (je a (.ref C))))(hk:eY K C):uE K H (.ref a) (.ref C):=.inr ⟨a,C,rfl,rfl,ha,hk⟩
end
end L2
namespace L2
open PySem PySem.Spec PyProof.Rows
section
variable{X:Cx}{aa:List (Addr×Obj)}{σ : St}{H:Hp}{s:Shared}{h':Heap}
theorem ag.turnedNew{t':Nat}{ch:List Addr}{p:Addr}{o:HO}(I:ag X aa σ H s)(hf:∀b∈ch,cX X aa H b)(k:∀b o,b∉ch→s.heap.get? b=some o→h'.get? b=some o)(hp:s.heap.objs.size≤p)
  (new:cS X.prog X.w (upd H p o) h' p o):ag X aa σ (upd H p o) {s with heap:=h',toks:=t'}:=by
 have nch:∀b u,H b=some u→b∉ch:=fun b u e z=>by rw[(hf b z).1]at e;cases e
 have hn:H p=none:=I.hok.fresh hp;have nep:∀b u,H b=some u→b≠p:=fun b u e z=>by rw[z,hn]at e;cases e
 have nlt:∀b u,s.heap.get? b=some u→b≠p:=fun b u e z=>by
  have:=bC e;rw[z]at this;exact absurd (dq this hp) (fA _)
 refine I.step (g':=s.gens) (d':=s.drawn) (ch:=ch) (fun b hb=>?_) (fun b o _ _ hc e _=>k b o hc e) (fun b o _ _ hc e _=>⟨o.slots,k b o hc e⟩) (fun b o _ e n=>by rw[bp (nlt b o e)];exact n)
  (fun b o hc e=>⟨o,k b o hc e⟩) (fun b xs e=>by rw[bp (nep b _ e)];exact e) (fun b o u e=>by rw[bp (nep b _ e)];exact e) (fun b ps e=>⟨#[],by rw[bp (nep b _ e),e];simp⟩) (fun m hm=>?_) (fun b u e=>?_) I.bare
 ·obtain⟨f0,f1,f2,f3,f4,f5⟩:=hf b hb;exact⟨f3,f1,f4,f5⟩
 ·obtain⟨o,es,ep,ho,r⟩:=hm;exact⟨o,es,ep,k _ o (fun z=>(hf _ z).2.1 rfl) ho,r⟩
 ·by_cases hb:b=p
  ·subst hb;rw[eB]at e;cases e;exact new
  ·rw[bp hb]at e;refine(I.hok b u e).stay (fun c v hc q=>k c v ?_ q) (fun c q=>by rw[bp (nep c _ q)];exact q) fun c _ q=>by rw[bp (nep c _ q)];exact q
   rcases hc with z|z
   ·rw[z];exact nch b u e
   ·exact nch c _ z
theorem ag.turnedL{t':Nat}{ch:List Addr}(I:ag X aa σ H s)(hf:∀b∈ch,cX X aa H b)(k:∀b o,b∉ch→s.heap.get? b=some o→h'.get? b=some o):ag X aa σ H {s with heap:=h',toks:=t'}:=by
 have nch:∀b u,H b=some u→b∉ch:=fun b u e z=>by rw[(hf b z).1]at e;cases e
 refine I.step (g':=s.gens) (d':=s.drawn) (ch:=ch) (fun b hb=>?_) (fun b o _ _ hc e _=>k b o hc e) (fun b o _ _ hc e _=>⟨o.slots,k b o hc e⟩) (fun _ _ _ _ n=>n)
  (fun b o hc e=>⟨o,k b o hc e⟩) (fun _ _ e=>e) (fun _ _ _ e=>e) (fun b ps e=>⟨#[],by rw[e];simp⟩) (fun m hm=>?_) (fun b u e=>?_) I.bare
 ·obtain⟨f0,f1,f2,f3,f4,f5⟩:=hf b hb;exact⟨f3,f1,f4,f5⟩
 ·obtain⟨o,es,ep,ho,r⟩:=hm;exact⟨o,es,ep,k _ o (fun z=>(hf _ z).2.1 rfl) ho,r⟩
 ·refine(I.hok b u e).stay (fun c v hc q=>k c v ?_ q) (fun _ q=>q) fun _ _ q=>q;rcases hc with z|z
  ·rw[z];exact nch b u e
  ·exact nch c _ z
end
def yk(K:aq)(a b:Addr):It:=
 ⟨fun i H=>∃xs ys x y,ay K H a xs∧xs[i]?=some x∧ay K H b ys∧ys[i]?=some y,
  fun i H v H'=>∃p x y,v=.ref p∧bS H p (.tup [x,y]) H'∧(∀xs,ay K H a xs→xs[i]?=some x)∧∀ys,ay K H b ys→ys[i]?=some y,
  fun i H=>∃xs ys,ay K H a xs∧ay K H b ys∧(xs.length≤i∨ys.length≤i)⟩
def Zn(z TI TO i1 i2 a b:Addr)(i:Nat)(h:Heap):Prop:=IsZip h z TI TO .none∧IsPair h TI (.ref i1) (.ref i2)∧(∃u v,IsPair h TO u v)∧h.IsListIter i1 a i∧h.IsListIter i2 b i
theorem Iw{z TI TO i1 i2 c:Addr}(h:c∈[z,TO,i1,i2]):c∈[z,TI,TO,i1,i2]:=by
 simp only[bu,gA,or_false]at h⊢;rcases h with rfl|rfl|rfl|rfl<;>simp
theorem yJ{G:Prop}(h:∀G':Prop,(G→G')→G'):G:=h G id
theorem acu{P:aG}{w:av}{K:aq}{es:List Expr}{k:Nat}{pos:Pos}{z TI TO i1 i2 a b:Addr}(D:F3 z TI TO i1 i2 a b):qG P w K (.Tuple es k pos) (yk K a b) [z,TI,TO,i1,i2] z (Zn z TI TO i1 i2 a b) where
 mem:=by simp
 obj:=fun i h st c hc=>by
  obtain⟨hz,hTI,⟨u,v,hTO⟩,h1,h2⟩:=st;simp only[bu,gA,or_false]at hc;rcases hc with rfl|rfl|rfl|rfl|rfl
  ·exact⟨_,hz,fun v z=>by cases z⟩
  ·exact⟨_,hTI,fun v z=>by cases z⟩
  ·exact⟨_,hTO,fun v z=>by cases z⟩
  ·obtain⟨o,e,c,d⟩:=h1;exact⟨o,e,fun v z=>by rw[d]at z;cases z⟩
  ·obtain⟨o,e,c,d⟩:=h2;exact⟨o,e,fun v z=>by rw[d]at z;cases z⟩
 keep:=fun i h h' st kk=>by
  obtain⟨hz,hTI,⟨u,v,hTO⟩,h1,h2⟩:=st;exact⟨kk z (by simp) _ hz,kk TI (by simp) _ hTI,⟨u,v,kk TO (by simp) _ hTO⟩,h1.at fun o e=>kk i1 (by simp) o e,h2.at fun o e=>kk i2 (by simp) o e⟩
 item:=by
  intro X hP hw hK hc i aa s σ H E I hf st hg;subst hP hw hK;refine yJ fun _ kG=>?_;obtain⟨xs,ys,x,y,hq1,hx,hq2,hy⟩:=hg;obtain⟨its1,rv1,p1,hz1⟩:=I.list hq1;obtain⟨its2,rv2,p2,hz2⟩:=I.list hq2;obtain⟨u1,hu1,ru1⟩:=rv1.get hx;obtain⟨u2,hu2,ru2⟩:=rv2.get hy;obtain⟨hz,hTI,⟨u,v,hTO⟩,h1,h2⟩:=st;refine kG ?_;refine wpAny_pyNext_zip_item D hz hTI hTO h1 h2 p1.isList p2.isList (x:=u1) (y:=u2) (by simpa using hu1) (by simpa using hu2) fun h' a1 a2 a3 a4 a5 a6 hk=>?_;refine⟨_,rfl,wpAny_letOwnedTupleGo_zip a1 fun h2' hz' hs'=>?_⟩;have fr:∀c,c∈[z,TO,i1,i2]→cX X aa H c:=fun c hcm=>hf c (Iw hcm);have kk:∀c o,c∉[z,TO,i1,i2]→s.heap.get? c=some o→h2'.get? c=some o:=fun c o hn e=>
   hs'.extBut _ _ (fun q=>hn (q▸.head _)) (hk c o (fun q=>hn (q▸.head _)) (fun q=>hn (q▸.tail _ (.head _))) (fun q=>hn (q▸.tail _ (.tail _ (.head _)))) (fun q=>hn (q▸.tail _ (.tail _ (.tail _ (.head _))))) e)
  have nz:s.heap.objs.size≠z:=jR (bC hz);have t2:h2'.get? s.heap.objs.size=some {cls:=.type "tuple",data:=.seq #[u1,u2]}:=hs'.extBut _ _ nz a5;have I2:=I.turnedNew (h':=h2') (t':=s.toks) (o:=.tup [x,y]) fr kk (bv _) ⟨by show 2≤sizeLine;decide,[u1,u2],.cons ru1 (.cons ru2 .nil),_,t2,rfl,_,rfl⟩;have fn:∀c∈[z,TI,TO,i1,i2],upd H s.heap.objs.size (.tup [x,y]) c=none:=fun c hcm=>by
   have h0:=(hf c hcm).1;rw[bp (fun q=>?_)]
   ·exact h0
   ·subst q;simp only[bu,gA,or_false]at hcm;rcases hcm with e|e|e|e|e
    ·exact nz e
    ·exact absurd (bC (e▸hTI)) (fA _)
    ·exact absurd (bC (e▸hTO)) (fA _)
    ·obtain⟨o,eo,_⟩:=h1;exact absurd (bC (e▸eo)) (fA _)
    ·obtain⟨o,eo,_⟩:=h2;exact absurd (bC (e▸eo)) (fA _)
  refine⟨.ref s.heap.objs.size,_,I2,rfl,⟨_,x,y,rfl,bS.mk' (I.hok.fresh (bv _)) _,fun xs' h=>by rw[I.list_inj h hq1];exact hx,fun ys' h=>by rw[I.list_inj h hq2];exact hy⟩,?_,fn⟩;exact⟨hz',hs'.extBut _ _ D.TIz (hk _ _ D.TIz D.TITO D.TIi1 D.TIi2 hTI),⟨_,_,hs'.extBut _ _ D.TOz a2⟩,a3.extBut hs'.extBut D.i1z,a4.extBut hs'.extBut D.i2z⟩
 done:=by
  intro X hP hw hK hc i aa s σ H E I hf st hg;subst hP hw hK;refine yJ fun _ kG=>?_;obtain⟨xs,ys,hq1,hq2,hx⟩:=hg;obtain⟨its1,rv1,p1,hz1⟩:=I.list hq1;obtain⟨its2,rv2,p2,hz2⟩:=I.list hq2;have l1:=rv1.length;have l2:=rv2.length;obtain⟨hz,hTI,⟨u,v,hTO⟩,h1,h2⟩:=st;have fr:∀c,c∈[z,TO,i1,i2]→cX X aa H c:=fun c hcm=>hf c (Iw hcm);refine kG ?_;refine wpAny_pyNext_zip_end (I.ok.hd hc) D hz hTI hTO h1 h2 p1.isList p2.isList ?_ fun h' hk=>⟨rfl,I.turnedL (t':=s.toks) fr fun c o hn e=>hk c o (fun q=>hn (q▸.head _)) (fun q=>hn (q▸.tail _ (.head _))) (fun q=>hn (q▸.tail _ (.tail _ (.head _)))) (fun q=>hn (q▸.tail _ (.tail _ (.tail _ (.head _))))) e⟩;rcases hx with hx|hx
  ·exact .inl (by simp;omega)
  ·exact .inr (by simp;omega)
 self:=fun A i s Q E st q=>Qp st.1 q
theorem RQ{n x y:Nat}(hx:x<n)(hy:y<n):F3 (n+4) (n+2) (n+3) n (n+1) x y:=by
 constructor<;>first|exact cC (OX (by decide))|exact jR (OX (by decide))|exact cC hx|exact cC hy|exact jR hx|exact jR hy|exact cC (Am _ hx)|exact cC (Am _ hy)|exact jR (Am _ hx)|exact jR (Am _ hy)|(show@Ne Nat _ _;omega)
section
variable{X:Cx}{es:List Expr}{k:Nat}{tpos:Pos}
def M8(K:aq)(ta:TA):TI:=fun σ H R=>ta σ H fun vs H1=>∃a b,vs=[.ref a,.ref b]∧(∃xs,ay K H1 a xs)∧(∃ys,ay K H1 b ys)∧R (yk K a b) H1
theorem Y4:fU "zip" = some (.type "zip"):=by k_go
theorem VZ{K:aq}{a b:Expr}{ta:TA}{p pos:Pos}(hK:X.K=K)(hg:Gl X "zip")(hm:X.mg "zip" = none)(ha:PA X [a,b] ta)(hs:bz [a,b] X.env=[(false,eval a X.env),(false,eval b X.env)]:=by rfl)(hs2:bz [b] X.env=[(false,eval b X.env)]:=by rfl):
  PI X (.Tuple es k tpos) (.Call (.Name "zip" p) [a,b] [] pos) (M8 K ta):=by
 subst hK;intro aa s σ H R I h;refine Call_ (qf I hg hm Y4 (Aq (aK (ha pos aa s σ H _ I h) fun us s1 aA=>?_) (by rw[hs,hs2]) (by rw[hs2];rfl)));obtain⟨vs,H1,I1,r1,q1⟩:=aA;obtain⟨l1,l2,e,⟨xs,hq1⟩,⟨ys,hq2⟩,q⟩:=q1;subst e;obtain⟨u,v,rfl,ru,rv⟩:=wB r1;obtain rfl:u=aZ l1:=ru;obtain rfl:v=aZ l2:=rv;obtain⟨its1,rv1,p1,hz1⟩:=I1.list hq1;obtain⟨its2,rv2,p2,hz2⟩:=I1.list hq2;have lt1:l1<s1.heap.objs.size:=by obtain⟨o,e,_⟩:=p1.isList;exact bC e
 have lt2:l2<s1.heap.objs.size:=by obtain⟨o,e,_⟩:=p2.isList;exact bC e
 refine call_zip_2 p1.isList p2.isList fun h' c1 c2 c3 c4 c5 c6 c7=>?_;have D:F3 (s1.heap.objs.size+4) (s1.heap.objs.size+2) (s1.heap.objs.size+3) s1.heap.objs.size (s1.heap.objs.size+1) l1 l2:=RQ lt1 lt2;refine Qp (s:={s1 with heap:=h'}) c1 ?_;refine⟨_,_,_,_,H1,rfl,I1.kept (t':=s1.toks) c7,acu D,⟨c1,c2,⟨_,_,c3⟩,c4,c5⟩,fun c hc=>?_,q⟩;have hge:s1.heap.objs.size≤c:=by
  simp only[bu,gA,or_false]at hc;rcases hc with rfl|rfl|rfl|rfl|rfl<;>(show@LE.le Nat _ _ _;omega)
 exact I1.fpOk hge (I1.hok.fresh hge)
theorem Rn{K:aq}{ta:TA}{σ : St}{H:Hp}{R:It→Hp→Prop}(h:ta σ H fun vs H1=>∃a b,vs=[.ref a,.ref b]∧(∃xs,ay K H1 a xs)∧(∃ys,ay K H1 b ys)∧R (yk K a b) H1):M8 K ta σ H R:=h
end
theorem CA:∀{ns:List Int} {us:List Value},aP (ns.map V.int) us→m5 us ns
 |[],_,.nil=>.nil
 |n::ns,u::us,.cons r t=>by
  obtain⟨k,rfl⟩:=(show∃k,u=nG n k from r);exact .cons n k (CA t)
theorem Mn:∀{us:List Value} {ns:List Int},m5 us ns→aP (ns.map V.int) us
 |_,_,.nil=>.nil
 |_,_,.cons n k t=>.cons ⟨k,rfl⟩ (Mn t)
section
variable{X:Cx}
theorem Vg{K:aq}(hK:X.K=K):gu X (.builtin "sorted") (fun xs H Q=>∃(a:Addr) (ns:List Int),xs=[.ref a]∧ay K H a (ns.map V.int)∧ns.length<64∧∀(ns':List Int) (p:Addr) (H':Hp),ns'.Perm ns→ns'.Pairwise (·≤·)→bS H p (.lst (ns'.map V.int)) H'→Q (.ref p) H'):=by
 subst hK;intro aa s σ H xs us Q I r h;obtain⟨a,ns,rfl,hq,hl,q⟩:=h;obtain⟨u,rfl,ru⟩:=iE r;obtain rfl:u=aZ a:=ru;obtain⟨its,rv,p,hz⟩:=I.list hq;have hln:its.length=ns.length:=by rw[←rv.length,bo]
 refine sorted_ints p.isList (CA rv) (by omega) fun out ns' a1 a2 a3=>?_;obtain⟨e,he⟩:=sortedAll_at s.heap its out;have hzz:(ns'.map V.int).length≤sizeLine:=by rw[bo,a2.length_eq];rw[bo]at hz;exact hz
 have I2:=I.laid (a:=s.heap.objs.size+1) (o:=.lst (ns'.map V.int)) (t':=s.toks) (fun _ _ z=>sortedAll_old (vs:=its) (out:=out) z) (pR _) ⟨hzz,out.toList,e,Mn a1,he⟩;exact⟨.ref (s.heap.objs.size+1),_,I2,rfl,q ns' _ _ a2 a3 (bS.mk' (I.hok.fresh (pR _)) _)⟩
theorem Wg:fU "sorted" = some (.builtin "sorted"):=by k_go
theorem Uc{K:aq}{H:Hp}{a:Addr}{ns:List Int}{R:Addr→Hp→Prop}(hq:ay K H a (ns.map V.int))(hl:ns.length<64)(h:∀(ns':List Int) (p:Addr) (H':Hp),ns'.Perm ns→ns'.Pairwise (·≤·)→bS H p (.lst (ns'.map V.int)) H'→R p H'):
  ∃(a':Addr) (ns:List Int),[V.ref a]=[.ref a']∧ay K H a' (ns.map V.int)∧ns.length<64∧∀(ns':List Int) (p:Addr) (H':Hp),ns'.Perm ns→ns'.Pairwise (·≤·)→bS H p (.lst (ns'.map V.int)) H'→R p H':=⟨a,ns,rfl,hq,hl,h⟩
end
theorem GE:∀{bs:List Bool} {us:List Value},aP (bs.map V.bl) us→∀{i:Nat} {v:Value},us[i]?=some v→∃b,bs[i]?=some b∧v=.bool b
 |[],_,.nil,i,v,h=>by simp at h
 |b::bs,u::us,.cons r t,0,v,h=>by
  simp at h;subst h;exact⟨b,rfl,r⟩
 |b::bs,u::us,.cons r t,i+1,v,h=>by
  obtain⟨c,e,hv⟩:=GE t (i:=i) (v:=v) (by simpa using h);exact⟨c,by simpa using e,hv⟩
section
variable{X:Cx}
end
theorem Dz(val:Nat→Int):∀i,(firstMet val i).Nodup
 | 0=>by rw[firstMet_zero];exact pO
 |i+1=>by
  rw[firstMet_succ];unfold step_dedup;split
  ·exact Dz val i
  ·rename_i h;rw[OO];refine⟨Dz val i,by simp,fun a ha b hb=>?_⟩;rw[dS]at hb;rintro rfl;subst hb;exact h (by rw[z4];exact⟨_,ha,by simp⟩)
theorem XQ(ns:List Int):(fT ns.length).map (fun i=>ns.getD i 0)=ns:=by
 apply List.ext_getElem?;intro i;by_cases h:i<ns.length
 ·simp[h]
 ·simp[h]
theorem Ig(ns:List Int)(k:Int):k∈firstMet (fun i=>ns.getD i 0) ns.length↔k∈ns:=by
 have h:=firstMet_any (fun i=>ns.getD i 0) ns.length k;rw[XQ]at h;have e:∀l:List Int,l.any (· == k)=true↔k∈l:=fun l=>by rw[z4];constructor<;>(intro q;first|(obtain⟨a,ha,hb⟩:=q;rw[beq_iff_eq]at hb;exact hb▸ha)|exact⟨k,q,by simp⟩)
 rw[←e,←e,h]
theorem Jb:∀{ns ds:List Int},ds.Nodup→(∀k∈ds,k∈ns)→ds.length≤ns.length
 |[],ds,_,h=>by
  cases ds with
  |nil=>exact bv _
  |cons d r=>exact absurd (h d (.head _)) (by simp)
 |a::t,ds,nd,h=>by
  have hs:∀k∈ds.erase a,k∈t:=fun k hk=>by
   rw[nd.mem_erase_iff]at hk;rcases bu.mp (h k hk.2)with e|e
   ·exact absurd e hk.1
   ·exact e
  have:=Jb (ns:=t) (nd.erase a) hs;have h2:ds.length≤(ds.erase a).length+1:=by
   rw[List.length_erase];split<;>omega
  rw[bI];omega
theorem M4:∀{ns ds:List Int},ds.Nodup→(∀k,k∈ds↔k∈ns)→ds.length=ns.length→ns.Nodup
 |[],_,_,_,_=>pO
 |a::t,ds,nd,hm,hl=>by
  have hat:a∉t:=fun q=>by
   have:=Jb (ns:=t) nd fun k hk=>by
    rcases bu.mp ((hm k).mp hk)with e|e
    ·exact e▸q
    ·exact e
   rw[bI]at hl;omega
  have had:a∈ds:=(hm a).mpr (.head _);refine vo.mpr ⟨hat,M4 (ds:=ds.erase a) (nd.erase a) (fun k=>?_) ?_⟩
  ·rw[nd.mem_erase_iff,hm k,bu];constructor
   ·rintro⟨h1,h2|h2⟩
    ·exact absurd h2 h1
    ·exact h2
   ·intro h;exact⟨fun e=>hat (e▸h),.inr h⟩
  ·rw[Ag had,hl,bI];omega
theorem XZ{ds ns:List Int}(nd:ds.Nodup)(hm:∀k,k∈ds↔k∈ns):ds.length=ns.length↔ns.Nodup:=
 ⟨M4 nd hm,fun nn=>((List.perm_ext_iff_of_nodup nd nn).mpr fun k=>hm k).length_eq⟩
section
variable{X:Cx}
theorem Xx{K:aq}(hK:X.K=K)(hc:X.calm=true):gu X (.type "set") (fun xs H Q=>∃(a:Addr) (ns:List Int),xs=[.ref a]∧ay K H a (ns.map V.int)∧ns.length<4000∧
  ∀(S:Int→Bool) (n:Nat) (p:Addr) (H':Hp),(∀k,S k=decide (k∈ns))→(n=ns.length↔ns.Nodup)→n≤ns.length→bS H p (.set S n) H'→Q (.ref p) H'):=by
 subst hK;intro aa s σ H xs us Q I r h;obtain⟨a,ns,rfl,hq,hl,q⟩:=h;obtain⟨u,rfl,ru⟩:=iE r;obtain rfl:u=aZ a:=ru;obtain⟨its,rv,p,hz⟩:=I.list hq;have hln:its.toArray.size=ns.length:=by rw[dM,←rv.length,bo]
 have hi:m5 its.toArray.toList ns:=by rw[List.toList_toArray];exact L2.CA rv
 refine call_set_list (I.ok.hd hc) p.isList hi (by rw[hln];show ns.length+1<4096;omega) fun h' tk hS k=>?_;rw[hln]at hS;have I2:=I.laid (a:=s.heap.objs.size) (o:=.set _ _) (t':=tk) (fun b o z=>k b o (bC z) z) (bv _) hS;refine⟨.ref s.heap.objs.size,_,I2,rfl,q _ _ _ _ (fun k=>?_) (XZ (Dz _ _) fun k=>Ig ns k) (firstMet_length_le _ _) (bS.mk' (I.hok.fresh (bv _)) _)⟩;rw[rA,decide_eq_true_iff,z4,←Ig ns k];constructor
 ·rintro⟨x,hx,e⟩;rw[beq_iff_eq]at e;exact e▸hx
 ·intro hk;exact⟨k,hk,by simp⟩
theorem abX:gu X (.builtin "len") (fun xs H Q=>∃(a:Addr) (S:Int→Bool) (n:Nat),xs=[.ref a]∧H a=some (.set S n)∧Q (.int n) H):=by
 intro aa s σ H xs us Q I r h;obtain⟨a,S,n,rfl,ha,q⟩:=h;obtain⟨u,rfl,ru⟩:=iE r;obtain rfl:u=aZ a:=ru;have hS:s.heap.SetOf (intKind X.prog X.w) a S n:=I.hok a _ ha;obtain⟨o,es,ep,t,ho,hex,hd,_,_,hb,hf,rfl⟩:=hS;have hb':es.size<4096:=hb;exact call_len_set ho hex hd hf (by omega) ⟨.int es.size,H,I.tok _,⟨_,rfl⟩,q⟩
theorem abf:fU "set" = some (.type "set"):=by k_go
theorem Tu{K:aq}{H:Hp}{a:Addr}{ns:List Int}{R:Addr→Hp→Prop}(hq:ay K H a (ns.map V.int))(hl:ns.length<4000)(h:∀(S:Int→Bool) (n:Nat) (p:Addr) (H':Hp),(∀k,S k=decide (k∈ns))→(n=ns.length↔ns.Nodup)→n≤ns.length→bS H p (.set S n) H'→R p H'):
  ∃(a':Addr) (ns:List Int),[V.ref a]=[.ref a']∧ay K H a' (ns.map V.int)∧ns.length<4000∧∀(S:Int→Bool) (n:Nat) (p:Addr) (H':Hp),(∀k,S k=decide (k∈ns))→(n=ns.length↔ns.Nodup)→n≤ns.length→bS H p (.set S n) H'→R p H':=⟨a,ns,rfl,hq,hl,h⟩
theorem WW{H:Hp}{a:Addr}{S:Int→Bool}{n:Nat}{R:Nat→Prop}(ha:H a=some (.set S n))(h:R n):∃(a':Addr) (S:Int→Bool) (n:Nat),[V.ref a]=[.ref a']∧H a'=some (.set S n)∧R n:=⟨a,S,n,rfl,ha,h⟩
end
section
variable{X:Cx}
theorem CF:mv X "list.pop" (fun x vs H Q=>∃l ys y,x=.ref l∧vs=[]∧H l=some (.lst (ys++[y]))∧∀H2,cT H l (.lst ys) H2→Q y H2):=
 abR.weak fun x vs H Q aA=>by
  obtain⟨l,ys,y,h1,h2,h3,q⟩:=aA;exact⟨l,ys++[y],y,h1,h2,h3,by simp,by rw[List.dropLast_concat];exact q _ (cT.mk' _ _ _)⟩
theorem ph.weak{t t':sf}(h:ph X t)(k:∀o i v H Q,t' o i v H Q→t o i v H Q):ph X t':=fun aa s σ H o i v ov iv u Q I ro ri rv q=>h aa s σ H o i v ov iv u Q I ro ri rv (k o i v H Q q)
theorem KR:ph X (fun o i v H Q=>∃p xs k,o=.ref p∧i=.int k∧H p=some (.lst xs)∧0≤k∧k.toNat<xs.length∧∀H2,cT H p (.lst (xs.set k.toNat v)) H2→Q H2):=
 WT.weak fun o i v H Q aA=>by
  obtain⟨p,xs,k,h1,h2,h3,h4,h5,q⟩:=aA;exact⟨p,xs,k,k.toNat,h1,h2,h3,by unfold mm;rw[if_pos h4,if_pos (by omega)],q _ (cT.mk' _ _ _)⟩
end
section
variable{H:Hp}{a:Addr}{xs ys:List V}{y:V}{Q:VK}
theorem Cm(h1:H a=some (.lst (ys++[y])))(h:∀H2,cT H a (.lst ys) H2→Q y H2):∃l ys y',V.ref a=.ref l∧([]:List V)=[]∧H l=some (.lst (ys++[y']))∧∀H2,cT H l (.lst ys) H2→Q y' H2:=⟨a,ys,y,rfl,rfl,h1,h⟩
end
structure ue(oN:List Str)(osc:cQ)(scope:cQ)(ow:List Str)(fr:List Str)(ix:List Nat):Prop where
 kind:scope.kind=.function
 cell:∀y∈scope.names,y.2≠.cell
 names:∀y∈scope.names,y.2=.local→scope.names.lookup y.1=some .local
 own:∀y∈ow,scope.names.lookup y=some .local
 nd:(ow++fr).Nodup
 out:∀y∈scope.names,y.2=.free→osc.names.lookup y.1=some .cell∨osc.names.lookup y.1=some .free
 len:fr.length=ix.length
 at_:∀p∈fr.zip ix,oN[p.2]?=some p.1
 fre:∀y∈fr,(y,eA)∈scope.names∧scope.names.lookup y=some .free
abbrev jy(σ : St)(ix:List Nat):St:=ix.map fun j=>(σ[j]?).getD none
def jE(n:Nat)(σ : St)(ix:List Nat):St:=nh n none++jy σ ix
section
variable{X:Cx}{oN:List Str}{osc scope:cQ}{ow:List Str}{fr:List Str}{ix:List Nat}{aa:List (Addr×Obj)}{σ : St}{H:Hp}{s:Shared}
theorem Jd(S:ue oN osc scope ow fr ix)(hosc:X.env.scope=osc)(ok:X.Ok):∀y∈scope.names,y.2=.free→∃c,X.env.cells.lookup y.1=some c:=fun y hy hk=>by
 refine ok.has y.1 ?_;have q:=S.out y hy hk;rw[←hosc]at q;exact q
theorem Ut{h1:Heap}{tk:Nat}{fp:List Addr}{m:Str→Option Value}(S:ue oN osc scope ow fr ix)(hoN:X.N=oN)(hosc:X.env.scope=osc)(I:ag X aa σ H s)
  (hfp:∀b∈fp,cX X aa H b∧b<s.heap.objs.size) (hk:∀b o,s.heap.get? b=some o→h1.get? b=some o) (hn:h1.Ns s.heap.objs.size m) :
  ag (X.comp (ow++fr) scope s.heap.objs.size s H fp aa) [] (jE ow.length σ ix) H {s with heap:=h1,toks:=tk}:=by
 have fre:=Jd S hosc I.ok;have sub:=xW scope.names [] fre (fun _ z=>nomatch z);have cl:∀y c,(dP X.env.cells scope.names []).lookup y=some c→X.env.cells.lookup y=some c:=fun y c e=>sub (y,c) (pV e);have bst:=I.stkSub;have ltL:X.env.locals<s.heap.objs.size:=I.lt;have cellLt:∀y c,X.env.cells.lookup y=some c→c<s.heap.objs.size:=fun y c e=>by
  obtain⟨v,o,ho,_⟩:=I.cell y c e;exact bC ho
 have okc:(X.comp (ow++fr) scope s.heap.objs.size s H fp aa).Ok:=by
  refine⟨I.ok.mod,S.kind,I.ok.glob,I.ok.blt,bv _,fun y z c e1 e2=>I.ok.inj y z c (cl y c e1) (cl z c e2),fun y hy=>?_,(fun y c hf _=>nomatch hf),I.ok.hd,I.ok.frames,vw rfl,fun b hb=>?_,I.bs,cB I.ok.bsz I.sz,fun b o e hb=>?_,fun b hb=>?_,I.stack,I.stkFree⟩
  ·have q:(y,eA)∈scope.names:=by
    rcases hy with hy|hy
    ·exact tU S.cell (.inl rfl) hy
    ·exact tU S.cell (.inr rfl) hy
   exact qy scope.names [] (.inr q)
  ·obtain⟨f,lt⟩:=hfp b hb;exact⟨cC lt,fun y c e=>f.2.2.2.2.1 y c (cl y c e)⟩
  ·obtain⟨f,lt⟩:=hfp b hb;have e1:=(I.ok.bs b o e).1;rcases f.2.2.2.1 with z|z
   ·exact I.ok.noex b o e z
   ·exact absurd (dq (bC e1) z) (fA _)
  ·obtain⟨f,lt⟩:=hfp b hb;intro z;rcases bu.mp (bst b z)with e|e
   ·exact f.2.1 e
   ·exact f.2.2.1 e
 refine⟨okc,rfl,I.bare,Un.kept hk,⟨m,hn,fun i y v e1 e2 e3=>?_⟩,fun y c e=>?_,I.hok.fresh (bv _),fun y c e=>I.freeC y c (cl y c e),fun p hp=>?_,I.hok.kept hk,?_⟩
 ·by_cases hio:i<ow.length
  ·have e2':(nh ow.length none++jy σ ix)[i]?=some (some v):=e2;rw[rE (by rw[lU];exact hio),Fy,if_pos hio]at e2';cases e2'
  ·obtain⟨j,rfl⟩:∃j,i=ow.length+j:=⟨i-ow.length,by omega⟩;have e1':fr[j]?=some y:=by
    have z:(ow++fr)[ow.length+j]?=some y:=e1;rw[iY (by omega),OQ]at z;exact z
   have e2':(ix.map fun j=>(σ[j]?).getD none)[j]?=some (some v):=by
    have z:(nh ow.length none++jy σ ix)[ow.length+j]?=some (some v):=e2;rw[iY (by rw[lU];omega),lU,OQ]at z;exact z
   rw[iC]at e2';cases ei:ix[j]? with
   |none=>rw[ei]at e2';cases e2'
   |some k=>
    rw[ei]at e2';have e4:(σ[k]?).getD none=some v:=cP e2';have e5:σ[k]?=some (some v):=by
     cases e6:σ[k]? with
     |none=>rw[e6]at e4;cases e4
     |some z=>rw[e6]at e4;exact congrArg some e4
    have mem:(y,k)∈fr.zip ix:=by
     have:(fr.zip ix)[j]?=some (y,k):=by rw[FA];exact⟨e1',ei⟩
     exact fw this
    have hN:X.N[k]?=some y:=by rw[hoN];exact S.at_ _ mem
    have hy:y∈fr:=fw e1';obtain⟨f1,f2⟩:=S.fre y hy;have ko:=S.out (y,.free) f1 rfl;rw[←hosc]at ko;obtain⟨m0,hn0,l0⟩:=I.loc;obtain⟨u,ru,lk⟩:=l0 k y v hN e5 (ko.elim (fun z=>.inr (.inl z)) fun z=>.inr (.inr z));refine⟨u,ru,.inr ⟨Gw f2,?_⟩⟩;have⟨c,ec,ic⟩:∃c,X.env.cells.lookup y=some c∧s.heap.IsCell c (some u):=by
     rcases lk with⟨z,_⟩|⟨_,z⟩
     ·have z':X.env.scope.names.lookup y=some .local:=z;rcases ko with q|q
      ·rw[show X.env.scope.names.lookup (y,eA).1=X.env.scope.names.lookup y from rfl,z']at q;cases q
      ·rw[show X.env.scope.names.lookup (y,eA).1=X.env.scope.names.lookup y from rfl,z']at q;cases q
     ·exact z
    obtain⟨c',ec'⟩:=qy (cells:=X.env.cells) scope.names [] (.inr f1);have:=cl y c' ec';rw[ec]at this;cases this;obtain⟨o,ho,hd⟩:=ic;exact⟨c,ec',o,hk c o ho,hd⟩
 ·obtain⟨v,o,ho,hd⟩:=I.cell y c (cl y c e);exact⟨v,o,hk c o ho,hd⟩
 ·have hp':p∈X.pn++aa:=by
   have:p∈(X.pn++aa)++[]:=hp;rw[gg]at this;exact this
  obtain⟨e,n,ne,nf,d⟩:=I.pin p hp';refine⟨hk _ _ e,n,cC (bC e),fun z=>?_,d⟩;rcases bu.mp (bst p.1 z)with q|q
  ·exact ne q
  ·exact nf q
 ·show(jE ow.length σ ix).length=(ow++fr).length;unfold jE jy;rw[dm,dm,lU,bo,S.len]
theorem U6{fp:List Addr}{σ':St}{H':Hp}{s':Shared}(S:ue oN osc scope ow fr ix)(hosc:X.env.scope=osc)(I:ag X aa σ H s)
  (hfp:∀b∈fp,cX X aa H b∧b<s.heap.objs.size) {pl:List (Addr×Obj)} (J:ag (X.comp (ow++fr) scope s.heap.objs.size s H fp aa) pl σ' H' s') :
  ag X aa σ H' s'∧cX X aa H' s.heap.objs.size∧∃m,s'.heap.Ns s.heap.objs.size m:=by
 refine⟨I.call' (ch:=fp) J.os J.base J.hok J.bare fun b hb=>?_,?_,?_⟩
 ·obtain⟨f,lt⟩:=hfp b hb;exact⟨f.2.2.2.1,f.2.1,f.2.2.2.2.1,f.2.2.2.2.2⟩
 ·exact I.fpOk (bv _) J.free
 ·obtain⟨m,hn,_⟩:=J.loc;exact⟨m,hn⟩
end
def uR(n:Nat)(g:TG)(tc:TT)(te:TE)(ix:List Nat)(σ : St)(R:Addr→Hp→Prop)(J:It)(H1:Hp):Prop:=∀l H2,bS H1 l (.lst []) H2→
 ∃W:Nat→Nat→List V→Hp→Prop,(∃m,W 0 m [] H2)∧∀i m ys H,W i m ys H→H l=some (.lst ys)∧((J.stop i H∧R l H)∨(J.go i H∧ys.length<sizeLine∧∀z H',J.yld i H z H'→g z (jE n σ ix) H' fun σ2 H3=>(∃os:St,os.length=n∧σ2=os++jy σ ix)∧tc σ2 H3 fun b H4=>
  if b=true then te σ2 H4 fun y H5=>H5 l=some (.lst ys)∧∀H6,cT H5 l (.lst (ys++[y])) H6→∃m',m'<m∧W (i+1) m' (ys++[y]) H6
  else∃m',m'<m∧W (i+1) m' ys H4))
def JG(wi:TI)(n:Nat)(g:TG)(tc:TT)(te:TE)(ix:List Nat):TE:=fun σ H Q=>wi σ H fun J H1=>uR n g tc te ix σ (fun l H5=>Q (.ref l) H5) J H1
theorem abi{prog:aG}{w:av}{A:bH}{R:nD→Shared→Prop}{s:Shared}{elt target iter:Expr}{ifs:List Expr}{scope:cQ}{pos:Pos}{it acc:Value}{env:Env}(I:Nat→Shared→Prop)
  (turn:∀n s,I n s→ax (au prog w) A (pyNext it) (fun r s₁=>match r with
   |none=>R (.ok .next) s₁
   |some v=>ax (au prog w) A (rS target it v) (fun _ s₀=>ax (au prog w) A (assign target env v) (fun _ s₂=>
     ax (au prog w) A (vL ifs true fun c r=>if r=true then do let ok ←isTrue c env (eval c env);pure (pL ok)else pure (pL r)) (fun ok s₃=>
      if ok=true then ax (au prog w) A (eval elt env) (fun x s₄=>
       ax (au prog w) A (call (.builtin "list.append") [acc,x]) (fun _ s₅=>∃m,m<n∧I m s₅) (jV (au prog w) A env fun e s'=>R (.error e) s') s₄) (jV (au prog w) A env fun e s'=>R (.error e) s') s₃
      else∃m,m<n∧I m s₃) (jV (au prog w) A env fun e s'=>R (.error e) s') s₂) (jV (au prog w) A env fun e s'=>R (.error e) s') s₀) (jV (au prog w) A env fun e s'=>R (.error e) s') s₁) (jV (au prog w) A env fun e s'=>R (.error e) s') s)
  (n:Nat) (h:I n s):gE (au prog w) A (.compLoop (.ListComp elt [⟨target,iter,ifs,0⟩] scope pos) 0 it acc env) R s:=by
 refine codeAny_loop rfl I (fun n s hI=>?_) n h;show ax _ A ((compTurn (.ListComp elt [⟨target,iter,ifs,0⟩] scope pos) 0 it acc env).onRaise (fun x=>do ju x env;theTreesLotGoes x)) _ _ s;refine wpAny_noted ?_;rw[compTurn_list];refine aE (kO (aE (bT (turn n s hI) (fun r s₁ h₁=>?_) fun _ _ h'=>h')));cases r with
 |none=>exact wpAny_pure h₁
 |some v=>
  refine aE (bT h₁ (fun _ s₀ h₀=>aE (bT h₀ (fun _ s₂ h₂=>aE (bT h₂ (fun ok s₃ h₃=>?_) fun _ _ h'=>h')) fun _ _ h'=>h')) fun _ _ h'=>h');cases ok with
  |false=>exact wpAny_pure ⟨rfl,h₃⟩
  |true=>
   exact aE (aE (bT h₃ (fun x s₄ h₄=>aE (bT h₄ (fun _ s₅ h₅=>wpAny_pure (wpAny_pure ⟨rfl,h₅⟩)) fun _ _ h'=>h')) fun _ _ h'=>h'))
section
variable{X:Cx}{oN:List Str}{osc scope:cQ}{ow:List Str}{tg:Expr}{g:TG}{pos:Pos}{fr:List Str}{ix:List Nat}{elt iter:Expr}{ifs:List Expr}{wi:TI}{tc:TT}{te:TE}
theorem Hk{N':List Str}{C:Addr}{s₀ : Shared}{H₀ : Hp}{fp:List Addr}{pl:List (Addr×Obj)}{x:Str}{px:Pos}{i:Nat}(nd:N'.Nodup)(hi:N'[i]?=some x)(hl:scope.names.lookup x=some .local):
  PG (X.comp N' scope C s₀ H₀ fp pl) (.Name x px) (fun v σ H Q=>Q (σ.set i (some v)) H):=
 kW (X:=X.comp N' scope C s₀ H₀ fp pl) (pos:=px) (i:=i) (x:=x) nd hi (.inl (rT hl)) (.inr (rT hl))
theorem TB{aa:List (Addr×Obj)}{σ : St}{s:Shared}{R:Addr→Hp→Prop}{itv:Value}{RR:Value→Addr→nD→Shared→Prop}{E:Value→Shared→Prop}
  (S:ue oN osc scope ow fr ix) (hoN:X.N=oN) (hosc:X.env.scope=osc) (hc:X.calm=true)
  (ht:∀C s₀ H₀ fp pl,ka (X.comp (ow++fr) scope C s₀ H₀ fp pl) ifs tc) (he:∀C s₀ H₀ fp pl,PE (X.comp (ow++fr) scope C s₀ H₀ fp pl) elt te) (hg:∀C s₀ H₀ fp pl,PG (X.comp (ow++fr) scope C s₀ H₀ fp pl) tg g)
  (h2:sL X aa σ tg (uR ow.length g tc te ix σ R) itv s)
  (hRR:∀l C H5 s5,ag X aa σ H5 s5→cX X aa H5 C→(∃m,s5.heap.Ns C m)→R l H5→RR (.ref l) C (.ok .next) s5) :
  ax (au X.prog X.w) X.A (newList []) (fun acc s₃=>ax (au X.prog X.w) X.A (Gb scope X.env.globals (dP X.env.cells scope.names []) [] X.env.qual none .none (some X.env)) (fun cenv s₄=>
   gE (au X.prog X.w) X.A (.compStart (.ListComp elt [⟨tg,iter,ifs,0⟩] scope pos) 0 itv acc {cenv with scope:=relabel scope X.env}) (RR acc cenv.locals) s₄) E s₃) E s:=by
 obtain⟨it,fp,tn,J,H1,e,I1,T,st1,f1,q1⟩:=h2;subst e;have I2:=Bj I1;have hfree:H1 s.heap.objs.size=none:=I1.hok.fresh (bv _);obtain⟨W,⟨m0,w0⟩,turn⟩:=q1 _ _ (bS.mk' hfree (.lst []));have fpl:∀b∈fp,b<s.heap.objs.size:=fun b hb=>by
  obtain⟨o,ho,_⟩:=T.obj 0 _ st1 b hb;exact bC ho
 refine vR ?_;generalize hl:s.heap.objs.size=l at fpl⊢ hfree turn w0 I2;generalize hs2:({s with heap:=s.heap.push {cls:=.type "list",data:=.seq ([]:List Value).toArray}}:Shared)=s2 at *;have sz2:s2.heap.objs.size=l+1:=by rw[←hs2,←hl];exact vh ..
 have f2:∀b∈fp,cX X aa (L2.upd H1 l (.lst [])) b∧b<s2.heap.objs.size:=fun b hb=>by
  have:=fpl b hb;refine⟨⟨?_,(f1 b hb).2⟩,by rw[sz2];exact FG this⟩;rw[bp (cC this)];exact(f1 b hb).1
 refine Gk S.cell (by intro y hy;simp at hy) (fun h₁ hns₁ hsb₁=>?_) S.kind;have old:∀b o,s2.heap.get? b=some o→h₁.get? b=some o:=fun b o e=>hsb₁.extBut b o (cC (bC e)) (dL _ e);have I3:=Ut (tk:=s2.toks+([]:List (Str×Value)).length) S hoN hosc I2 f2 old hns₁;have st3:tn 0 h₁:=T.keep _ _ _ st1 fun b hb o e=>old b o (by rw[←hs2];exact dL _ e);have loop:∀s₃ : Shared,s₃={s2 with heap:=h₁,toks:=s2.toks+([]:List (Str×Value)).length}→
   gE (au X.prog X.w) X.A (.compLoop (.ListComp elt [⟨tg,iter,ifs,0⟩] scope pos) 0 (.ref it) (.ref l) (mh scope (dP X.env.cells scope.names []) s2.heap.objs.size X.env)) (RR (.ref l) s2.heap.objs.size) s₃:=by
  rintro s₃ rfl;have stat:∀{H':Hp},(∀b∈fp,H' b=none)→∀b∈fp,cX (X.comp (ow++fr) scope s2.heap.objs.size s2 (L2.upd H1 l (.lst [])) fp aa) [] H' b:=fun hn b hb=>by
   obtain⟨f,lt⟩:=f2 b hb;refine⟨hn b hb,cC lt,fun z=>?_,.inl hb,fun y c e=>I3.ok.exf b hb |>.2 y c e,fun p hp=>?_⟩
   ·rcases bu.mp (I2.stkSub b z)with q|q
    ·exact f.2.1 q
    ·exact f.2.2.1 q
   ·have hp':p∈(X.pn++aa)++[]:=hp;rw[gg]at hp';exact f.2.2.2.2.2 p hp'
  refine abi (fun n s'=>∃i ys H',ag (X.comp (ow++fr) scope s2.heap.objs.size s2 (L2.upd H1 l (.lst [])) fp aa) [] (jE ow.length σ ix) H' s'∧tn i s'.heap∧(∀b∈fp,H' b=none)∧W i n ys H') ?_ m0 ⟨0,[],_,I3,st3,fun b hb=>(f2 b hb).1.1,w0⟩;rintro n s4 ⟨i,ys,H4,I4,st4,fr4,w4⟩;obtain⟨hl4,alt⟩:=turn i n ys H4 w4;rcases alt with⟨stop,qn⟩|⟨go,hsz,step⟩
  ·refine aK (bT (T.done (X.comp (ow++fr) scope s2.heap.objs.size s2 (L2.upd H1 l (.lst [])) fp aa) rfl rfl rfl hc i [] s4 _ H4 (fun _ _=>False) I4 (stat fr4) st4 stop) (fun _ _ z=>z) fun _ _ z=>z.elim) fun r s5 ⟨hr,I5⟩=>?_;subst hr;obtain⟨J1,J2,J3⟩:=U6 S hosc I2 f2 I5;exact hRR l _ H4 s5 J1 J2 J3 qn
  ·refine aK (bT (T.item (X.comp (ow++fr) scope s2.heap.objs.size s2 (L2.upd H1 l (.lst [])) fp aa) rfl rfl rfl hc i [] s4 _ H4 (fun _ _=>False) I4 (stat fr4) st4 go) (fun _ _ z=>z) fun _ _ z=>z.elim) fun r s5 ⟨u,hr,h5⟩=>?_;subst hr;have I5':∀{σ2 os:St} {H9:Hp} {s9:Shared} {pl:List (Addr×Obj)},os.length=ow.length→σ2=os++jy σ ix→ag (X.comp (ow++fr) scope s2.heap.objs.size s2 (L2.upd H1 l (.lst [])) fp aa) ([]++pl) σ2 H9 s9→ag (X.comp (ow++fr) scope s2.heap.objs.size s2 (L2.upd H1 l (.lst [])) fp aa) [] (jE ow.length σ ix) H9 s9:=fun{σ2 os H9 s9 pl} ho e2 J9=>by
    subst e2;refine(J9.unpinned).weak (by unfold jE;rw[dm,dm,lU,ho]) fun k v e=>?_;unfold jE at e;by_cases hk:k<ow.length
    ·rw[rE (by rw[lU];exact hk),Fy,if_pos hk]at e;cases e
    ·rw[iY (by rw[lU];omega),lU]at e;rw[iY (by omega),ho];exact e
   refine bT h5 (fun _ s6 aA=>?_) fun _ _ z=>z.elim;obtain⟨z,H6,I6,r6,y6,st6,fr6⟩:=aA;have I6':=I6.pinned (stat fr6) (T.obj _ _ st6);refine bT (hg _ _ _ _ _ _ s6 _ H6 z u _ I6' r6 (step z H6 y6)) (fun _ s7 aA=>?_) fun _ _ z=>z.elim;obtain⟨σ7,H7,I7,⟨os,ho,e7⟩,q7⟩:=aA;have back:∀{H9:Hp} {s9:Shared} {ys':List V},ag (X.comp (ow++fr) scope s2.heap.objs.size s2 (L2.upd H1 l (.lst [])) fp aa) ([]++oG fp s6.heap) σ7 H9 s9→(∃m',m'<n∧W (i+1) m' ys' H9)→
     ∃m',m'<n∧∃i ys H',ag (X.comp (ow++fr) scope s2.heap.objs.size s2 (L2.upd H1 l (.lst [])) fp aa) [] (jE ow.length σ ix) H' s9∧tn i s9.heap∧(∀b∈fp,H' b=none)∧W i m' ys H':=fun{H9 s9 ys'} J9 ⟨m',hm,w9⟩=>by
    refine⟨m',hm,i+1,ys',H9,I5' ho e7 J9,T.keep _ _ _ st6 fun b hb o e=>(J9.pin (b,o) (bZ _ (bZ _ (mQ hb e)))).1,fun b hb=>?_,w9⟩;obtain⟨o,e,d⟩:=T.obj _ _ st6 b hb;exact(J9.pin (b,o) (bZ _ (bZ _ (mQ hb e)))).2.1
   refine bT (ht _ _ _ _ _ _ s7 _ H7 _ I7 q7) (fun b s8 aA=>?_) fun _ _ z=>z.elim;obtain⟨H8,I8,q8⟩:=aA;cases b with
   |false=>
    rw[if_neg bK]at q8⊢;exact back I8 q8
   |true=>
    rw[if_pos rfl]at q8⊢;refine bT (he _ _ _ _ _ _ s8 _ H8 _ I8 q8) (fun u9 s9 aA=>?_) fun _ _ z=>z.elim;obtain⟨v9,H9,I9,r9,hl9,q9⟩:=aA;refine bT (fP (X:=X.comp (ow++fr) scope s2.heap.objs.size s2 (L2.upd H1 l (.lst [])) fp aa) _ s9 _ H9 (.ref l) [v9] (.ref l) [u9] (fun v H'=>∃m',m'<n∧W (i+1) m' (ys++[v9]) H') I9 rfl (.cons r9 .nil) ⟨l,ys,v9,rfl,rfl,hl9,hsz,q9⟩) (fun _ s10 aA=>?_) fun _ _ z=>z.elim;obtain⟨v10,H10,I10,_,q10⟩:=aA;exact back I10 q10
 exact F6 (loop _ rfl) (T.self _ 0 _ _ _ st3 (loop _ rfl))
theorem HQ(S:ue oN osc scope ow fr ix)(hoN:X.N=oN)(hosc:X.env.scope=osc)(hc:X.calm=true)(hi:PI X tg iter wi)
  (ht:∀C s₀ H₀ fp pl,ka (X.comp (ow++fr) scope C s₀ H₀ fp pl) ifs tc) (he:∀C s₀ H₀ fp pl,PE (X.comp (ow++fr) scope C s₀ H₀ fp pl) elt te) (hg:∀C s₀ H₀ fp pl,PG (X.comp (ow++fr) scope C s₀ H₀ fp pl) tg g)
  (hs:∀x,vK iter X.env x=pure x:=by intro _;rfl):PE X (.ListComp elt [⟨tg,iter,ifs,0⟩] scope pos) (JG wi ow.length g tc te ix):=by
 intro aa s σ H Q I h;rw[F9];refine AO (use:=none) rfl hs (xb (Jd S hosc I.ok)) S.kind S.names (aK (hi aa s σ H _ I h) fun v s1 h1=>aK h1 fun itv s2 h2=>?_);refine TB (RR:=fun acc C=>vJ (au X.prog X.w) X.A X.xe none (EP X aa σ Q) acc C) S hoN hosc hc ht he hg h2 fun l C H5 s5 I5 fC ⟨m,hm⟩ q=>?_;refine⟨m,hm,fun h' sb=>⟨.ref l,H5,?_,rfl,q⟩⟩;have:=I5.turned (h':=h') (t':=s5.toks) (it:=C) (fun b o hb e=>sb.extBut b o hb e) fC.1 fC.2.1 fC.2.2.2.1 fC.2.2.2.2.1 fC.2.2.2.2.2;exact this
end
theorem Md{wi:TI}{n:Nat}{g:TG}{tc:TT}{te:TE}{ix:List Nat}{σ : St}{H:Hp}{Q:VK}(h:wi σ H fun J H1=>uR n g tc te ix σ (fun l H5=>Q (.ref l) H5) J H1):JG wi n g tc te ix σ H Q:=h
theorem IC{α : Type}{K:aq}{a:Addr}{xs:List V}{rs:List α}{tc:TT}{te:TE}{ix:List Nat}{σ : St}{R:Addr→Hp→Prop}{H1:Hp}(p:α→Bool)(f:α→V)(hS:ay K H1 a xs)(hl:xs.length=rs.length)(hz:xs.length<sizeLine)
  (ht:∀(i:Nat) (z:V) (r:α),xs[i]?=some z→rs[i]?=some r→∀H',ah H1 H'→∀Q:Bool→Hp→Prop,Q (p r) H'→tc (eC σ ix z) H' Q)
  (he:∀(i:Nat) (z:V) (r:α),xs[i]?=some z→rs[i]?=some r→p r=true→∀H',ah H1 H'→∀Q:VK,Q (f r) H'→te (eC σ ix z) H' Q)
  (q:∀l H5,ah H1 H5→H1 l=none→H5 l=some (.lst ((rs.filter p).map f))→R l H5):iF tc te ix σ R (kx K a) H1:=by
 intro l H2 nw;refine⟨fun i m ys H=>m=rs.length-i∧i≤rs.length∧ys=((rs.take i).filter p).map f∧H l=some (.lst ys)∧ah H1 H,⟨_,rfl,fe _,rfl,nw.at_,nw.same⟩,?_⟩;rintro i m ys H ⟨rfl,hi,rfl,hl',sm⟩;refine⟨hl',?_⟩;by_cases hlt:i<rs.length
 ·have hlx:i<xs.length:=by omega
  have sz:(((rs.take i).filter p).map f).length<sizeLine:=by
   rw[bo];have b:=kK p (rs.take i);rw[pN]at b;omega
  refine .inr ⟨⟨xs,xs[i],sm.seq hS,cL hlx⟩,sz,fun z H' y=>?_⟩;obtain⟨rfl,y⟩:=y;have ez:=y xs (sm.seq hS);have er:rs[i]?=some rs[i]:=cL hlt;have tk:rs.take (i+1)=rs.take i++[rs[i]]:=by rw[vp,er];rfl
  refine ht i z rs[i] ez er H' sm _ ?_;cases hp:p rs[i]with
  |false=>
   rw[if_neg bK];refine⟨rs.length-(i+1),by omega,rfl,by omega,?_,hl',sm⟩;rw[tk,m6,gN,hp,if_neg bK,m7,gg]
  |true=>
   rw[if_pos rfl];refine he i z rs[i] ez er hp H' sm _ ⟨hl',fun H6 pu=>⟨rs.length-(i+1),by omega,rfl,by omega,?_,pu.at_,pu.same sm nw.free⟩⟩;rw[tk,m6,gN,hp,if_pos rfl,m7,m8];rfl
 ·refine .inl ⟨⟨xs,sm.seq hS,by omega⟩,q l H sm nw.free ?_⟩;rw[hl',pP (by omega)]
section
variable{X:Cx}{tg:Expr}
end
section
variable{X:Cx}
end
def NA(i j:Int):Prop:=(-(2^62)<j∧j<2^62)∨(-(2^62)<i∧i<2^62)
theorem JU{j:Int}(h:-(2^62)<j∧j<2^62):cV j≤64:=by
 unfold cV;split
 ·exact fe _
 ·have hn:j.natAbs<2^62:=by omega
  rcases OU j.natAbs with h0|hp
  ·rw[h0];decide
  ·have:=(Al (jR hp)).mpr hn;omega
theorem Z6{X:Cx}:bE X (eG .Mult) (fun x y H Q=>∃i j,x=.int i∧y=.int j∧NA i j∧Q (.int (i*j)) H):=oA fun i j _ _ _ _ _ hc q=>mul_int q (by
 rcases hc with h|h
 ·have h':¬(cV j>shortFactorBits):=O1.mpr (JU h);unfold Fp;rw[decide_eq_false h',E7,pJ];exact bK
 ·exact IntMulOk.of_left (JU h))
def mC(c:Nat):Str:=⟨#[c]⟩
def yz(x:Str):It:=⟨fun i _=>i<x.cps.size,fun i H v H'=>H'=H∧∃c,x.cps[i]?=some c∧v=.str (mC c),fun i _=>x.cps.size≤i⟩
theorem Z8{P:aG}{w:av}{K:aq}{tg:Expr}(it:Addr)(x:Str)(t:Tok):qG P w K tg (yz x) [it] it (fun i h=>h.IsStrIter it "str_ascii_iterator" x t i) where
 mem:=by simp
 obj:=fun i h st b hb=>by
  have e:b=it:=by simpa using hb
  subst e;obtain⟨o,e,c,d⟩:=st;exact⟨o,e,fun v z=>by rw[d]at z;cases z⟩
 keep:=fun i h h' st k=>by
  obtain⟨o,ho,r⟩:=st;exact⟨o,k it (by simp) o ho,r⟩
 item:=by
  intro X hP hw hK hc i aa s σ H E I hf st hg;subst hP hw hK;obtain⟨f0,f1,f2,f3,f4,f5⟩:=hf it (by simp);have W:=Walks.strAscii (prog:=X.prog) (w:=X.w) (I.ok.hd hc) it x t;refine W.item i s _ _ hg st fun v h' tk hv st' kk=>?_;obtain⟨c,u,hx,rfl⟩:=hv;have I1:ag X aa σ H {s with heap:=h',toks:=tk}:=I.turned (fun b o hb e=>kk b o (by simpa using hb) e) f0 f1 f3 f4 f5;obtain⟨o,e,cc,d⟩:=id st';exact⟨_,rfl,Du (s:={s with heap:=h',toks:=tk}) e cc d (by decide) ⟨.str (mC c),H,I1,⟨u,rfl⟩,⟨rfl,c,hx,rfl⟩,st',fun b hb=>(hf b hb).1⟩⟩
 done:=by
  intro X hP hw hK hc i aa s σ H E I hf st hg;subst hP hw hK;obtain⟨f0,f1,f2,f3,f4,f5⟩:=hf it (by simp);have hn:x.cps[i]?=none:=Array.getElem?_eq_none hg;exact wpAny_pyNext_ascii_end (I.ok.hd hc) st hn fun h' eb=>⟨rfl,I.turned (t':=s.toks) (fun b o hb e=>eb b o hb e) f0 f1 f3 f4 f5⟩
 self:=fun _ _ _ _ _ st h=>wpAny_pyIter_striter_ascii st h
section
variable{X:Cx}{tg:Expr}
def IW(tl:TE):TI:=fun σ H R=>tl σ H fun v H1=>∃x:Str,v=.str x∧(x.cps.all (· < 128))=true∧R (yz x) H1
theorem NO{l:Expr}{tl:TE}(hl:PE X l tl):PI X tg l (IW tl):=by
 intro aa s σ H R I h;refine aK (hl aa s σ H _ I h) fun v s1 ⟨x0,H1,I1,r1,q1⟩=>?_;obtain⟨x,e,ha,q⟩:=q1;subst e;obtain⟨t,rfl⟩:=r1;refine wpAny_pyIter_ascii ha ?_;refine⟨s1.heap.objs.size,[s1.heap.objs.size],_,_,H1,rfl,I1.kept (t':=s1.toks) fun b o e=>dL _ e,Z8 _ x t,⟨_,iA _ rfl,rfl,rfl⟩,fun b hb=>?_,q⟩;obtain rfl:b=s1.heap.objs.size:=by simpa using hb
 exact I1.fpOk (bv _) (I1.hok.fresh (bv _))
end
theorem IU{tl:TE}{σ : St}{H:Hp}{R:It→Hp→Prop}(h:tl σ H fun v H1=>∃x:Str,v=.str x∧(x.cps.all (· < 128))=true∧R (yz x) H1):IW tl σ H R:=h
theorem Lx{x:Str}{tc:TT}{te:TE}{ix:List Nat}{σ : St}{R:Addr→Hp→Prop}{H1:Hp}(p:V→Bool)(f:V→V)(hz:x.length<sizeLine)
  (ht:∀z∈x.cps.toList.map (fun c=>V.str (mC c)),∀H',ah H1 H'→∀Q:Bool→Hp→Prop,Q (p z) H'→tc (eC σ ix z) H' Q)
  (he:∀z∈x.cps.toList.map (fun c=>V.str (mC c)),p z=true→∀H',ah H1 H'→∀Q:VK,Q (f z) H'→te (eC σ ix z) H' Q)
  (q:∀l H5,ah H1 H5→H1 l=none→H5 l=some (.lst (((x.cps.toList.map fun c=>V.str (mC c)).filter p).map f))→R l H5):iF tc te ix σ R (yz x) H1:=
 KE p f (fun i z H sm e=>by
   have:=(gO.mp e).1;rw[bo]at this;exact this) (fun i H z H' _ sm y=>by
   obtain⟨e,c,hc,rfl⟩:=y;refine⟨e,?_⟩;rw[iC,zN,hc];rfl) (fun i H sm e=>by
   rw[bo]at e;exact e) (by rw[bo];exact hz) ht he q
theorem IK:∀{ts:List Str} {us:List Value},aP (ts.map V.str) us→∃l:List (Str×Tok),us=strValues l∧l.map (·.1)=ts
 |[],_,.nil=>⟨[],rfl,rfl⟩
 |x::ts,u::us,.cons r t=>by
  obtain⟨l,rfl,e⟩:=IK t;obtain⟨k,rfl⟩:=(show∃k,u=pY x k from r);exact⟨(x,k)::l,rfl,by rw[eD,e]⟩
theorem Cf:∀l:List (Str×Tok),aP ((l.map (·.1)).map V.str) (strValues l)
 |[]=>.nil
 |p::l=>.cons ⟨p.2,rfl⟩ (Cf l)
open Builtin Builtin.Str in
theorem E3(x:Str)(cuts:List Nat)(k:Nat):(partsBetween x cuts k).length=cuts.length+1:=by
 unfold partsBetween;simp
open Builtin Builtin.Str in
theorem CK(x y:Str):(cN x y).length≤x.length+2:=by
 have h:=PC x y 0 x.length (x.length+1);unfold cN;split
 ·show 1≤_;omega
 ·split
  ·show 1≤_;omega
  ·rw[E3];omega
section
variable{prog:aG}{w:av}{A:bH}{E:Value→Shared→Prop}{s:Shared}
open Builtin Builtin.Str in
theorem Ss{x y:Str}{t u:Tok}{Q:Value→Shared→Prop}(hy:(y.length==0)=false)(hx:x.length+2≤sizeLine)
  (h:∀(l:List (Str×Tok)) (k:Nat),l.map (·.1)=cN x y→Q (.ref s.heap.objs.size) {s with toks:=k,heap:=s.heap.push {cls:=.type "list",data:=.seq (strValues l).toArray}}) :
  ax (au prog w) A (call (.builtin "str.split") [.str x t,.str y u]) Q E s:=by
 have ho:=PC x y 0 x.length (x.length+1);by_cases c1:(decide (x.length<y.length)||decide (strKind x<strKind y))=true
 ·refine qb lT (kN _ _ _) Fj (Fi _ _) (meets_str_split_cannot_occur x y t u c1) ?_;exact h [(x,t)] s.toks (by unfold cN;rw[if_pos c1];rfl)
 ·have c1':=eq_false_of_ne_true c1;by_cases c2:(occurrences x y 0 x.length (x.length+1)).isEmpty=true
  ·refine qb lT (kN _ _ _) Fj (Fi _ _) (meets_str_split_not_found x y t u c1' hy c2) ?_;exact h [(x,t)] s.toks (by unfold cN;rw[if_neg c1,if_pos c2];rfl)
  ·refine qb lT (kN _ _ _) Fj (Fi _ _) (meets_str_split_sep x y t u c1' hy (eq_false_of_ne_true c2) (by omega) (by rw[E3];omega)) ?_;have r:=h (numbered s.toks (partsBetween x (occurrences x y 0 x.length (x.length+1)) y.length)) (s.toks+(partsBetween x (occurrences x y 0 x.length (x.length+1)) y.length).length) (by rw[numbered_texts];unfold cN;rw[if_neg c1,if_neg c2]);rw[←strsFrom_eq]at r;exact r
end
section
variable{X:Cx}
theorem qZ:oM X "str.split" (fun x xs H Q=>∃z y:Str,x=.str z∧xs=[.str y]∧(y.length==0)=false∧z.length≤1000000∧∀(p:Addr) (H':Hp),bS H p (.lst ((cN z y).map V.str)) H'→Q (.ref p) H'):=by
 intro aa s σ H x xs v us Q I rx rs h;obtain⟨z,y,rfl,rfl,hy,hz,q⟩:=h;obtain⟨t,rfl⟩:=rx;obtain⟨u,rfl,u',rfl⟩:=iE rs;have sz:(1000002:Nat)≤sizeLine:=by decide
 refine Ss hy (by omega) fun l k e=>?_;have hl:=CK z y;have I2:=I.laid (h':=s.heap.push {cls:=.type "list",data:=.seq (strValues l).toArray}) (a:=s.heap.objs.size) (o:=.lst ((cN z y).map V.str)) (t':=k) (fun _ _ e=>dL _ e) (bv _)
  ⟨by rw[bo];omega,strValues l,0,by rw[←e];exact Cf l,iA _ rfl⟩
 exact⟨.ref s.heap.objs.size,_,I2,rfl,q _ _ (bS.mk' (I.hok.fresh (bv _)) _)⟩
theorem EM{K:aq}(hK:X.K=K):oM X "str.join" (fun x xs H Q=>∃(z:Str) (a:Addr) (ts:List Str),x=.str z∧xs=[.ref a]∧ay K H a (ts.map V.str)∧vj z ts=true∧Q (.str (cM z ts)) H):=by
 subst hK;intro aa s σ H x xs v us Q I rx rs h;obtain⟨z,a,ts,rfl,rfl,hq,hj,q⟩:=h;obtain⟨t,rfl⟩:=rx;obtain⟨u,rfl,ru⟩:=iE rs;obtain rfl:u=aZ a:=ru;obtain⟨its,rv,p,hz⟩:=I.list hq;obtain⟨l,rfl,e⟩:=IK rv;refine SC.join p.isList e hj fun t' k=>⟨.str (cM z ts),H,I.tok k,⟨t',?_⟩,q⟩;show pY (Txt.join z ts) t'=_;rw[show Txt.join z ts=cM z ts from StrLaws.glued_eq_join z ts]
theorem VD:oM X "str.startswith" (fun x xs H Q=>∃z y:Str,x=.str z∧xs=[.str y]∧Q (.bl (kM z y)) H):=by
 intro aa s σ H x xs v us Q I rx rs h;obtain⟨z,y,rfl,rfl,q⟩:=h;obtain⟨t,rfl⟩:=rx;obtain⟨u,rfl,u',rfl⟩:=iE rs;exact SC.startswith ⟨.bl (kM z y),H,I,rfl,q⟩
theorem wL:gu X (.type "int") (fun xs H Q=>∃(z:Str) (n:Int),xs=[.str z]∧intText? z=some n∧z.length≤640∧Q (.int n) H):=by
 intro aa s σ H xs us Q I r h;obtain⟨z,n,rfl,e,hz,q⟩:=h;obtain⟨u,rfl,t,rfl⟩:=iE r;exact ad7 e hz ⟨.int n,H,I.tok _,⟨_,rfl⟩,q⟩
theorem S2(bs:List Bool):((fT bs.length).all fun i=>(bs[i]?).getD true)=bs.all id:=by
 rw[rA,gf,gf];constructor
 ·intro h b hb;obtain⟨i,hi,rfl⟩:=OM.mp hb;have:=h i (rF.mpr hi);rw[cL hi]at this;exact this
 ·intro h i hi;rw[rF]at hi;rw[cL hi];exact h _ (Ae hi)
theorem NB{K:aq}(hK:X.K=K)(hc:X.calm=true):gu X (.builtin "all") (fun xs H Q=>∃(a:Addr) (bs:List Bool),xs=[.ref a]∧ay K H a (bs.map V.bl)∧Q (.bl (bs.all id)) H):=by
 subst hK;intro aa s σ H xs us Q I r h;obtain⟨a,bs,rfl,hq,q⟩:=h;obtain⟨u,rfl,ru⟩:=iE r;obtain rfl:u=aZ a:=ru;obtain⟨its,rv,p,hz⟩:=I.list hq;have hlt:a<s.heap.objs.size:=by obtain⟨_,e,_⟩:=p.isList;exact bC e
 have bl:its.length=bs.length:=by rw[←rv.length,bo]
 refine call_all_walk (Qo p.isList ⟨s.heap.objs.size,[s.heap.objs.size,a],[s.heap.objs.size],its.toArray.size,_,_,fun i=>(bs[i]?).getD true,rfl,Walks.list (A:=X.A.in1) (I.ok.hd hc) _ a (cC hlt) its.toArray,⟨⟨_,iA _ rfl,rfl,rfl⟩,p.isList.push _⟩,fun i v s' Q' E' hP hQ=>?_,fun h' tk hk=>?_⟩)
 ·obtain⟨b,e,rfl⟩:=GE rv (i:=i) (v:=v) (by simpa using hP);replace hQ:Q' ((bs[i]?).getD true) s':=hQ;rw[e]at hQ;exact nN hQ
 ·have kept:∀b x,s.heap.get? b=some x→h'.get? b=some x:=fun b x e=>hk b x (fun hm=>by rw[dS.mp hm]at e;exact fA _ (bC e)) (dL _ e);rw[dM,bl,S2];exact⟨.bl (bs.all id),H,I.kept (t':=tk) kept,rfl,q⟩
theorem Lq:fU "all" = some (.builtin "all"):=by k_go
end
end L2
namespace L2
open PySem PySem.Spec PyProof.Rows
section
variable{X:Cx}
end
section
variable{prog:aG}{w:av}{A:bH}{R:nD→Shared→Prop}{I S:Addr}{fp wr:List Addr}{n:Nat}{P:Nat→Value→Prop}{St:Nat→Heap→Prop}{kw:List (Str×Value)}
end
section
variable{prog:aG}{w:av}{A:bH}{E:Value→Shared→Prop}{s:Shared}{Q:Value→Shared→Prop}{l:Addr}{xs:Array (Int×Tok)}{d:Value}
end
section
variable{X:Cx}{p pos kp:Pos}{a dv:Expr}{t:TA}{td:TE}
end
theorem Ui{K:aq}{a b:Addr}{ns ms:List Int}{n:Nat}{g:TG}{te:TE}{ix:List Nat}{σ : St}{R:Addr→Hp→Prop}{H1:Hp}(f:Int→Int→Int)(hA:ay K H1 a (ns.map V.int))(hB:ay K H1 b (ms.map V.int))(hz:ns.length<sizeLine)
  (hs:∀x y p H',ah H1 H'→H' p=some (.tup [.int x,.int y])→(x,y)∈ns.zip ms→∃os:St,os.length=n∧(∀Q:St→Hp→Prop,Q (os++jy σ ix) H'→g (.ref p) (jE n σ ix) H' Q)∧∀Q:VK,Q (.int (f x y)) H'→te (os++jy σ ix) H' Q)
  (q:∀l H5,ah H1 H5→H1 l=none→H5 l=some (.lst ((pQ f ns ms).map V.int))→R l H5):uR n g u0 te ix σ R (yk K a b) H1:=by
 intro l H2 nw;have el:(pQ f ns ms).length=min ns.length ms.length:=OG;refine⟨fun i m ys H=>m=min ns.length ms.length-i∧i≤min ns.length ms.length∧ys=((pQ f ns ms).take i).map V.int∧H l=some (.lst ys)∧ah H1 H,⟨_,rfl,fe _,rfl,nw.at_,nw.same⟩,?_⟩;intro i m ys H hw;refine yJ fun _ kG=>?_;obtain⟨rfl,hi,rfl,hl,sm⟩:=hw;refine kG ?_;refine⟨hl,?_⟩;by_cases hlt:i<min ns.length ms.length
 ·have l1:i<ns.length:=dq hlt (OZ _ _);have l2:i<ms.length:=dq hlt (Nat.min_le_right _ _);have sz:(((pQ f ns ms).take i).map V.int).length<sizeLine:=by
   rw[bo,pN];omega
  have e1:(ns.map V.int)[i]?=some (.int ns[i]):=by rw[iC,cL l1];rfl
  have e2:(ms.map V.int)[i]?=some (.int ms[i]):=by rw[iC,cL l2];rfl
  refine .inr ⟨⟨_,_,_,_,sm.seq hA,e1,sm.seq hB,e2⟩,sz,fun z H' y=>?_⟩;refine yJ fun _ kG=>?_;obtain⟨p,x,y,rfl,nw',y1,y2⟩:=y;have hx:=y1 _ (sm.seq hA);have hy:=y2 _ (sm.seq hB);rw[e1]at hx;rw[e2]at hy;injection hx with hx;injection hy with hy;subst hx hy;have sm':=sm.trans nw'.same;have mem:(ns[i],ms[i])∈ns.zip ms:=OM.mpr ⟨i,by rw[FC];exact hlt,by rw[List.getElem_zip]⟩;obtain⟨os,ho,hg,he⟩:=hs ns[i] ms[i] p H' sm' nw'.at_ mem;refine kG ?_;have tk:(pQ f ns ms).take (i+1)=(pQ f ns ms).take i++[f ns[i] ms[i]]:=by
   rw[vp,cL (by rw[el];exact hlt),List.getElem_zipWith];rfl
  refine hg _ ⟨⟨os,ho,rfl⟩,Bp (lp (he _ ⟨nw'.same _ _ hl,fun H6 pu=>⟨min ns.length ms.length-(i+1),by omega,rfl,by omega,?_,pu.at_,pu.same sm' nw.free⟩⟩))⟩;rw[tk,m8];rfl
 ·refine .inl ⟨⟨_,_,sm.seq hA,sm.seq hB,?_⟩,q l H sm nw.free ?_⟩
  ·rw[bo,bo];omega
  ·rw[hl,pP (by omega)]
section
variable{X:Cx}{scope:cQ}
theorem KS{K:aq}{N':List Str}{C:Addr}{s₀ : Shared}{H₀ : Hp}{fp:List Addr}{pl:List (Addr×Obj)}{x y:Str}{px py pos:Pos}{k i j:Nat}(hK:X.K=K)(hc:X.calm=true)(nd:N'.Nodup)(hi:N'[i]?=some x)(hj:N'[j]?=some y)(hl:scope.names.lookup x=some .local)(hl':scope.names.lookup y=some .local):
  PG (X.comp N' scope C s₀ H₀ fp pl) (.Tuple [.Name x px,.Name y py] k pos) (ug K 2 (qV (fun v σ H Q=>Q (σ.set i (some v)) H) (qV (fun v σ H Q=>Q (σ.set j (some v)) H) xm))):=by
 subst hK;exact GQ hc (yO (Hk nd hi hl) (yO (Hk nd hj hl') Nl))
end
theorem Hy{K:aq}{σ : St}{H:Hp}{p:Addr}{u v:V}{i j:Nat}{R:St→Hp→Prop}(hp:H p=some (.tup [u,v]))(h:R ((σ.set i (some u)).set j (some v)) H):
  ug K 2 (qV (fun v σ H Q=>Q (σ.set i (some v)) H) (qV (fun v σ H Q=>Q (σ.set j (some v)) H) xm)) (.ref p) σ H R:=⟨p,_,rfl,di.of hp,rfl,u,_,rfl,v,_,rfl,rfl,h⟩
theorem RM{i:Nat}{te:TE}{D:fi}{σ : St}{H:Hp}{a:Int}(e:σ[i]?=some (some (.int a)))(h:te σ H fun y H1=>yQ (fun i j=>i+j) (.int a) y H1 fun z H2=>D.nx (σ.set i (some z)) H2):HZ i te (yQ fun i j=>i+j) D σ H:=⟨_,e,h⟩
theorem RF{f:Int→Int→Int}{a b:Int}{H:Hp}{Q:VK}(h:Q (.int (f a b)) H):yQ f (.int a) (.int b) H Q:=⟨a,b,rfl,rfl,h⟩
theorem aay{α : Type}{K:aq}{a:Addr}{ps:List (V×α)}{tc:TT}{te:TE}{ix:List Nat}{σ : St}{R:Addr→Hp→Prop}{H1:Hp}(p:α→Bool)(f:V→α→V)(hS:ay K H1 a (ps.map (·.1)))(hz:ps.length<sizeLine)
  (ht:∀z r,(z,r)∈ps→∀H',ah H1 H'→∀Q:Bool→Hp→Prop,(∀H'',ah H' H''→Q (p r) H'')→tc (eC σ ix z) H' Q)
  (he:∀z r,(z,r)∈ps→p r=true→∀H',ah H1 H'→∀Q:VK,(∀H'',ah H' H''→Q (f z r) H'')→te (eC σ ix z) H' Q)
  (q:∀l H5,ah H1 H5→H1 l=none→H5 l=some (.lst ((ps.filter fun x=>p x.2).map fun x=>f x.1 x.2))→R l H5):iF tc te ix σ R (kx K a) H1:=by
 intro l H2 nw;refine⟨fun i m ys H=>m=ps.length-i∧i≤ps.length∧ys=((ps.take i).filter fun x=>p x.2).map (fun x=>f x.1 x.2)∧H l=some (.lst ys)∧ah H1 H,⟨_,rfl,fe _,rfl,nw.at_,nw.same⟩,?_⟩;rintro i m ys H ⟨rfl,hi,rfl,hl,sm⟩;refine⟨hl,?_⟩;by_cases hlt:i<ps.length
 ·have hlx:i<(ps.map (·.1)).length:=by rw[bo];exact hlt
  have sz:(((ps.take i).filter fun x=>p x.2).map (fun x=>f x.1 x.2)).length<sizeLine:=by
   rw[bo];have b:=kK (fun x:V×α=>p x.2) (ps.take i);rw[pN]at b;omega
  refine .inr ⟨⟨_,(ps.map (·.1))[i],sm.seq hS,cL hlx⟩,sz,fun z H' y=>?_⟩;obtain⟨rfl,y⟩:=y;have ez:=y _ (sm.seq hS);have er:ps[i]?=some ps[i]:=cL hlt;rw[iC,er]at ez;have ez':ps[i].1=z:=cP ez;have mem:(z,ps[i].2)∈ps:=by rw[←ez'];exact Ae hlt
  have tk:ps.take (i+1)=ps.take i++[ps[i]]:=by rw[vp,er];rfl
  refine ht z ps[i].2 mem H' sm _ fun H3 s3=>?_;cases hp:p ps[i].2 with
  |false=>
   rw[if_neg bK];refine⟨ps.length-(i+1),by omega,rfl,by omega,?_,s3 _ _ hl,sm.trans s3⟩;rw[tk,m6,gN,hp,if_neg bK,m7,gg]
  |true=>
   rw[if_pos rfl];refine he z ps[i].2 mem hp H3 (sm.trans s3) _ fun H4 s4=>⟨s4 _ _ (s3 _ _ hl),fun H6 pu=>⟨ps.length-(i+1),by omega,rfl,by omega,?_,pu.at_,pu.same (sm.trans (s3.trans s4)) nw.free⟩⟩;rw[tk,m6,gN,hp,if_pos rfl,m7,m8];show _++[f z ps[i].2]=_++[f ps[i].1 ps[i].2];rw[ez']
 ·refine .inl ⟨⟨_,sm.seq hS,by rw[bo];omega⟩,q l H sm nw.free ?_⟩;rw[hl,pP (by omega)]
def pb(K:aq)(a:Addr):It:=
 ⟨fun i H=>∃xs x,ay K H a xs∧xs[i]?=some x,
  fun i H v H'=>∃p x,v=.ref p∧bS H p (.tup [.int (i:Int),x]) H'∧∀xs,ay K H a xs→xs[i]?=some x,
  fun i H=>∃xs,ay K H a xs∧xs.length≤i⟩
def Qr(e it a:Addr)(i:Nat)(h:Heap):Prop:=(∃old,IsEnum h e it (i:Int) old)∧h.IsListIter it a i
theorem Sx{P:aG}{w:av}{K:aq}{es:List Expr}{k:Nat}{pos:Pos}{e it a:Addr}(ne:e≠it):qG P w K (.Tuple es k pos) (pb K a) [e,it] e (Qr e it a) where
 mem:=by simp
 obj:=fun i h st c hc=>by
  obtain⟨⟨old,he⟩,h1⟩:=st;simp only[bu,gA,or_false]at hc;rcases hc with rfl|rfl
  ·exact⟨_,he,fun v z=>by cases z⟩
  ·obtain⟨o,e,c,d⟩:=h1;exact⟨o,e,fun v z=>by rw[d]at z;cases z⟩
 keep:=fun i h h' st kk=>by
  obtain⟨⟨old,he⟩,h1⟩:=st;exact⟨⟨old,kk e (by simp) _ he⟩,h1.at fun o e=>kk it (by simp) o e⟩
 item:=by
  intro X hP hw hK hc i aa s σ H E I hf st hg;subst hP hw hK;obtain⟨xs,x,hq1,hx⟩:=hg;obtain⟨its1,rv1,p1,hz1⟩:=I.list hq1;obtain⟨u1,hu1,ru1⟩:=rv1.get hx;obtain⟨⟨old,he⟩,h1⟩:=st;refine wpAny_pyNext_enum_item he h1 p1.isList (x:=u1) (by simpa using hu1) ne fun h' a1 a3 a5 a6 hk=>?_;refine⟨_,rfl,wpAny_letOwnedTupleGo_enum a1 fun h2' hz' hs'=>?_⟩;have fr:∀c,c∈[e,it]→cX X aa H c:=fun c hcm=>hf c hcm;have kk:∀c o,c∉[e,it]→s.heap.get? c=some o→h2'.get? c=some o:=fun c o hn eo=>
   hs'.extBut _ _ (fun q=>hn (by simp[q])) (hk c o (fun q=>hn (by simp[q])) (fun q=>hn (by simp[q])) eo)
  have nz:s.heap.objs.size≠e:=jR (bC he);have t2:h2'.get? s.heap.objs.size=some {cls:=.type "tuple",data:=.seq #[.int i s.toks,u1]}:=hs'.extBut _ _ nz a5;have I2:=I.turnedNew (h':=h2') (t':=s.toks+1) (o:=.tup [.int (i:Int),x]) fr kk (bv _) ⟨by show 2≤sizeLine;decide,[.int i s.toks,u1],.cons ⟨s.toks,rfl⟩ (.cons ru1 .nil),_,t2,rfl,_,rfl⟩;have fn:∀c∈[e,it],upd H s.heap.objs.size (.tup [.int (i:Int),x]) c=none:=fun c hcm=>by
   have h0:=(hf c hcm).1;rw[bp (fun q=>?_)]
   ·exact h0
   ·subst q;simp only[bu,gA,or_false]at hcm;rcases hcm with z|z
    ·exact nz z
    ·obtain⟨o,eo,_⟩:=h1;exact absurd (bC (z▸eo)) (fA _)
  refine⟨.ref s.heap.objs.size,_,I2,rfl,⟨_,x,rfl,bS.mk' (I.hok.fresh (bv _)) _,fun xs' h=>by rw[I.list_inj h hq1];exact hx⟩,?_,fn⟩;exact⟨⟨u1,(show IsEnum h2' e it ((i+1:Nat):Int) u1 by rw[show(((i+1:Nat)):Int)=(i:Int)+1 by omega];exact hz')⟩,a3.extBut hs'.extBut (cH ne)⟩
 done:=by
  intro X hP hw hK hc i aa s σ H E I hf st hg;subst hP hw hK;obtain⟨xs,hq1,hx⟩:=hg;obtain⟨its1,rv1,p1,hz1⟩:=I.list hq1;have l1:=rv1.length;obtain⟨⟨old,he⟩,h1⟩:=st;refine wpAny_pyNext_enum_end (I.ok.hd hc) he h1 p1.isList (by simp;omega) fun h' hk=>⟨rfl,I.turnedL (t':=s.toks) (ch:=[it]) (fun c hcm=>hf c (by simp at hcm;simp[hcm])) fun c o hn eo=>hk c o (fun q=>hn (by simp[q])) eo⟩
 self:=fun A i s Q E st q=>let⟨⟨_,he⟩,_⟩:=st;Qn he q
section
variable{X:Cx}{es:List Expr}{k:Nat}{tpos:Pos}
def MK(K:aq)(ta:TA):TI:=fun σ H R=>ta σ H fun vs H1=>∃a,vs=[.ref a]∧(∃xs,ay K H1 a xs)∧R (pb K a) H1
theorem SI:fU "enumerate" = some (.type "enumerate"):=by k_go
theorem KG{K:aq}{a:Expr}{ta:TA}{p pos:Pos}(hK:X.K=K)(hg:Gl X "enumerate")(hm:X.mg "enumerate" = none)(ha:PA X [a] ta)(hs:bz [a] X.env=[(false,eval a X.env)]:=by rfl)(hs2:bz ([]:List Expr) X.env=[]:=by rfl):
  PI X (.Tuple es k tpos) (.Call (.Name "enumerate" p) [a] [] pos) (MK K ta):=by
 subst hK;intro aa s σ H R I h;refine Call_ (qf I hg hm SI (Aq (aK (ha pos aa s σ H _ I h) fun us s1 aA=>?_) (by rw[hs,hs2]) (by rw[hs2];rfl)));obtain⟨vs,H1,I1,r1,q1⟩:=aA;obtain⟨l1,e,⟨xs,hq1⟩,q⟩:=q1;subst e;obtain⟨u,rfl,ru⟩:=iE r1;obtain rfl:u=aZ l1:=ru;obtain⟨its1,rv1,p1,hz1⟩:=I1.list hq1;refine call_enumerate_list p1.isList fun h' c1 c2 c3 c4=>?_;refine Qn (s:={s1 with heap:=h'}) c1 ?_;refine⟨_,_,_,_,H1,rfl,I1.kept (t':=s1.toks) c4,Sx (by show s1.heap.objs.size+1≠s1.heap.objs.size;omega),⟨⟨_,c1⟩,c2⟩,fun c hc=>?_,q⟩;have hge:s1.heap.objs.size≤c:=by
  simp only[bu,gA,or_false]at hc;rcases hc with rfl|rfl<;>(show@LE.le Nat _ _ _;omega)
 exact I1.fpOk hge (I1.hok.fresh hge)
end
theorem S5{α : Type}{K:aq}{a:Addr}{ps:List (V×α)}{n:Nat}{g:TG}{tc:TT}{te:TE}{ix:List Nat}{σ : St}{R:Addr→Hp→Prop}{H1:Hp}(p:Nat→α→Bool)(hS:ay K H1 a (ps.map (·.1)))(hz:ps.length<sizeLine)
  (hs:∀(i:Nat) z r t H',ps[i]?=some (z,r)→ah H1 H'→H' t=some (.tup [.int (i:Int),z])→∃os:St,os.length=n∧(∀Q:St→Hp→Prop,Q (os++jy σ ix) H'→g (.ref t) (jE n σ ix) H' Q)∧
   (∀Q:Bool→Hp→Prop,(∀H'',ah H' H''→Q (p i r) H'')→tc (os++jy σ ix) H' Q)∧∀H'',ah H' H''→∀Q:VK,Q z H''→te (os++jy σ ix) H'' Q)
  (q:∀l H5,ah H1 H5→H1 l=none→H5 l=some (.lst (((fT ps.length).filter fun i:Nat=>match ps[i]? with|some x=>p i x.2|none=>false).map fun i:Nat=>match ps[i]? with|some x=>x.1|none=>.non))→R l H5):uR n g tc te ix σ R (pb K a) H1:=by
 intro l H2 nw;refine⟨fun i m ys H=>m=ps.length-i∧i≤ps.length∧ys=((fT i).filter fun i:Nat=>match ps[i]? with|some x=>p i x.2|none=>false).map (fun i:Nat=>match ps[i]? with|some x=>x.1|none=>.non)∧H l=some (.lst ys)∧ah H1 H,⟨_,rfl,fe _,rfl,nw.at_,nw.same⟩,?_⟩;rintro i m ys H ⟨rfl,hi,rfl,hl,sm⟩;refine⟨hl,?_⟩;by_cases hlt:i<ps.length
 ·have hlx:i<(ps.map (·.1)).length:=by rw[bo];exact hlt
  have sz:(((fT i).filter fun i:Nat=>match ps[i]? with|some x=>p i x.2|none=>false).map (fun i:Nat=>match ps[i]? with|some x=>x.1|none=>V.non)).length<sizeLine:=by
   rw[bo];have b:=kK (fun i:Nat=>match ps[i]? with|some x=>p i x.2|none=>false) (fT i);rw[FB]at b;omega
  refine .inr ⟨⟨_,(ps.map (·.1))[i],sm.seq hS,cL hlx⟩,sz,fun z H' y=>?_⟩;obtain⟨t,x,rfl,nw',y⟩:=y;have ez:=y _ (sm.seq hS);have er:ps[i]?=some ps[i]:=cL hlt;rw[iC,er]at ez;have ez':ps[i].1=x:=cP ez;have er':ps[i]?=some (x,ps[i].2):=by rw[er,←ez']
  have sm':=sm.trans nw'.same;obtain⟨os,ho,h1,h2,h3⟩:=hs i x ps[i].2 t H' er' sm' nw'.at_;have rg:fT (i+1)=fT i++[i]:=List.range_succ;have pe:(match ps[i]? with|some x=>p i x.2|none=>false)=p i ps[i].2:=by rw[er']
  have ve:(match ps[i]? with|some x=>x.1|none=>V.non)=x:=by rw[er']
  refine h1 _ ⟨⟨os,ho,rfl⟩,h2 _ fun H3 s3=>?_⟩;cases hp:p i ps[i].2 with
  |false=>
   rw[if_neg bK];refine⟨ps.length-(i+1),by omega,rfl,by omega,?_,s3 _ _ (nw'.same _ _ hl),sm'.trans s3⟩;rw[rg,m6,gN,pe,hp,if_neg bK,m7,gg]
  |true=>
   rw[if_pos rfl];refine h3 H3 s3 _ ⟨s3 _ _ (nw'.same _ _ hl),fun H6 pu=>⟨ps.length-(i+1),by omega,rfl,by omega,?_,pu.at_,pu.same (sm'.trans s3) nw.free⟩⟩;rw[rg,m6,gN,pe,hp,if_pos rfl,m7,m8,eD,FD,ve]
 ·refine .inl ⟨⟨_,sm.seq hS,by rw[bo];omega⟩,q l H sm nw.free ?_⟩;rw[hl,show i=ps.length by omega]
theorem Kk{K:aq}{ta:TA}{σ : St}{H:Hp}{R:It→Hp→Prop}(h:ta σ H fun vs H1=>∃a,vs=[.ref a]∧(∃xs,ay K H1 a xs)∧R (pb K a) H1):MK K ta σ H R:=h
end L2
namespace L2
open PySem PySem.Spec PyProof.Rows PyProof.V
def so(w:av)(K:aq)(a:Addr)(aH:List (Str×Int)):Prop:=∃o es n,K.lookup a=some o∧o.ExactDict∧o.data=.dict es n∧
 (∀h:Heap,nC h (es.toList.map (·.key)) (aH.map fun p=>dU p.1) [])∧(∀h:Heap,nC h (es.toList.map (·.val)) (aH.map fun p=>rL p.2) [])∧
 (aH.map (·.1)).Nodup∧(∀e∈es,∀x t,e.key=.str x t→e.hash=vM w x)∧(a==rV)=false
theorem abw{w:av}{K:aq}{a:Addr}{h1 h2 h3:Int}{x1 x2 x3:Str}{t1 t2 t3 u1 u2 u3:Tok}{n1 n2 n3:Int}{ep:Nat}
  (l:K.lookup a=some ⟨.type "dict",none,.dict #[⟨h1,.str x1 t1,.int n1 u1⟩,⟨h2,.str x2 t2,.int n2 u2⟩,⟨h3,.str x3 t3,.int n3 u3⟩] ep,#[]⟩) (e1:h1=vM w x1) (e2:h2=vM w x2) (e3:h3=vM w x3)
  (nd:[x1,x2,x3].Nodup) (lo:(a==rV)=false):so w K a [(x1,n1),(x2,n2),(x3,n3)]:=by
 refine⟨_,_,_,l,⟨rfl,rfl,rfl⟩,rfl,fun h=>?_,fun h=>?_,nd,fun e he x t hk=>?_,lo⟩
 ·exact rN (as:=[]) (bs:=[]) (.str _ _) (rN (as:=[]) (bs:=[]) (.str _ _) (rN (as:=[]) (bs:=[]) (.str _ _) .nil))
 ·exact rN (as:=[]) (bs:=[]) (.int _ _) (rN (as:=[]) (bs:=[]) (.int _ _) (rN (as:=[]) (bs:=[]) (.int _ _) .nil))
 ·have he':e=⟨h1,.str x1 t1,.int n1 u1⟩∨e=⟨h2,.str x2 t2,.int n2 u2⟩∨e=⟨h3,.str x3 t3,.int n3 u3⟩:=by simpa using he
  rcases he' with rfl|rfl|rfl
  ·injection hk with hk;rw[←hk];exact e1
  ·injection hk with hk;rw[←hk];exact e2
  ·injection hk with hk;rw[←hk];exact e3
section
variable{X:Cx}
theorem so.dict{a:Addr}{aH:List (Str×Int)}{h:Heap}(T:so X.w X.K a aH)(k:X.K.In h):IsDict X.prog X.w h a (aH.map fun p=>(dU p.1,rL p.2)) []:=by
 obtain⟨o,es,n,hl,hx,hd,rk,rv,nd,hh,lo⟩:=T;refine IsDict.of0 ⟨lo,o,es,n,k _ _ hl,hx,hd,?_,?_,?_,?_⟩ ?_
 ·rw[jo];exact rk h
 ·rw[jo];exact rv h
 ·intro q hq;obtain⟨p,_,rfl⟩:=gP.mp hq;exact⟨p.1,rfl⟩
 ·rw[jo];have:(aH.map ((fun q:PyData×PyData=>q.1)∘fun p=>(dU p.1,rL p.2)))=(aH.map (·.1)).map dU:=by rw[jo];rfl
  rw[this];exact List.pairwise_map.mpr (nd.imp fun hne z=>hne (by injection z))
 ·intro o' es' n' ho hd' e he x t hk;have e1:=(k _ _ hl).symm.trans ho;injection e1 with e1;subst e1;rw[hd]at hd';injection hd' with e2 e3;subst e2;exact hh e he x t hk
def Sv(a:Addr)(aH:List (Str×Int)):R2:=fun x y H Q=>∃z n,x=.ref a∧y=.str z∧aH.lookup z=some n∧Q (.int n) H
theorem Na:∀{aH:List (Str×Int)} {z:Str} {n:Int},aH.lookup z=some n→lookup (.str z) (aH.map fun p=>(dU p.1,rL p.2))=some (.int n)
 |[],_,_,h=>nomatch h
 |(x,m)::r,z,n,h=>by
  show(if same (.str x) (.str z)then some (rL m)else lookup (.str z) (r.map fun p=>(dU p.1,rL p.2)))=some (.int n);rw[PyProof.V.same_str,iD]at *;by_cases e:x=z
  ·subst e;rw[beq_self_eq_true]at h;injection h with h;rw[decide_eq_true rfl,if_pos rfl,h]
  ·rw[beq_eq_false_iff_ne.mpr (fun q=>e q.symm)]at h;rw[decide_eq_false e,if_neg bK];exact Na h
theorem Jg{K:aq}{w:av}{a:Addr}{aH:List (Str×Int)}(hK:X.K=K)(hw:X.w=w)(T:so w K a aH):lv X (Sv a aH):=by
 subst hK hw;intro value slice aa s σ H x y v u Q I rx ry h hs;obtain⟨z,n,rfl,rfl,hl,q⟩:=h;obtain rfl:v=aZ a:=rx;obtain⟨t,rfl⟩:=ry;have D:=T.dict (h:=s.heap) I.kIn;obtain⟨lo,vs,hd,hp⟩:=D;obtain⟨v,as,hv,hr⟩:=hp.valueAt_of_lookup same_str (Na hl);refine AK hd.typeIs PZ.lookup (Qg (vC X.prog X.w z t) hd.mapOf hv ?_) hs;cases hr with
 |int i t'=>exact⟨.int n,H,I.tok _,⟨_,rfl⟩,q⟩
end
section
variable{X:Cx}{CX:c9}{k:Nat}{f:Addr}{fd:FuncData}{ps:List Str}{sp:Sp}{ds:List Value}{dvs:List V}{E:XK}{x:Str}{p pos:Pos}{e:Expr}{es:List Expr}{t:TA}{i:Nat}
def Ih(i:Nat)(f:Addr)(sp:Sp)(dvs:List V)(E:XK)(t:TA):TE:=fun σ H Q=>σ[i]?=some (some (.ref f))∧sH sp dvs E t σ H Q
theorem Xm(F:aM X.prog X.w X.K X.mg X.base CX k f fd ps sp)(hr:cA k X.A)(hn:PE X (.Name x p) (xa i))(hk:js X.K (.ref f)=true)(hb:fH X.K fd ps ds)(hd:aP dvs ds)(hx:jv CX X E)
  (ha:PA X (e::es) t) (he:bz (e::es) X.env=(false,eval e X.env)::bz es X.env:=by rfl) (hpl:(dN pos (bz es X.env)).any (·.1)=false:=by rfl) :
  PE X (.Call (.Name x p) (e::es) [] pos) (Ih i f sp dvs E t):=fun aa s σ H Q I h=>
 nL (aK (hn aa s σ H (fun v H'=>v=.ref f∧H'=H) I ⟨_,h.1,rfl,rfl⟩) fun u s1 ⟨v,H1,I1,rv,ev,eh⟩=>by
  subst ev eh;obtain rfl:u=aZ f:=rv;refine ny (h₀:=X.base) I1.ok.mod.kin hk (aK (ha pos aa s1 σ _ _ I1 h.2) fun us s2 ⟨vs,H2,I2,r,q⟩=>⟨I2.kIn,?_⟩) he hpl;exact uo F hr hb hd hx I2 r q)
theorem Yj{Q:VK}{σ : St}{H:Hp}(h1:σ[i]?=some (some (.ref f)))(h:sH sp dvs E t σ H Q):Ih i f sp dvs E t σ H Q:=⟨h1,h⟩
end
theorem Zk{K:aq}{a:Addr}{xs:List V}{g:TG}{tb:TS}{D:fi}{σ : St}{H:Hp}(Pv:Nat→St→Hp→Prop)(h0:Pv 0 σ H)(hl:∀i σ H,i≤xs.length→Pv i σ H→ay K H a xs)
  (hs:∀i x p σ H H',xs[i]?=some x→Pv i σ H→bS H p (.tup [.int (i:Int),x]) H'→g (.ref p) σ H' fun σ2 H2=>tb {D with nx:=Pv (i+1),ct:=Pv (i+1),bk:=D.nx} σ2 H2) (hd:∀σ H,Pv xs.length σ H→D.nx σ H) :
  ∃W:Nat→Nat→St→Hp→Prop,(∃m,W 0 m σ H)∧∀i m σ H,W i m σ H→
   ((pb K a).stop i H∧D.nx σ H)∨((pb K a).go i H∧∃N:St→Hp→Prop,(∀σ' H',N σ' H'→∃m',m'<m∧W (i+1) m' σ' H')∧∀x H',(pb K a).yld i H x H'→g x σ H' fun σ2 H2=>tb {D with nx:=N,ct:=N,bk:=D.nx} σ2 H2):=by
 refine⟨fun i m σ H=>m=xs.length-i∧i≤xs.length∧Pv i σ H,⟨_,rfl,fe _,h0⟩,?_⟩;rintro i m σ H ⟨rfl,hi,p⟩;have q1:=hl i σ H hi p;by_cases hlt:i<xs.length
 ·refine .inr ⟨⟨xs,xs[i],q1,by simp[hlt]⟩,Pv (i+1),fun σ' H' p'=>⟨xs.length-(i+1),by omega,rfl,hlt,p'⟩,fun x H' y=>?_⟩;obtain⟨pp,u,rfl,nw,y1⟩:=y;exact hs i u pp σ H H' (y1 xs q1) p nw
 ·have e:i=xs.length:=by omega
  rw[e]at p⊢;exact .inl ⟨⟨xs,q1,bv _⟩,hd σ H p⟩
end L2
namespace L2
open PySem PySem.Spec PyProof.Rows
theorem Mu:∀{xs:List V} {us:List Value},aP xs us→∀{i:Nat} {u:Value},us[i]?=some u→∃x,xs[i]?=some x∧bc x u
 |_,_,.nil,i,u,h=>by simp at h
 |_,_,.cons r t,0,u,h=>by simp at h;subst h;exact⟨_,rfl,r⟩
 |_,_,.cons r t,i+1,u,h=>by simpa using Mu t (by simpa using h)
theorem KI:∀{xs:List V} {us:List Value},aP xs us→∀(j:Nat),aP (xs.eraseIdx j) (us.eraseIdx j)
 |_,_,.nil,j=>.nil
 |_,_,.cons r t,0=>t
 |_,_,.cons r t,j+1=>.cons r (KI t j)
theorem JF{k:Int}:∀{ns:List Int},k∈ns→(ns.erase k).map V.int=(ns.map V.int).eraseIdx (ns.idxOf k)
 |[],h=>nomatch h
 |n::r,h=>by
  by_cases e:n=k
  ·subst e;simp
  ·have hk:k∈r:=by
    rcases bu.mp h with z|z
    ·exact absurd z.symm e
    ·exact z
   have ih:=JF hk;have eb:(n==k)=false:=by simpa using e
   rw[List.erase_cons,eb,List.idxOf_cons,eb];simp[ih]
def QC(k:Int):Value→Bool
 |.int n _=>n==k
 |_=>false
section
variable{X:Cx}
theorem IZ:mv X "list.remove" (fun x vs H Q=>∃(l:Addr) (ns:List Int) (k:Int),x=.ref l∧vs=[.int k]∧H l=some (.lst (ns.map V.int))∧k∈ns∧∀H2,cT H l (.lst ((ns.erase k).map V.int)) H2→Q .non H2):=by
 intro aa s σ H x vs v us Q I rx rv h;obtain⟨l,ns,k,rfl,rfl,hH,hk,q⟩:=h;cases rx;obtain⟨u,rfl,t,rfl⟩:=rv.one;obtain⟨z,its,n,r,hl,e⟩:=I.lstM hH;have hj:ns.idxOf k<ns.length:=List.idxOf_lt_length_iff.mpr hk;have hln:its.length=ns.length:=by have:=r.length;rw[bo]at this;omega
 have val:∀m (hm:m<its.toArray.size),∃t',its.toArray[m]=nG ns[m]! t':=fun m hm=>by
  have hm':m<its.length:=by simpa using hm
  obtain⟨x,hx,rx⟩:=Mu r (cL hm');rw[iC,cL (show m<ns.length by omega)]at hx;injection hx with hx;subst hx;obtain⟨t',et⟩:=(show∃t',its[m]=nG ns[m] t' from rx);refine⟨t',?_⟩;rw[OA,et,getElem!_pos ns m (by omega)]
 refine qb Fm ⟨_,e,rfl⟩ F.entry_list_remove (F.args_list_remove_2 _ _) (MeetsSeq.list_remove l its.toArray n (.int k t) (QC k) ?_ (ns.idxOf k) (by simpa[hln]using hj) ?_ ?_ (by rw[dM];omega)) ⟨e,?_⟩
 ·intro y hy;obtain⟨m,hm,rfl⟩:=Array.mem_iff_getElem.mp hy;obtain⟨t',et⟩:=val m hm;rw[et];exact acR _ k t' t
 ·obtain⟨t',et⟩:=val (ns.idxOf k) (by simpa[hln]using hj);rw[et];show(ns[ns.idxOf k]! == k)=true;rw[getElem!_pos ns _ hj,List.getElem_idxOf];exact beq_self_eq_true k
 ·intro m hm hlt;obtain⟨t',et⟩:=val m hm;rw[et];show(ns[m]! == k)=false;have hm':m<ns.length:=by omega
  rw[getElem!_pos ns m hm'];have:=List.not_of_lt_findIdx (xs:=ns) (p:=fun x=>x==k) (i:=m) (by exact hlt);simpa using this
 ·refine⟨.non,_,I.lset (its':=its.eraseIdx (ns.idxOf k)) hH e ?_ (KI r (ns.idxOf k)) ?_,rfl,q _ ?_⟩
  ·show its.toArray.eraseIdxIfInBounds (ns.idxOf k)=(its.eraseIdx (ns.idxOf k)).toArray;rw[Ov]
  ·have:=List.length_eraseIdx_le (ns.map V.int) (ns.idxOf k);omega
  ·rw[JF hk];exact cT.mk' _ _ _
end
theorem Ng{H:Hp}{a:Addr}{ns:List Int}{k:Int}{R:Hp→Prop}(h1:H a=some (.lst (ns.map V.int)))(hk:k∈ns)(h:∀H2,cT H a (.lst ((ns.erase k).map V.int)) H2→R H2):
  ∃(l:Addr) (ns:List Int) (k':Int),V.ref a=.ref l∧[V.int k]=[.int k']∧H l=some (.lst (ns.map V.int))∧k'∈ns∧∀H2,cT H l (.lst ((ns.erase k').map V.int)) H2→R H2:=⟨a,ns,k,rfl,rfl,h1,hk,h⟩
end L2
namespace L3
open PySem PySem.W PyProof.Rows L2
abbrev cR:=adQ
theorem wR:gR=cR:=adr
abbrev eO:=@adI
theorem aap:@segRunT=eO:=adk
abbrev goF:=@adJ
abbrev E1:=@adT
theorem abT:@topGo=E1:=adu
abbrev xp:=@adR
theorem Y7:@segRun=xp:=ads
abbrev DJ:=@adP
theorem abj:@topRun=DJ:=adq
abbrev DQ:=@adN
theorem Xl:@AG=DQ:=ado
abbrev uO:=@ad0
theorem YE:@PX=uO:=adB
abbrev Co:=@adZ
theorem WK:@seen=Co:=adA
abbrev uf:=@adX
theorem Lc:@recsOf=uf:=ady
abbrev Bq:=@ad1
theorem aaI:@ownsOf=Bq:=adC
abbrev BL:=@adK
theorem Vj:@Heap.keysOk=BL:=adl
abbrev lM:=@ad5
theorem JI:@looseW=lM:=adG
abbrev Cc:=@ad4
theorem abO:@litsOf=Cc:=adF
abbrev C5:=@adO
theorem Wp:@clssOf=C5:=adp
abbrev Bm:=@adS
theorem ab4:@Heap.accountedOkI=Bm:=adt
abbrev EB:=@adL
theorem UA:@tablesOk=EB:=adm
abbrev CI:=@adY
theorem aa8:@tabsOk=CI:=adz
abbrev AX:=@adU
theorem acg:@pinSeenD=AX:=adv
abbrev sj:=@adW
theorem V7:@drecsOf=sj:=adx
abbrev AY:=@adV
theorem RH:@plainSeenE=AY:=adw
abbrev DK:=@adM
theorem U4:@plainSeenD=DK:=adn
abbrev CJ:=@ad2
theorem Te:@wideSeen=CJ:=adD
abbrev EH:=@ad3
theorem acp:@clsSeenW=EH:=adE
abbrev Mc:=@ad6
theorem Y3:@Heap.nsMap=Mc:=adH
def cu(l:List aw)(a k:Nat):List aw:=(l.drop a).take k
def alt:List Obj→List Obj
 |[]=>[]
 |[x]=>[x]
 |x::_::r=>x::alt r
def tr:Nat→List Obj→BT
 | 0,_=>.nil
 |_+1,[]=>.nil
 |n+1,x::r=>.node x (tr n (alt r)) (tr n (alt r.tail))
def sq(l:List Nat):Str:=Str.mk (pI l)
def en(P:nr)(x:Str)(n:Nat)(v:Value):Fh:=.mk (adi P x) (.str x n) v
def fo(x q:Str)(st:aw)(dV kV doc pm:Value)(an:Option Addr)(bM ct:Value):Obj:=.mk (.type "function") none (.func (fB x q (fO st) (eJ st) (aB st) dV kV doc pm an bM ct)) (pI [])
def co(x q:Str)(st:aw)(dV kV doc pm:Value)(an:Option Addr)(bM ct:Value):Obj:=.mk .none none (.func {name:=x,qualname:=q,params:=fO st,body:=.stmts (eJ st),scope:=aB st,globals:=0,closure:=[],defaults:=dV,kwdefaults:=kV,doc:=doc,pyModule:=pm,annotations:=an,code:=bM,closureTuple:=ct,builtins:=0}) (pI [])
def dn(s:aw):Str:=match s with
 |.FunctionDef n _ _ _ _ _ _ _ _ _=>n
 |_=>sq []
abbrev vN:Value:=.none
def pk(is:List Nat)(l:List aw):List aw:=is.filterMap fun i=>l[i]?
def lf:Life:=adh [] [] [] 0 [] [] rB (FF []) [] 0 rB rB rB 0 [2000,10,10] rB 0 Bool.true [] [] 0 rB
def dr:Drawn:=acT 0 0 0 0
abbrev ng:Array zR:=pI []
abbrev St(l:List Obj)(n k:Nat)(os:bL):SharedT:=⟨tr 16 l,n,lf,ng,dr,k,os⟩
abbrev Se(l:List Obj)(k:Nat)(os:bL):Shared:=⟨⟨pI l,lf⟩,ng,dr,k,os⟩
section
variable{p:aG}{w:av}{m:Nat}{an:Option Value}{env:Env}{q:Pos}{n N:Nat}{r:Shared}{b:List aw}
theorem fE{S S':SharedT}{l bO:List aw}{pos p':Pos}(h:eO cR p w m an 1 n S (piecesOf l env (.body b env) pos [topFrame q])=some (.next,S',.body b env,p'))
  (k:topRun gR p w m an N S'.abs (restOf bO env (.body b env) p' [topFrame q])=some r):topRun gR p w m an (n+N) S.abs (restOf (l++bO) env (.body b env) pos [topFrame q])=some r:=by
 rw[←aap,←wR]at h;exact piece_app (segRun_of h) k
theorem Wy{s:Shared}{S:SharedT}{pos p':Pos}(h:xp cR p w m an 1 n s (blockOf b env (.body b env) pos [topFrame q])=some (.next,S.abs,.body b env,p'))
  (k:topRun gR p w m an N S.abs (restOf b env (.body b env) p' [topFrame q])=some r):topRun gR p w m an (n+N) s ⟨AG gR (.body b env),.body b env,pos,[topFrame q]⟩=some r:=by
 rw[←Y7,←wR]at h;exact piece_block h k
theorem QU{s:Shared}{S:SharedT}{l:List aw}{pos p':Pos}(h:xp cR p w m an 1 n s (blockOf b env (.body b env) pos [topFrame q])=some (.next,S.abs,.body b env,p'))(e:b=l)
  (k:topRun gR p w m an N S.abs (restOf l env (.body b env) p' [topFrame q])=some r):topRun gR p w m an (n+N) s ⟨AG gR (.body b env),.body b env,pos,[topFrame q]⟩=some r:=Wy h (by rw[show restOf b env (.body b env) p' [topFrame q]=restOf l env (.body b env) p' [topFrame q]from congrArg (fun z=>restOf z env (.body b env) p' [topFrame q]) e];exact k)
theorem first{s s':Shared}{t:Thread}{pos:Pos}(h:E1 cR p w m an n s t=some (s',⟨DQ cR (.body b env),.body b env,pos,[topFrame q]⟩))
  (k:topRun gR p w m an N s' ⟨AG gR (.body b env),.body b env,pos,[topFrame q]⟩=some r):topRun gR p w m an (n+N) s t=some r:=by
 rw[←abT,←Xl,←wR]at h;exact go_top h k
theorem R6{s:Shared}{t:Thread}(h:DJ cR p w m an n s t=some r):topRun gR p w m an n s t=some r:=by
 rw[←abj,←wR]at h;exact h
end
theorem acd(w:av):((boot_heap w.params).isNs fV&&(ng.size==0),(boot_heap w.params).objs.size,(boot_heap w.params).nsMap fV "__annotations__")=(true,11,some (.ref 6)):=by
 have h:Mc (boot_heap w.params) fV (sq [95,95,97,110,110,111,116,97,116,105,111,110,115,95,95])=some (.ref 6):=by kernel_rfl
 rw[←Y3]at h;have e:("__annotations__" : Str)=sq [95,95,97,110,110,111,116,97,116,105,111,110,115,95,95]:=adj ['_','_','a','n','n','o','t','a','t','i','o','n','s','_','_'];rw[e,h]
 kernel_rfl
section
variable{p q:aG}{loose:List Str}{vs:List (Str×WData)}{α : Type}{Yf:Shared→α}{Ya:av→α}{N M k:Nat}{H:nr→List Obj}
theorem Q2(e:opening p=plainProg p.main.scope.names)(hN:Nat.ble 600 N=true)(f:∀s,PV p s=some s)
  (run:∀(w:av) (os:bL),topRun gR p w 11 (some (.ref 6)) M ⟨boot_heap w.params,ng,boot_drawn,boot_toks,os⟩ (topStub p)=some (Se (H w.params) k os)) (le:Nat.ble M N=true)
  (l0:∀(w:av) (os:bL),(staticsOk (uO p.main.body) (boot_heap w.params) (Se (H w.params) k os).heap&&namesBound p (Se (H w.params) k os).heap&&gensDone (Se (H w.params) k os)&&laidKept (boot_heap w.params) (Se (H w.params) k os).heap)=true)
  (l1:∀(w:av) (os:bL),Co (nu (fun x=>x.name) (uf q)) (Bq q) [] (Se (H w.params) k os)=expectedOf q)
  (l2:∀(w:av) (os:bL),(Se (H w.params) k os).heap.bltView=PL)
  (l3:∀(w:av) (os:bL),(BL (Se (H w.params) k os).heap (lM q loose) (nu (fun x=>x.name) (uf q)) (nu (fun x=>x.fst) (Cc q)) (nu (fun x=>x.name) (C5 q (lM q loose)))&&Bm (Se (H w.params) k os).heap (uO p.main.body) &&
   (Se (H w.params) k os).heap.isNs fV&&(Se (H w.params) k os).heap.isNs rP&&EB q (Se (H w.params) k os).heap&&(xlAt q vs (Se (H w.params) k os)&&recOk [] (Se (H w.params) k os)))=true)
  (l4:∀(w:av) (os:bL),CI q (Se (H w.params) k os)=true)
  (l5:∀(w:av) (os:bL),AX q (sj q) (Se (H w.params) k os)=pinGoodD (sj q))
  (l6:∀(w:av) (os:bL),AY q (lM q loose) (Se (H w.params) k os)=plainGoodE q (lM q loose))
  (l7:∀(w:av) (os:bL),DK q loose (Se (H w.params) k os)=plainGoodD q loose)
  (l8:∀(w:av) (os:bL),CJ q (Se (H w.params) k os)=wideGood q)
  (l9:∀(w:av) (os:bL),EH q loose (Se (H w.params) k os)=clsGoodW q loose)
  (qz:∀(w:av) (os:bL),Yf (Se (H w.params) k os)=Ya w):LeftO p q loose (fun s=>xlAt q vs s&&recOk [] s) Yf Ya N true:=by
 refine LeftO.of_pieces (H₁:=fun P=>⟨pI (H P),lf⟩) (boot_open e hN f) acd run le fun w=>funext fun os=>?_;have h0:=l0 w os;have h1:=l1 w os;have h2:=l2 w os;have h3:=l3 w os;have h4:=l4 w os;have h5:=l5 w os;have h6:=l6 w os;have h7:=l7 w os;have h8:=l8 w os;have h9:=l9 w os;rw[←YE]at h0 h3;rw[←WK,←Ph,←Lc,←aaI]at h1;rw[←Vj,←JI,←Ph,←Lc,←abO,←Wp,←ab4,←UA]at h3;rw[←aa8]at h4;rw[←acg,←V7]at h5;rw[←RH,←JI]at h6;rw[←U4]at h7;rw[←Te]at h8;rw[←acp]at h9;have h3':((Se (H w.params) k os).heap.keysOk (looseW q loose) ((recsOf q).map (·.name)) ((litsOf q).map (·.1)) ((clssOf q (looseW q loose)).map (·.name))&&(Se (H w.params) k os).heap.accountedOkI (PX p.main.body)&&(Se (H w.params) k os).heap.isNs fV&&(Se (H w.params) k os).heap.isNs rP&&tablesOk q (Se (H w.params) k os).heap&&(xlAt q vs (Se (H w.params) k os)&&recOk [] (Se (H w.params) k os))&&(if true=true then(Se (H w.params) k os).gens.size==0 else !leftWithCleanup (Se (H w.params) k os).gens))=true:=by
  rw[h3];rfl
 exact looks_pair h0 (looks_pair (looks_pair h1 (looks_pair h2 (looks_pair h3' (looks_pair h4 (looks_pair h5 (looks_pair h6 (looks_pair h7 (looks_pair h8 h9)))))))) (qz w os))
end
end L3
namespace L2
open PySem PySem.Spec PyProof.Rows PySem.W
open Builtin Builtin.Str in
def cY(x y:Str):Str×Str×Str:=match occurrences x y 0 x.length 1 with
 |i::_=>(strSub x 0 i,y,strSub x (i+y.length) x.length)
 |[]=>(x,mf,mf)
section
variable{prog:aG}{w:av}{A:bH}{E:Value→Shared→Prop}{s:Shared}
open Builtin Builtin.Str in
theorem Ub{x y:Str}{t u:Tok}{Q:Value→Shared→Prop}(hy:(y.length==0)=false)(hx:x.length≤sizeLine)
  (h:∀(t1 t2 t3:Tok) (k:Nat),Q (.ref s.heap.objs.size) {s with toks:=k,heap:=s.heap.push {cls:=.type "tuple",data:=.seq [.str (cY x y).1 t1,.str (cY x y).2.1 t2,.str (cY x y).2.2 t3].toArray}}) :
  ax (au prog w) A (call (.builtin "str.partition") [.str x t,.str y u]) Q E s:=by
 refine qb Oc (kN _ _ _) F.entry_str_partition (F.args_str_partition_2 _ _) (S:=fun _ R s=>∀(R':Prop),((∀(t1 t2 t3:Tok) (k:Nat),R (.ok (.ret (.ref s.heap.objs.size))) {s with toks:=k,heap:=s.heap.push {cls:=.type "tuple",data:=.seq [.str (cY x y).1 t1,.str (cY x y).2.1 t2,.str (cY x y).2.2 t3].toArray}})→R')→R') ?_ ?_
 ·obtain⟨raising,htree⟩:=partition_tree x y t u;refine .of_wp fun prog w A R s h=>?_;have h':∀(t1 t2 t3:Tok) (k:Nat),R (.ok (.ret (.ref s.heap.objs.size))) {s with toks:=k,heap:=s.heap.push {cls:=.type "tuple",data:=.seq [.str (cY x y).1 t1,.str (cY x y).2.1 t2,.str (cY x y).2.2 t3].toArray}}:=h _ id;rw[htree,hy];show ax _ _ (match occurrences x y 0 x.length 1 with
   |i::_=>(do ret (←newTuple [←mkStr (strSub x 0 i),.str y u,←mkStr (strSub x (i+y.length) x.length)]))
   |[]=>(do rule "str.partition.not-found";let empty ←mkStr mf;ret (←newTuple [.str x t,empty,empty]))) _ _ s
  unfold cY at h';revert h';cases occurrences x y 0 x.length 1 with
  |nil=>
   intro h';exact aE (wpAny_rule (aE (Gj (aE (Ql (wpAny_pure ⟨_,rfl,h' _ _ _ _⟩) (by show 3≤sizeLine;decide))) (by decide))))
  |cons i r=>
   intro h';exact aE (Gj (aE (Gj (aE (Ql (wpAny_pure ⟨_,rfl,h' _ _ _ _⟩) (by show 3≤sizeLine;decide))) (cB (Qb ..) hx))) (cB (Qb ..) hx))
 ·intro R' k;exact k h
end
section
variable{X:Cx}
theorem Rk:oM X "str.partition" (fun x xs H Q=>∃z y:Str,x=.str z∧xs=[.str y]∧(y.length==0)=false∧z.length≤1000000∧∀(p:Addr) (H':Hp),bS H p (.tup [.str (cY z y).1,.str (cY z y).2.1,.str (cY z y).2.2]) H'→Q (.ref p) H'):=by
 intro aa s σ H x xs v us Q I rx rs h;obtain⟨z,y,rfl,rfl,hy,hz,q⟩:=h;obtain⟨t,rfl⟩:=rx;obtain⟨u,rfl,u',rfl⟩:=iE rs;have sz:(1000002:Nat)≤sizeLine:=by decide
 refine Ub hy (by omega) fun t1 t2 t3 k=>?_;have I2:=I.laid (h':=s.heap.push {cls:=.type "tuple",data:=.seq [.str (cY z y).1 t1,.str (cY z y).2.1 t2,.str (cY z y).2.2 t3].toArray}) (a:=s.heap.objs.size) (o:=.tup [.str (cY z y).1,.str (cY z y).2.1,.str (cY z y).2.2]) (t':=k) (fun _ _ e=>dL _ e) (bv _)
  ⟨by show 3≤sizeLine;decide,[.str (cY z y).1 t1,.str (cY z y).2.1 t2,.str (cY z y).2.2 t3],.cons ⟨t1,rfl⟩ (.cons ⟨t2,rfl⟩ (.cons ⟨t3,rfl⟩ .nil)),_,iA _ rfl,rfl,_,rfl⟩
 exact⟨.ref s.heap.objs.size,_,I2,rfl,q _ _ (bS.mk' (I.hok.fresh (bv _)) _)⟩
theorem aaL(ts:List Str)(z:Str):((ts.map dU).any fun e=>kL e (.str z))=decide (z∈ts):=by
 induction ts with
 |nil=>rfl
 |cons a r ih=>
  rw[eD,vk,ih];have e:kL (.str a) (.str z)=decide (a=z):=by
   show(a==z)=_;exact lQ a z
  rw[e];by_cases c:a=z
  ·subst c;simp
  ·rw[decide_eq_false c,E8];exact decide_eq_decide.mpr ⟨fun h=>.tail _ h,fun h=>by rcases bu.mp h with h|h;exact absurd h.symm c;exact h⟩
theorem qC{K:Frag}{H:Hp}:∀ts:List Str,nR K H (ts.map V.str) (ts.map dU)
 |[]=>.nil
 |t::r=>.cons (.str t) (qC r)
theorem C7:∀{ts:List Str},(∀t∈ts,b8 t=true)→vz (ts.map dU)=true
 |[],_=>rfl
 |t::r,h=>by
  rw[eD,vz,vy,h t (.head _),C7 fun x hx=>h x (.tail _ hx)];rfl
theorem Bs:∀ts:List Str,rK (ts.map dU)=0
 |[]=>rfl
 |t::r=>by
  show max (Ap (.str t)) (rK (r.map dU))=0;rw[Bs r];rfl
def IF(K:Frag):R2:=fun x y H Q=>∃(z:Str) (a:Addr) (ts:List Str),x=.str z∧y=.ref a∧di K H a (ts.map V.str)∧b8 z=true∧(∀t∈ts,b8 t=true)∧Q (.bl (decide (z∈ts))) H
theorem KY{K:Frag}(hK:X.K=K)(hu:X.A.units+64<pZ):bE X (dw .In) (IF K):=by
 subst hK;intro aa s σ H x y v u Q I rx ry h;obtain⟨z,a,ts,rfl,rfl,hq,hz,ht,q⟩:=h;obtain⟨as,ra⟩:=(fR.str z:fR X.K H (.str z) (.str z)).reads I rx;obtain⟨bs,rb⟩:=(fR.tup hq (qC ts)).reads I ry;refine SeqAt.in_tuple_reads rb ra (C7 ht) (by rw[vy];exact hz) (by have:=OZ (rK (ts.map dU)) (Ap (.str z));rw[Bs]at this⊢;omega) ⟨.bl _,H,I,rfl,?_⟩;rw[aaL];exact q
end
theorem LI{K:Frag}{H:Hp}{z:Str}{a:Addr}{ts:List Str}{Q:VK}(hq:di K H a (ts.map V.str))(hz:b8 z=true)(ht:∀t∈ts,b8 t=true)(h:Q (.bl (decide (z∈ts))) H):IF K (.str z) (.ref a) H Q:=⟨z,a,ts,rfl,rfl,hq,hz,ht,h⟩
theorem acx{K:Frag}{H:Hp}{a:Addr}{o:Obj}{l:List (Str×Tok)}{ts:List Str}{n:Nat}(h:K.lookup a=some o)(hc:o.cls=.type "tuple")(hd:o.data=.seq (strValues l).toArray n)(hl:l.length≤1000)(e:l.map (·.1)=ts):di K H a (ts.map V.str):=by
 subst e;have sz:(1000:Nat)≤sizeLine:=by decide
 refine .inr ⟨o,_,n,h,hc,hd,?_,by simpa using Cf l⟩;rw[dM];have:(strValues l).length=l.length:=by unfold strValues;rw[bo]
 omega
def ui(K:Frag)(a:Addr)(ts:List Str):Prop:=∃(o:Obj) (l:List (Str×Tok)) (n:Nat),K.lookup a=some o∧o.cls=.type "tuple"∧o.data=.seq (strValues l).toArray n∧l.length≤1000∧l.map (·.1)=ts
theorem ui.at_{K:Frag}{H:Hp}{a:Addr}{ts:List Str}(h:ui K a ts):di K H a (ts.map V.str):=by
 obtain⟨o,l,n,h1,h2,h3,h4,h5⟩:=h;exact acx h1 h2 h3 h4 h5
theorem Kf:∀ts us:List Str,kL (.list (ts.map dU)) (.list (us.map dU))=decide (ts=us):=by
 have key:∀ts us:List Str,pT (ts.map dU) (us.map dU)=decide (ts=us):=by
  intro ts
  induction ts with
  |nil=>intro us;cases us<;>rfl
  |cons a r ih=>
   intro us;cases us with
   |nil=>rfl
   |cons b t=>
    show((kL (.str a) (.str b))&&pT (r.map dU) (t.map dU))=_;rw[ih,show kL (.str a) (.str b)=decide (a=b)from lQ a b,←NZ];exact decide_eq_decide.mpr ⟨fun h=>by rw[h.1,h.2],fun h=>by injection h with h1 h2;exact⟨h1,h2⟩⟩
 exact key
theorem xq{ts:List Str}(h:∀t∈ts,b8 t=true):nE (.list (ts.map dU))=true:=by
 unfold nE;refine vg.mpr ⟨C7 h,decide_eq_true ?_⟩;show rK (ts.map dU)+1≤64;rw[Bs]
 decide
section
variable{K:Frag}{H:Hp}{a b:Addr}{ts us:List Str}{Q:VK}
theorem Hl(h1:ay K H a (ts.map V.str))(h2:ay K H b (us.map V.str))(k1:∀t∈ts,b8 t=true)(k2:∀t∈us,b8 t=true)(h:Q (.bl (decide (ts=us))) H):xJ K (.ref a) (.ref b) H Q:=
 ⟨.list (ts.map dU),.list (us.map dU),.lst h1 (qC ts),.lst h2 (qC us),xq k1,xq k2,by rw[Kf];exact h⟩
theorem JR(h1:ay K H a (ts.map V.str))(h2:ay K H b (us.map V.str))(k1:∀t∈ts,b8 t=true)(k2:∀t∈us,b8 t=true)(h:Q (.bl (!decide (ts=us))) H):xD K (.ref a) (.ref b) H Q:=
 ⟨.list (ts.map dU),.list (us.map dU),.lst h1 (qC ts),.lst h2 (qC us),xq k1,xq k2,by rw[Kf];exact h⟩
end
section
variable{X:Cx}{CX:c9}{k:Nat}{f C:Addr}{fd:FuncData}{ps:List Str}{sp:Sp}{G:St→XK}{o e:Expr}{es:List Expr}{m:Str}{ta:TE}{t:TA}{apos pos:Pos}
theorem xR{pl:Sem Bool}(he:PE X o ta)(c:fG X.K C)(hm:fM X.K C m f)(F:aM X.prog X.w X.K X.mg X.base CX k f fd ps sp)(hr:cA k X.A)(hb:fH X.K fd ps [])(hx:jY CX X G)(ha:PA X (e::es) t)
  (hst:bz (e::es) X.env=(false,eval e X.env)::bz es X.env:=by rfl) (hpl:(dN pos (bz es X.env)).any (·.1)=false:=by rfl)
  (ht:eval (.Call (.Attribute o m apos) (e::es) [] pos) X.env=(do
   let ov ←eval o X.env
   standAt apos.atName
   let(f,first) ←holding [ov] (getMethod ov m pl)
   vH pos f first (dN pos (bz (e::es) X.env)) (vG pos (vO [] X.env))):=by rfl) :
  PE X (.Call (.Attribute o m apos) (e::es) [] pos) (LB C m sp G ta t):=by
 intro aa s σ H Q I h;refine Aw (pl:=pl) (aK (he aa s σ H _ I h) fun u s1 aA=>?_) ht;obtain⟨x,H1,I1,rx,a,dx,fs,ex,ea,l,q⟩:=aA;subst ex;obtain rfl:u=aZ a:=rx;refine wu I1 ea c hm l ?_;refine ny (first:=[.ref a]) (h₀:=X.base) I.ok.mod.kin hm.kp (aK (ha pos aa s1 σ H1 _ I1 q) fun us s2 ⟨vs,H2,I2,r,q2⟩=>⟨I2.kIn,?_⟩) hst hpl;exact Ka (us:=.ref a::us) (vs:=.ref a::vs) F hr hb .nil hx I2 (.cons rfl r) q2
end
section
variable{X:Cx}{CX:c9}{k:Nat}{f C:Addr}{fd:FuncData}{ps:List Str}{sp:Sp}{E:XK}{x:Str}{p pos:Pos}{A:Hp→VK→Prop}
theorem zt(W:∀H1 Q,A H1 Q→∀x dx,H1 x=none→H1 dx=none→dx≠x→sp (.ref x::([]++[])) (L2.upd (L2.upd H1 dx (.own x)) x (.ins C dx [])) (fun v H2=>v=.non∧Q (.ref x) H2) E)
  (M:Mk X.K C f) (F:aM X.prog X.w X.K X.mg X.base CX k f fd ps sp) (hr:cA (k+1) X.A) (hg:Gl X x) (hm:X.mg x=some (.ref C)) (hb:fH X.K fd ps []) (hx:jv CX X E)
  (hdb:(x==("__debug__" : Str))=false:=by decide):PE X (.Call (.Name x p) [] [] pos) (fun _ H Q=>A H Q):=by
 intro aa s σ H Q I h;refine nL (mV I hg hm ?_ hdb);exact Pj I.kIn M.kp (NQ (us:=[]) M F hr hb .nil hx I .nil (W H Q h))
end
end L2
namespace L2
open PySem PySem.Spec PyProof.Rows PySem.W
section
variable{X:Cx}
theorem Le:bE X (eG .Mult) (fun x y H Q=>∃(z:Str) (n:Int),x=.str z∧y=.int n∧MulOk z n∧Q (.str (Txt.mul z n)) H):=by
 intro aa s σ H x y v u Q I rx ry h;obtain⟨z,n,rfl,rfl,ok,q⟩:=h;obtain⟨t,rfl⟩:=rx;obtain⟨t2,rfl⟩:=ry;exact SB.mul ok fun t' k=>⟨.str _,H,I.tok k,⟨_,rfl⟩,q⟩
end
section
variable{X:Cx}{CX:c9}{k1 k2:Nat}{f1 f2:Addr}{fd1 fd2:FuncData}{ps1 ps2:List Str}{sp1 sp2:Sp}{E:XK}{o i:Expr}{p pos:Pos}{e:Expr}{es:List Expr}{tf:TE}{t:TA}
end
end L2
namespace L2
open PySem PySem.Spec PyProof.Rows PySem.W
section
variable{X:Cx}
theorem oI:kX X (fun x lo hi H Q=>∃z,x=.str z∧z.length≤sizeLine∧Q (.str (gD z lo hi)) H):=by
 intro aa s σ H x v vl vu lo hi sl Q I rx hs pl pu h;obtain⟨z,rfl,hz,q⟩:=h;obtain⟨t,rfl⟩:=rx;cases pl with
 |int i ti=>
  cases pu with
  |int j tj=>exact⟨"str",_,zQ.lookup,kN _ _ _,AQ (l:=some (i,ti)) (u:=some (j,tj)) (st:=none) hs rfl (AI ⟨cB (vD z (some i) (some j)) hz,fun t' k=>⟨.str _,H,I.tok k,⟨t',rfl⟩,q⟩⟩)⟩
  |none=>exact⟨"str",_,zQ.lookup,kN _ _ _,AQ (l:=some (i,ti)) (u:=none) (st:=none) hs rfl (AI ⟨cB (vD z (some i) none) hz,fun t' k=>⟨.str _,H,I.tok k,⟨t',rfl⟩,q⟩⟩)⟩
 |none=>
  cases pu with
  |int j tj=>exact⟨"str",_,zQ.lookup,kN _ _ _,AQ (l:=none) (u:=some (j,tj)) (st:=none) hs rfl (AI ⟨cB (vD z none (some j)) hz,fun t' k=>⟨.str _,H,I.tok k,⟨t',rfl⟩,q⟩⟩)⟩
  |none=>exact⟨"str",_,zQ.lookup,kN _ _ _,AQ (l:=none) (u:=none) (st:=none) hs rfl (AI ⟨cB (vD z none none) hz,fun t' k=>⟨.str _,H,I.tok k,⟨t',rfl⟩,q⟩⟩)⟩
end
end L2
namespace L2
open PySem PySem.Spec PyProof.Rows PySem.W
section
variable{M:jq}{A:bH}{E:Value→Shared→Prop}{s:Shared}
theorem RU{base:Heap}{env:Env}{outer:List Env}{L e:Addr}{cls a0 fl:Value}{Q:Unit→Shared→Prop}(hfl:(fl==rawInt L)=false)
  (hfr:A.frames=some (env::outer)) (hl:s.heap.FunFrames base (env::outer)) (hf:env.frame=some L) (ht:s.heap.TracedAtW base e cls a0 fl) (hkb:base.StaysIn s.heap) (hen:base.get? e=none)
  (h:∀h',zV base (env::outer) e cls a0 (rawInt L) s.heap h'→(dI e s.heap→dI e h')→Q () {s with heap:=h'}):ax M A (ju (.ref e) env) Q E s:=by
 obtain⟨oe,vs,T,oT,ts,he,⟨hcls,h0⟩,hd,h1,hnT,hTe,hT,hdT,h3⟩:=ht;subst hcls;unfold ju;simp only[hf];refine aE (gF he hd h1 ?_);rw[if_pos (show(aZ T != cE)=true from by simp)];refine aE (gF hT hdT h3 ?_);rw[if_neg (by rw[hfl];exact bK)];refine aE (jX hT hdT (jn.mp h3).1 ?_);have other:∀b,b≠T→(s.heap.update T (eE (·.setIfInBounds 3 cE))).get? b=s.heap.get? b:=fun b hb=>iB _ _ (cH hb);have noRecord:∀b o,s.heap.get? b=some o→(∀vs,o.data≠.fields vs)→b≠T:=fun b o hb hnf q=>by
  rw[q,hT]at hb;injection hb with hb;subst hb;exact hnf ts hdT
 refine DH hfr (hl.of_keeps fun b o hb hnf=>⟨o,(other b (noRecord b o hb hnf)).trans hb,rfl⟩) hf ((other e (cH hTe)).trans he)
  (fun b o hbo=>(other b fun q=>by rw[q,hnT]at hbo;cases hbo).trans (hkb b o hbo)) hen hd (jn.mp h1).1 h0
  fun h' ⟨x1,x2,x3,x4⟩ x5=>h h' ⟨x1,x2,x3,fun b o hb hnf=>x4 b o ((other b (noRecord b o hb hnf)).trans hb) hnf⟩ fun⟨o2,vs2,y1,y2,y3⟩=>x5 ?_
 rw[he]at y1;cases y1;rw[hd]at y2;cases y2;exact y3
theorem UP{base:Heap}{env:Env}{outer:List Env}{L e:Addr}{cls a0 fl:Value}{Q:Unit→Shared→Prop}(hfr:A.frames=some (env::outer))(hf:env.frame=some L)
  (hkb:base.StaysIn s.heap) (hen:base.get? e=none) (hl:s.heap.FunFrames base (env::outer)) (ht:s.heap.TracedAtW base e cls a0 fl)
  (hQ:∀h',jO base outer e cls a0 h'→s.heap.UpToSlots h'→(dI e s.heap→dI e h')→Q () {s with heap:=h'}):ax M A (ja env (.ref e)) Q E s:=by
 cases hfl:(fl==rawInt L)with
 |true=>
  obtain rfl:fl=rawInt L:=F7 hfl;exact J6 hf ⟨hkb,hen,hl,ht⟩ hQ
 |false=>
  unfold ja;refine aE (RU hfl hfr hl hf ht hkb hen fun h1 ⟨k1,k2,k3,k4⟩ c1=>?_);refine tx (L:=L) ⟨k1,hen,k2,k3⟩ fun h2 ⟨k1,k2,⟨_,_,k3⟩,k4'⟩ y2 y3=>hQ h2 ⟨k1,k2,k3,k4'⟩ (Oe k4 y2) fun c=>y3 (c1 c)
end
section
variable{P:aG}{w:av}{K:aq}{mg:Str→Option Value}{base:Heap}{N:List Str}{qual:Str}{scope:cQ}{f:Addr}{cd:Value}{A:bH}{outer:List Env}{s₀ : Shared}{H₀ : Hp}{E:XK}
theorem WS{aa:List (Addr×Obj)}{σ : St}{H:Hp}{s:Shared}{e T:Addr}{oe oT:Obj}{vs ts:Array Value}{C a0 fl:Value}{k:Option Addr}(I:ag (aR (aC P w) P w K mg base N qual scope f cd A outer s₀ H₀ E) aa σ H s)
  (he:s.heap.get? e=some oe) (hcl:oe.cls=C) (hd:oe.data=.fields vs) (h0:vs[0]?=some a0) (h1:vs[1]?=some (.ref T)) (hTe:T≠e) (hT:s.heap.get? T=some oT) (hdT:oT.data=.fields ts)
  (h3:ts[3]?=some fl) (ne:H e=none) (nT:H T=none) (n0e:s₀.heap.get? e=none) (n0T:s₀.heap.get? T=none) (c0:k=none→dI e s.heap) (q:E C k H) :
  (aR (aC P w) P w K mg base N qual scope f cd A outer s₀ H₀ E).xe (.ref e) s:=by
 show ax _ _ (ja _ _) _ _ _;have hin:∀env∈(aR (aC P w) P w K mg base N qual scope f cd A outer s₀ H₀ E).stack,∀b,env.frame=some b→b∈e::T::bf (aR (aC P w) P w K mg base N qual scope f cd A outer s₀ H₀ E).stack:=fun env he b hb=>.tail _ (.tail _ (fu.mpr ⟨env,he,hb⟩));have hfr:=As I.stack hin;refine UP (base:=ma s.heap (e::T::bf (aR (aC P w) P w K mg base N qual scope f cd A outer s₀ H₀ E).stack)) (a0:=a0) (cls:=C) (fl:=fl) I.ok.frames rfl (fun b o z=>Ay _ z) (vA _ (.head _)) hfr
  ⟨oe,vs,T,oT,ts,he,⟨hcl,h0⟩,hd,h1,vA _ (.tail _ (.head _)),hTe,hT,hdT,h3⟩ fun h' fl sm c1=>?_
 have cov:ki (ma s.heap (e::T::bf (aR (aC P w) P w K mg base N qual scope f cd A outer s₀ H₀ E).stack)) (aR (aC P w) P w K mg base N qual scope f cd A outer s₀ H₀ E).stack s₀.heap H s.heap:=fun b o z nf alt=>by
  refine Au _ z fun hm=>?_;have no:∀{c:Addr},H c=none→s₀.heap.get? c=none→b=c→False:=fun{c} x y z=>by
   subst z;rcases alt with⟨v,hv⟩|⟨o0,e0⟩
   ·rw[x]at hv;cases hv
   ·rw[y]at e0;cases e0
  rcases bu.mp hm with z|hm
  ·exact no ne n0e z
  ·rcases bu.mp hm with z|hm
   ·exact no nT n0T z
   ·exact nf hm
 obtain⟨u',ok',cov'⟩:=JM (h':=h') rfl I cov fl.1 sm hfr;exact⟨e,C,H,_,a0,k,rfl,I.os,I.bare,u',ok',fl,cov',(fun z=>c1 (c0 z)),q⟩
end
end L2
namespace L2
open PySem PySem.Spec PyProof.Rows PySem.W
def Cx.compX(X:Cx)(N':List Str)(scope:cQ)(C:Addr)(s₀ : Shared)(H₀ : Hp)(fp:List Addr)(aa:List (Addr×Obj))(xe:Value→Shared→Prop):Cx:={X.comp N' scope C s₀ H₀ fp aa with xe:=xe}
section
variable{X:Cx}{N':List Str}{scope:cQ}{C:Addr}{s₀ : Shared}{H₀ : Hp}{fp:List Addr}{aa pl:List (Addr×Obj)}{xe:Value→Shared→Prop}{σ : St}{H:Hp}{s:Shared}
theorem ag.toX(I:ag (X.comp N' scope C s₀ H₀ fp aa) pl σ H s):ag (X.compX N' scope C s₀ H₀ fp aa xe) pl σ H s:=
 ⟨⟨I.ok.mod,I.ok.kind,I.ok.glob,I.ok.blt,I.ok.above,I.ok.inj,I.ok.has,I.ok.cab,I.ok.hd,I.ok.frames,I.ok.stk,I.ok.exf,I.ok.bs,I.ok.bsz,I.ok.noex,I.ok.exfs,I.ok.funs,I.ok.frf⟩,I.os,I.bare,I.base,I.loc,I.cell,I.free,I.freeC,I.pin,I.hok,I.len⟩
theorem ag.ofX(I:ag (X.compX N' scope C s₀ H₀ fp aa xe) pl σ H s):ag (X.comp N' scope C s₀ H₀ fp aa) pl σ H s:=
 ⟨⟨I.ok.mod,I.ok.kind,I.ok.glob,I.ok.blt,I.ok.above,I.ok.inj,I.ok.has,I.ok.cab,I.ok.hd,I.ok.frames,I.ok.stk,I.ok.exf,I.ok.bs,I.ok.bsz,I.ok.noex,I.ok.exfs,I.ok.funs,I.ok.frf⟩,I.os,I.bare,I.base,I.loc,I.cell,I.free,I.freeC,I.pin,I.hok,I.len⟩
end
section
variable{P:aG}{w:av}{K:aq}{mg:Str→Option Value}{base:Heap}{N:List Str}{qual:Str}{fscope:cQ}{f:Addr}{cd:Value}{A:bH}{outer:List Env}{s₀ : Shared}{H₀ : Hp}{E:XK}
variable{oN:List Str}{osc scope:cQ}{x:Str}{fr:List Str}{ix:List Nat}{aa:List (Addr×Obj)}{σ : St}
theorem Xe{use:Option (Value→Sem Unit)}{Q:Value→Shared→Prop}{acc:Value}{s2:Shared}{H2:Hp}{fp:List Addr}{xe:Value→Shared→Prop}{pl:List (Addr×Obj)}{σ1:St}{H1:Hp}{s1:Shared}{ev:Value}{s':Shared}
  (S:kS oN osc scope x fr ix) (hosc:(aR (aC P w) P w K mg base N qual fscope f cd A outer s₀ H₀ E).env.scope=osc) (I2:ag (aR (aC P w) P w K mg base N qual fscope f cd A outer s₀ H₀ E) aa σ H2 s2)
  (f2:∀b∈fp,cX (aR (aC P w) P w K mg base N qual fscope f cd A outer s₀ H₀ E) aa H2 b∧b<s2.heap.objs.size) (J:ag ((aR (aC P w) P w K mg base N qual fscope f cd A outer s₀ H₀ E).compX (x::fr) scope s2.heap.objs.size s2 H2 fp aa xe) pl σ1 H1 s1)
  (c:aC P w (aR (aC P w) P w K mg base N qual fscope f cd A outer s₀ H₀ E).stack H1 s1 E ev s') :
  jV (au P w) (aR (aC P w) P w K mg base N qual fscope f cd A outer s₀ H₀ E).A (mh scope (dP (aR (aC P w) P w K mg base N qual fscope f cd A outer s₀ H₀ E).env.cells scope.names []) s2.heap.objs.size (aR (aC P w) P w K mg base N qual fscope f cd A outer s₀ H₀ E).env)
   (fun e s''=>vJ (au P w) (aR (aC P w) P w K mg base N qual fscope f cd A outer s₀ H₀ E).A (aR (aC P w) P w K mg base N qual fscope f cd A outer s₀ H₀ E).xe use Q acc s2.heap.objs.size (.error e) s'') ev s':=by
 generalize hX:aR (aC P w) P w K mg base N qual fscope f cd A outer s₀ H₀ E=X at *;have hst:X.stack=X.env::X.outer∧X.env.frame=some X.env.locals:=by rw[←hX];exact⟨rfl,rfl⟩
 have hex:X.ex=[]:=by rw[←hX];rfl
 have hPw:X.prog=P∧X.w=w:=by rw[←hX];exact⟨rfl,rfl⟩
 obtain⟨e,C,H',B,a0,k,rfl,ho,hg,u,okk,fl,cov,c0,q⟩:=c;show ax _ _ (ju (.ref e) X.env) _ _ _;have fl0:jO B (X.env::X.outer) e C a0 s'.heap:=by rw[←hst.1];exact fl
 have hfr:X.A.frames=some (X.env::X.outer):=by rw[←hst.1];exact I2.ok.frames
 have hen:B.get? e=none:=fl.2.1;refine Ey hfr hst.2 fl0 fun h4 held sm4 c4=>?_;obtain⟨u4,ok4⟩:=BV (X:=X.compX (x::fr) scope s2.heap.objs.size s2 H2 fp aa xe) (h':=h4) J u (by show cq X.prog X.w H' s'.heap;rw[hPw.1,hPw.2];exact okk) cov held.1 sm4 fl.2.2.1;have J4:=J.call' (s':={s' with heap:=h4}) ho u4 ok4 hg (fun b z=>absurd z (by simp));obtain⟨K1,K2,m,hm⟩:=CG S hosc I2 f2 J4.ofX;have hm':=hm;obtain⟨oC,es,ep,hC,hdC,_⟩:=hm';obtain⟨oe,vs,T,oT,ts,he4,⟨hc,h0⟩,hd,h1,hnT,hTe,hT4,hdT,h3⟩:=held.2.2.2;have nofr:∀{b:Addr} {o:Obj} {us:Array Value},h4.get? b=some o→o.data=.fields us→b∉bf X.stack:=fun{b o us} x y z=>by
  rw[hst.1]at z;obtain⟨_,ob,hob,hn⟩:=held.2.2.1.mem z;rw[x]at hob;cases hob;exact hn us y
 have old:∀{b:Addr} {o:Obj},B.get? b=none→b∉bf X.stack→s1.heap.get? b=some o→False:=fun{b o} hb nf z=>by
  obtain⟨o2,e2⟩:=u.there b o z (by simp);have:=cov b o2 e2 nf (.inr ⟨o,z⟩);rw[hb]at this;cases this
 have new0:∀{b:Addr},B.get? b=none→b∉bf X.stack→X.s₀.heap.get? b=none:=fun{b} hb nf=>by
  cases q0:X.s₀.heap.get? b with
  |none=>rfl
  |some o=>
   obtain⟨o1,e1⟩:=I2.base.there b o q0 (by rw[hex];simp);by_cases hz:b∈fp
   ·rcases(f2 b hz).1.2.2.2.1 with z|z
    ·rw[hex]at z;simp at z
    ·exact absurd (dq (bC q0) z) (fA _)
   ·obtain⟨o3,e3⟩:=J.base.there b o1 e1 hz;exact(old hb nf e3).elim
 have newH:∀{b:Addr},B.get? b=none→b∉bf X.stack→H' b=none:=fun{b} hb nf=>by
  cases q0:H' b with
  |none=>rfl
  |some v=>
   obtain⟨o,ho⟩:=oi okk q0;have:=cov b o ho nf (.inl ⟨v,q0⟩);rw[hb]at this;cases this
 have nfe:=nofr he4 hd;have nfT:=nofr hT4 hdT;have npT:∀p∈X.pn++aa,p.1≠T:=fun p hp z=>by
  have:=(J.pin p (lV _ hp)).1;rw[z]at this;exact old hnT nfT this
 refine⟨m,hm,fun h5 sb cenv hce=>?_⟩;have K5:=K1.turned (h':=h5) (t':=s'.toks) (it:=s2.heap.objs.size) (fun b o hb e=>sb.extBut b o hb e) K2.1 K2.2.1 K2.2.2.2.1 K2.2.2.2.2.1 K2.2.2.2.2.2;have nl:∀{b:Addr} {o:Obj} {us:Array Value},h4.get? b=some o→o.data=.fields us→h5.get? b=some o:=fun{b o us} x y=>sb.extBut b o (fun z=>by
  rw[z]at x;rw[show h4.get? s2.heap.objs.size=some oC from hC]at x;cases x;rw[hdC]at y;cases y) x
 have hsz:3<ts.size:=(jn.mp h3).1;have he5:=nl he4 hd;have hT5:=nl hT4 hdT;unfold AA;refine aE (gF he5 hd h1 ?_)
 dsimp only
 rw[if_neg (show¬((aZ T==cE)=true)from by simp)];unfold mi;refine aE (aE (gF he5 hd h1 ?_));rw[if_pos (show(aZ T != cE)=true from by simp)];refine jX hT5 hdT hsz (AR ?_);generalize (cenv.frame.elim cE fun f=>rawInt f)=flv;have other:∀b,b≠T→(h5.update T (eE (·.setIfInBounds 3 flv))).get? b=h5.get? b:=fun b hb=>iB _ _ (cH hb);have self:=kI (eE (·.setIfInBounds 3 flv)) hT5 (rH (lY hdT _));have lo:X.env.locals∈bf X.stack:=by rw[hst.1];exact fu.mpr ⟨X.env,.head _,hst.2⟩
 have ou:∀b,b∈X.fs→b∈bf X.stack:=fun b hb=>by
  rw[hst.1];obtain⟨env,he',hf⟩:=fu.mp hb;exact fu.mpr ⟨env,.tail _ he',hf⟩
 have K6:=K5.besides (b:=T) (h':=h5.update T (eE (·.setIfInBounds 3 flv))) (new0 hnT nfT) npT (newH hnT nfT) (fun z=>nfT (z▸lo)) (fun z=>nfT (ou T z)) (fun y c z w'=>by
   obtain⟨v,o,ho,hv⟩:=K5.cell y c z;rw[w']at ho;rw[show h5.get? T=some oT from hT5]at ho;cases ho;rw[hdT]at hv;cases hv) other
 have n0e:=new0 hen nfe;have n0T:=new0 hnT nfT;subst hX;refine WS (k:=k) (fl:=flv) K6 ((other e (cH hTe)).trans he5) hc hd h0 h1 hTe self (lY hdT _) (by simp[hsz]) (newH hen nfe) (newH hnT nfT) n0e n0T (fun z=>?_) q;obtain⟨o2,vs2,y1,y2,y3⟩:=c4 (c0 z);exact⟨o2,vs2,(other e (cH hTe)).trans (nl y1 y2),y2,y3⟩
end
section
variable{X:Cx}{oN:List Str}{osc scope:cQ}{x:Str}{px pos:Pos}{fr:List Str}{ix:List Nat}{elt iter:Expr}{ifs:List Expr}{wi:TI}{tc:TT}{te:TE}
theorem RS{aa:List (Addr×Obj)}{σ : St}{s:Shared}{R:Addr→Hp→Prop}{itv:Value}{RR:Value→Addr→nD→Shared→Prop}{E:Value→Shared→Prop}{Ex:XK}
  (S:kS oN osc scope x fr ix) (hoN:X.N=oN) (hosc:X.env.scope=osc) (hc:X.calm=true)
  (ht:∀C s₀ H₀ fp pl,ka (X.comp (x::fr) scope C s₀ H₀ fp pl) ifs tc) (he:∀C s₀ H₀ fp pl xe,jY (aC X.prog X.w) (X.compX (x::fr) scope C s₀ H₀ fp pl xe) (fun _=>Ex)→PE (X.compX (x::fr) scope C s₀ H₀ fp pl xe) elt te)
  (hErr:∀(l:Addr) (s2:Shared) (H2:Hp) (fp:List Addr) (xe:Value→Shared→Prop) (pl:List (Addr×Obj)) (σ1:St) (H1:Hp) (s1:Shared) (ev:Value) (s':Shared),ag X aa σ H2 s2→(∀b∈fp,cX X aa H2 b∧b<s2.heap.objs.size)→
   ag (X.compX (x::fr) scope s2.heap.objs.size s2 H2 fp aa xe) pl σ1 H1 s1→aC X.prog X.w X.stack H1 s1 Ex ev s'→jV (au X.prog X.w) X.A (mh scope (dP X.env.cells scope.names []) s2.heap.objs.size X.env) (fun e s''=>RR (.ref l) s2.heap.objs.size (.error e) s'') ev s')
  (h2:sL X aa σ (.Name x px) (iF tc te ix σ R) itv s)
  (hRR:∀l C H5 s5,ag X aa σ H5 s5→cX X aa H5 C→(∃m,s5.heap.Ns C m)→R l H5→RR (.ref l) C (.ok .next) s5) :
  ax (au X.prog X.w) X.A (newList []) (fun acc s₃=>ax (au X.prog X.w) X.A (Gb scope X.env.globals (dP X.env.cells scope.names []) [] X.env.qual none .none (some X.env)) (fun cenv s₄=>
   gE (au X.prog X.w) X.A (.compStart (.ListComp elt [⟨.Name x px,iter,ifs,0⟩] scope pos) 0 itv acc {cenv with scope:=relabel scope X.env}) (RR acc cenv.locals) s₄) E s₃) E s:=by
 obtain⟨it,fp,tn,J,H1,e,I1,T,st1,f1,q1⟩:=h2;subst e;have I2:=Bj I1;have hfree:H1 s.heap.objs.size=none:=I1.hok.fresh (bv _);obtain⟨W,⟨m0,w0⟩,turn⟩:=q1 _ _ (bS.mk' hfree (.lst []));have fpl:∀b∈fp,b<s.heap.objs.size:=fun b hb=>by
  obtain⟨o,ho,_⟩:=T.obj 0 _ st1 b hb;exact bC ho
 refine vR ?_;generalize hl:s.heap.objs.size=l at fpl⊢ hfree turn w0 I2;generalize hs2:({s with heap:=s.heap.push {cls:=.type "list",data:=.seq ([]:List Value).toArray}}:Shared)=s2 at *;have sz2:s2.heap.objs.size=l+1:=by rw[←hs2,←hl];exact vh ..
 have f2:∀b∈fp,cX X aa (L2.upd H1 l (.lst [])) b∧b<s2.heap.objs.size:=fun b hb=>by
  have:=fpl b hb;refine⟨⟨?_,(f1 b hb).2⟩,by rw[sz2];exact FG this⟩;rw[bp (cC this)];exact(f1 b hb).1
 refine Gk S.cell (by intro y hy;simp at hy) (fun h₁ hns₁ hsb₁=>?_) S.kind;have old:∀b o,s2.heap.get? b=some o→h₁.get? b=some o:=fun b o e=>hsb₁.extBut b o (cC (bC e)) (dL _ e);have I3:=JK (tk:=s2.toks+([]:List (Str×Value)).length) S hoN hosc I2 f2 old hns₁;have st3:tn 0 h₁:=T.keep _ _ _ st1 fun b hb o e=>old b o (by rw[←hs2];exact dL _ e);have loop:∀s₃ : Shared,s₃={s2 with heap:=h₁,toks:=s2.toks+([]:List (Str×Value)).length}→
   gE (au X.prog X.w) X.A (.compLoop (.ListComp elt [⟨.Name x px,iter,ifs,0⟩] scope pos) 0 (.ref it) (.ref l) (mh scope (dP X.env.cells scope.names []) s2.heap.objs.size X.env)) (RR (.ref l) s2.heap.objs.size) s₃:=by
  rintro s₃ rfl;have stat:∀{H':Hp},(∀b∈fp,H' b=none)→∀b∈fp,cX (X.comp (x::fr) scope s2.heap.objs.size s2 (L2.upd H1 l (.lst [])) fp aa) [] H' b:=fun hn b hb=>by
   obtain⟨f,lt⟩:=f2 b hb;refine⟨hn b hb,cC lt,fun z=>?_,.inl hb,fun y c e=>I3.ok.exf b hb |>.2 y c e,fun p hp=>?_⟩
   ·rcases bu.mp (I2.stkSub b z)with q|q
    ·exact f.2.1 q
    ·exact f.2.2.1 q
   ·have hp':p∈(X.pn++aa)++[]:=hp;rw[gg]at hp';exact f.2.2.2.2.2 p hp'
  refine PP (fun n s'=>∃i ys H',ag (X.comp (x::fr) scope s2.heap.objs.size s2 (L2.upd H1 l (.lst [])) fp aa) [] (jI σ ix) H' s'∧tn i s'.heap∧(∀b∈fp,H' b=none)∧W i n ys H') ?_ m0 ⟨0,[],_,I3,st3,fun b hb=>(f2 b hb).1.1,w0⟩;rintro n s4 ⟨i,ys,H4,I4,st4,fr4,w4⟩;obtain⟨hl4,alt⟩:=turn i n ys H4 w4;rcases alt with⟨stop,qn⟩|⟨go,hsz,step⟩
  ·refine aK (bT (T.done (X.comp (x::fr) scope s2.heap.objs.size s2 (L2.upd H1 l (.lst [])) fp aa) rfl rfl rfl hc i [] s4 _ H4 (fun _ _=>False) I4 (stat fr4) st4 stop) (fun _ _ z=>z) fun _ _ z=>z.elim) fun r s5 ⟨hr,I5⟩=>?_;subst hr;obtain⟨J1,J2,J3⟩:=CG S hosc I2 f2 I5;exact hRR l _ H4 s5 J1 J2 J3 qn
  ·refine aK (bT (T.item (X.comp (x::fr) scope s2.heap.objs.size s2 (L2.upd H1 l (.lst [])) fp aa) rfl rfl rfl hc i [] s4 _ H4 (fun _ _=>False) I4 (stat fr4) st4 go) (fun _ _ z=>z) fun _ _ z=>z.elim) fun r s5 ⟨u,hr,h5⟩=>?_;subst hr;have I5':∀{σ9:St} {H9:Hp} {s9:Shared} {pl:List (Addr×Obj)} {z:V},ag (X.comp (x::fr) scope s2.heap.objs.size s2 (L2.upd H1 l (.lst [])) fp aa) ([]++pl) (eC σ ix z) H9 s9→ag (X.comp (x::fr) scope s2.heap.objs.size s2 (L2.upd H1 l (.lst [])) fp aa) [] (jI σ ix) H9 s9:=fun{σ9 H9 s9 pl z} J9=>by
    refine(J9.unpinned).weak (by unfold jI eC;rfl) fun k v e=>?_;cases k with
    |zero=>exact nomatch e
    |succ k=>exact e
   show ax _ _ (rS (.Name x px) (.ref it) u >>= fun _=>assign (.Name x px) (mh scope (dP X.env.cells scope.names []) s2.heap.objs.size X.env) u) _ _ s5;refine aE (bT h5 (fun _ s6 aA=>?_) fun _ _ z=>z.elim);obtain⟨z,H6,I6,r6,y6,st6,fr6⟩:=aA;have I6':=I6.pinned (stat fr6) (T.obj _ _ st6);have pg:=kW (X:=X.comp (x::fr) scope s2.heap.objs.size s2 (L2.upd H1 l (.lst [])) fp aa) (pos:=px) (i:=0) (x:=x) S.nd rfl (.inl (rT S.own)) (.inr (rT S.own));refine bT (pg _ s6 _ H6 z u (fun σ' H'=>σ'=eC σ ix z∧H'=H6) I6' r6 ⟨rfl,rfl⟩) (fun _ s7 aA=>?_) fun _ _ z=>z.elim;obtain⟨σ7,H7,I7,e7,e7'⟩:=aA;subst e7 e7';have back:∀{H9:Hp} {s9:Shared} {ys':List V},ag (X.comp (x::fr) scope s2.heap.objs.size s2 (L2.upd H1 l (.lst [])) fp aa) ([]++oG fp s6.heap) (eC σ ix z) H9 s9→(∃m',m'<n∧W (i+1) m' ys' H9)→
     ∃m',m'<n∧∃i ys H',ag (X.comp (x::fr) scope s2.heap.objs.size s2 (L2.upd H1 l (.lst [])) fp aa) [] (jI σ ix) H' s9∧tn i s9.heap∧(∀b∈fp,H' b=none)∧W i m' ys H':=fun{H9 s9 ys'} J9 ⟨m',hm,w9⟩=>by
    refine⟨m',hm,i+1,ys',H9,I5' (σ9:=[]) J9,T.keep _ _ _ st6 fun b hb o e=>(J9.pin (b,o) (bZ _ (bZ _ (mQ hb e)))).1,fun b hb=>?_,w9⟩;obtain⟨o,e,d⟩:=T.obj _ _ st6 b hb;exact(J9.pin (b,o) (bZ _ (bZ _ (mQ hb e)))).2.1
   refine bT (ht _ _ _ _ _ _ s7 _ H7 _ I7 (step z H7 y6)) (fun b s8 aA=>?_) fun _ _ z=>z.elim;obtain⟨H8,I8,q8⟩:=aA;cases b with
   |false=>
    rw[if_neg bK]at q8⊢;exact back I8 q8
   |true=>
    rw[if_pos rfl]at q8⊢;refine bT (he _ _ _ _ _ (jV (au X.prog X.w) X.A (mh scope (dP X.env.cells scope.names []) s2.heap.objs.size X.env) (fun e s''=>RR (.ref l) s2.heap.objs.size (.error e) s'')) (fun pl σ1 H1' s1 ev s' J c=>hErr l s2 _ fp _ pl σ1 H1' s1 ev s' I2 f2 J c) _ s8 _ H8 _ I8.toX q8) (fun u9 s9 aA=>?_) fun _ _ z=>z;obtain⟨v9,H9,I9x,r9,hl9,q9⟩:=aA;have I9:=I9x.ofX;refine bT (fP (X:=X.comp (x::fr) scope s2.heap.objs.size s2 (L2.upd H1 l (.lst [])) fp aa) _ s9 _ H9 (.ref l) [v9] (.ref l) [u9] (fun v H'=>∃m',m'<n∧W (i+1) m' (ys++[v9]) H') I9 rfl (.cons r9 .nil) ⟨l,ys,v9,rfl,rfl,hl9,hsz,q9⟩) (fun _ s10 aA=>?_) fun _ _ z=>z.elim;obtain⟨v10,H10,I10,_,q10⟩:=aA;exact back I10 q10
 exact F6 (loop _ rfl) (T.self _ 0 _ _ _ st3 (loop _ rfl))
theorem UY{P:aG}{w:av}{K:aq}{mg:Str→Option Value}{base:Heap}{N:List Str}{qual:Str}{fscope:cQ}{f:Addr}{cd:Value}{A:bH}{outer:List Env}{s₀ : Shared}{H₀ : Hp}{E:XK}
  (S:kS oN osc scope x fr ix) (hoN:N=oN) (hosc:(aR (aC P w) P w K mg base N qual fscope f cd A outer s₀ H₀ E).env.scope=osc) (hi:PI (aR (aC P w) P w K mg base N qual fscope f cd A outer s₀ H₀ E) (.Name x px) iter wi)
  (ht:∀C s₁ H₁ fp pl,ka ((aR (aC P w) P w K mg base N qual fscope f cd A outer s₀ H₀ E).comp (x::fr) scope C s₁ H₁ fp pl) ifs tc)
  (he:∀C s₁ H₁ fp pl xe,jY (aC P w) ((aR (aC P w) P w K mg base N qual fscope f cd A outer s₀ H₀ E).compX (x::fr) scope C s₁ H₁ fp pl xe) (fun _=>E)→PE ((aR (aC P w) P w K mg base N qual fscope f cd A outer s₀ H₀ E).compX (x::fr) scope C s₁ H₁ fp pl xe) elt te)
  (hs:∀x,vK iter (aR (aC P w) P w K mg base N qual fscope f cd A outer s₀ H₀ E).env x=pure x:=by intro _;rfl):PE (aR (aC P w) P w K mg base N qual fscope f cd A outer s₀ H₀ E) (.ListComp elt [⟨.Name x px,iter,ifs,0⟩] scope pos) (By wi tc te ix):=by
 intro aa s σ H Q I h;rw[F9];refine AO (use:=none) rfl hs (xb (yL S hosc I.ok)) S.kind S.names (aK (hi aa s σ H _ I h) fun v s1 h1=>aK h1 fun itv s2 h2=>?_);refine RS (Ex:=E) (RR:=fun acc C=>vJ (au P w) (aR (aC P w) P w K mg base N qual fscope f cd A outer s₀ H₀ E).A (aR (aC P w) P w K mg base N qual fscope f cd A outer s₀ H₀ E).xe none (EP (aR (aC P w) P w K mg base N qual fscope f cd A outer s₀ H₀ E) aa σ Q) acc C) S hoN hosc rfl ht he
  (fun l s2 H2 fp xe pl σ1 H1 s1 ev s' I2 f2 J c=>Xe S hosc I2 f2 J c) h2 fun l C H5 s5 I5 fC ⟨m,hm⟩ q=>?_
 refine⟨m,hm,fun h' sb=>⟨.ref l,H5,?_,rfl,q⟩⟩;have:=I5.turned (h':=h') (t':=s5.toks) (it:=C) (fun b o hb e=>sb.extBut b o hb e) fC.1 fC.2.1 fC.2.2.2.1 fC.2.2.2.2.1 fC.2.2.2.2.2;exact this
end
end L2
namespace L2
open PySem PySem.Spec PyProof.Rows PySem.W
abbrev TJ:=Str→St→Hp→VK→Prop
section
variable{X:Cx}{e v1 v2:Expr}{es:List Expr}{te:TE}{t:TJ}{pos:Pos}
def PJ(X:Cx)(es:List Expr)(t:TJ):Prop:=∀(aa:List (Addr×Obj)) (s:Shared) (σ : St) (H:Hp) (out:Str) (Q:VK),ag X aa σ H s→t out σ H Q→ax (au X.prog X.w) X.A (joinParts out (evalEach es X.env)) (EP X aa σ Q) X.xe s
def GU:TJ:=fun out _ H Q=>out.length≤sizeLine∧Q (.str out) H
def JS(te:TE)(t:TJ):TJ:=fun out σ H Q=>te σ H fun v H1=>∃y:Str,v=.str y∧(out++y).length≤sizeLine∧t (out++y) σ H1 Q
def GX(te:TE):TE:=fun σ H Q=>te σ H fun v H1=>(∃z:Str,v=.str z∧z.length≤sizeLine∧Q (.str z) H1)∨∃n:Int,v=.int n∧n.natAbs.log2<1920∧Q (.str (AB (AL n))) H1
def LV(t:TJ):TE:=fun σ H Q=>t mf σ H Q
theorem Mj:PJ X [] GU:=fun _ _ _ H out _ I h=>joinParts_nil ⟨.str out,H,I.tok _,⟨_,rfl⟩,h.2⟩ h.1
theorem t5(he:PE X e te)(hr:PJ X es t):PJ X (e::es) (JS te t):=fun aa s σ H out Q I h=>by
 refine joinParts_cons (aK (he aa s σ H _ I h) fun v s1 aA=>?_);obtain⟨x,H1,I1,r1,y,e1,hz,q⟩:=aA;subst e1;obtain⟨u,rfl⟩:=r1;exact⟨hz,hr aa s1 σ H1 _ Q I1 q⟩
theorem CZ(he:PE X e te):PE X (.FormattedValue e (-1) none pos) (GX te):=fun aa s σ H Q I h=>by
 refine FormattedValue_plain (aK (he aa s σ H _ I h) fun v s1 aA=>?_);obtain⟨x,H1,I1,r1,alt⟩:=aA;rcases alt with⟨z,rfl,hz,q⟩|⟨n,rfl,hn,q⟩
 ·obtain⟨u,rfl⟩:=r1;exact formatField_str (fun t' k=>⟨.str z,H1,I1.tok k,⟨t',rfl⟩,q⟩) hz
 ·obtain⟨u,rfl⟩:=r1;exact formatField_int_small hn ⟨.str _,H1,I1.tok _,⟨_,rfl⟩,q⟩
theorem Nw(h:PJ X (v1::v2::es) t):PE X (.JoinedStr (v1::v2::es) pos) (LV t):=fun aa s σ H Q I k=>JoinedStr_many (h aa s σ H mf Q I k)
theorem Dj{σ : St}{H:Hp}{Q:VK}(h:t mf σ H Q):LV t σ H Q:=h
theorem mE{σ : St}{H:Hp}{Q:VK}{out:Str}(h:te σ H fun v H1=>∃y:Str,v=.str y∧(out++y).length≤sizeLine∧t (out++y) σ H1 Q):JS te t out σ H Q:=h
theorem Ed{H:Hp}{σ : St}{Q:VK}{out:Str}(hl:out.length≤sizeLine)(h:Q (.str out) H):GU out σ H Q:=⟨hl,h⟩
theorem uz{σ : St}{H:Hp}{Q:VK}(h:te σ H fun v H1=>(∃z:Str,v=.str z∧z.length≤sizeLine∧Q (.str z) H1)∨∃n:Int,v=.int n∧n.natAbs.log2<1920∧Q (.str (AB (AL n))) H1):GX te σ H Q:=h
end
end L2
namespace L2
open PySem PySem.Spec PyProof.Rows
section
variable{X:Cx}
theorem Q7{aa:List (Addr×Obj)}{σ : St}{H:Hp}{s:Shared}(I:ag X aa σ H s):rV<s.heap.objs.size:=
 Nat.lt_trans (by decide) (I.mod.glob.keeps I.bk).lt
end
end L2
namespace L2
open PySem PySem.Spec PyProof.Rows PyProof.V
theorem Hn{prog:aG}{w:av}{A:bH}{E:Value→Shared→Prop}{s:Shared}{k v:Sem Value}{bO:List (Sem Value×Sem Value)}{Q:List (Value×Value)→Shared→Prop}
  (h:ax (au prog w) A k (fun kv s1=>ax (au prog w) A v (fun vv s2=>ax (au prog w) A (F8 bO) (fun vs s3=>Q ((kv,vv)::vs) s3) E s2) E s1) E s):ax (au prog w) A (F8 ((k,v)::bO)) Q E s:=by
 rw[F8];exact aE (bT h (fun kv s1 h1=>aE (jW (bT h1 (fun vv s2 h2=>aE (jW (bT h2 (fun vs s3 h3=>wpAny_pure h3) fun _ _ x=>x))) fun _ _ x=>x))) fun _ _ x=>x)
section
variable{X:Cx}
end
end L2
namespace L2
open PySem PySem.Spec PyProof.Rows PyProof.V
abbrev oH:List (Str×V)→List (Str×Value)→Prop:=Paired fun p q=>p.1=q.1∧bc p.2 q.2
def dR(P:aG)(w:av)(a:Addr)(aH:List (Str×V)):HO:=.ext fun h=>∃vs:List (Str×Value),oH aH vs∧h.DictOf (vB P w) a vs
def pB(aH:List (Str×V))(z:Str)(v:V):List (Str×V):=aH.map fun p=>if p.1=z then(p.1,v)else p
theorem K7{z:Str}{v:V}{aH:List (Str×V)}{vs:List (Str×Value)}(r:oH aH vs)(e:aH.lookup z=some v):∃u,FY vs z=some u∧bc v u:=by
 induction r with
 |nil=>cases e
 | @cons p q ps qs h t ih=>
  rw[iD]at e;unfold FY at ih⊢;rw[List.find?_cons];by_cases c:z=p.1
  ·rw[beq_iff_eq.mpr c]at e;injection e with e;rw[decide_eq_true (h.1.symm.trans c.symm)];exact⟨q.2,rfl,e▸h.2⟩
  ·rw[beq_eq_false_iff_ne.mpr c]at e;rw[decide_eq_false (fun y=>c (y.symm.trans h.1.symm))];exact ih e
theorem Yv{z:Str}{v:V}{aH:List (Str×V)}{vs:List (Str×Value)}(r:oH aH vs)(e:aH.lookup z=some v):(vs.any fun kv=>decide (kv.1=z))=true:=by
 obtain⟨u,h,_⟩:=K7 r e;unfold FY at h;rw[z4];cases hf:vs.find? fun kv=>decide (kv.1=z)with
 |none=>rw[hf]at h;cases h
 |some q=>exact⟨q,List.mem_of_find?_eq_some hf,by have:=List.find?_some hf;exact this⟩
theorem Sd{z:Str}{v:V}{u:Value}{aH:List (Str×V)}{vs:List (Str×Value)}(r:oH aH vs)(ru:bc v u):oH (pB aH z v) (vs.map fun kv=>if kv.1=z then(kv.1,u)else kv):=by
 induction r with
 |nil=>exact .nil
 | @cons p q ps qs h t ih=>
  refine .cons ?_ ih;show(if p.1=z then(p.1,v)else p).1=(if q.1=z then(q.1,u)else q).1∧bc (if p.1=z then(p.1,v)else p).2 (if q.1=z then(q.1,u)else q).2;by_cases c:p.1=z
  ·rw[if_pos c,if_pos (h.1.symm.trans c)];exact⟨h.1,ru⟩
  ·rw[if_neg c,if_neg (fun y=>c (h.1.trans y))];exact h
section
variable{X:Cx}{P:aG}{w:av}
theorem B9{a:Addr}{aH:List (Str×V)}:∀(g1 g2:Heap),(∃vs:List (Str×Value),oH aH vs∧g1.DictOf (vB P w) a vs)→(∀o,g1.get? a=some o→g2.get? a=some o)→∃vs:List (Str×Value),oH aH vs∧g2.DictOf (vB P w) a vs:=fun g1 g2 ⟨vs,e1,o,es,ep,ho,r⟩ kk=>⟨vs,e1,o,es,ep,kk _ ho,r⟩
def Me(P:aG)(w:av)(x1 x2:Str)(t1 t2:TE):TE:=fun σ H Q=>∀(p:Addr) (H1:Hp),bS H p (dR P w p []) H1→t1 σ H1 fun v1 H2=>t2 σ H2 fun v2 H3=>H3 p=some (dR P w p [])∧∀H4,cT H3 p (dR P w p [(x1,v1),(x2,v2)]) H4→Q (.ref p) H4
theorem wC{x1 x2:Str}{e1 e2:Expr}{t1 t2:TE}{j1 j2:Nat}{p1 p2 pos:Pos}(hP:X.prog=P)(hw:X.w=w)(hne:x1≠x2)(h1:PE X e1 t1)(h2:PE X e2 t2):
  PE X (.Dict [some (.Constant (.str x1) j1 p1),some (.Constant (.str x2) j2 p2)] [e1,e2] pos) (Me P w x1 x2 t1 t2):=by
 subst hP hw;intro aa s σ H Q I h;refine wpAny_Dict_pairs (knd:=vB X.prog X.w) (pairs:=[(eval (.Constant (.str x1) j1 p1) X.env,do let x ←eval e1 X.env;standAt pos;pure x),(eval (.Constant (.str x2) j2 p2) X.env,do let x ←eval e2 X.env;standAt pos;pure x)]) rfl (by intro z;cases z) (by show 2≤15;decide) ?_;have I1:=I.laid (a:=s.heap.objs.size) (o:=dR X.prog X.w s.heap.objs.size []) (t':=s.toks) (h':=s.heap.push {cls:=.type "dict",data:=.dict #[]}) (fun b o e=>dL _ e) (bv _)
  ⟨⟨[],.nil,Od s.heap⟩,⟨_,iA _ rfl⟩,B9⟩
 have q1:=h _ _ (bS.mk' (I.hok.fresh (bv _)) _);refine Hn (Fe (aE (aK (h1 aa _ σ _ _ (I1.tok _) q1) fun u1 s1 ⟨v1,H2,I2,r1,q2⟩=>aE (kO (wpAny_pure ?_)))));refine Hn (Fe (aE (aK (h2 aa _ σ _ _ (I2.tok _) q2) fun u2 s2 ⟨v2,H3,I3,r2,hp,q3⟩=>aE (kO (wpAny_pure ?_)))));refine wpAny_pure ?_;obtain⟨⟨vs,e0,hd⟩,_,_⟩:=(I3.hok _ _ hp:cS _ _ _ _ _ (dR X.prog X.w s.heap.objs.size []));cases e0;refine⟨[(x1,u1),(x2,u2)],⟨vC _ _ _ _,rfl,vC _ _ _ _,rfl,trivial⟩,hd,fun h' hd' sb=>?_⟩;have em:Pu [] [(x1,u1),(x2,u2)]=[(x1,u1),(x2,u2)]:=by simp[Pu,FX,hne]
 rw[em]at hd';obtain⟨o',es',ep',ho',r'⟩:=id hd';refine⟨.ref s.heap.objs.size,upd H3 s.heap.objs.size (dR X.prog X.w s.heap.objs.size [(x1,v1),(x2,v2)]),I3.write (x:=s.heap.objs.size) (e:=s.heap.objs.size) (by rw[hp];trivial) (.inl rfl) (fun b z hb e=>(sb.2 b hb).trans e) ⟨o',ho'⟩ ⟨⟨_,.cons ⟨rfl,r1⟩ (.cons ⟨rfl,r2⟩ .nil),hd'⟩,⟨o',ho'⟩,B9⟩,rfl,q3 _ (cT.mk' _ _ _)⟩
def Nd(P:aG)(w:av):R2:=fun x y H Q=>∃a z v aH,x=.ref a∧y=.str z∧H a=some (dR P w a aH)∧aH.lookup z=some v∧Q v H
theorem km(hP:X.prog=P)(hw:X.w=w):lv X (Nd P w):=by
 subst hP hw;intro value slice aa s σ H x y v u Q I rx ry h hs;obtain⟨a,z,n,aH,rfl,rfl,ha,hl,q⟩:=h;obtain rfl:v=aZ a:=rx;obtain⟨t,rfl⟩:=ry;obtain⟨⟨vs,e1,hd⟩,_,_⟩:=(I.hok a _ ha:cS _ _ _ _ _ (dR X.prog X.w a aH));obtain⟨u',hv,ru⟩:=K7 e1 hl;exact AK hd.typeIs PZ.lookup (Qg (vC X.prog X.w z t) hd.mapOf hv ⟨n,H,I.tok _,ru,q⟩) hs
theorem Bf(hP:X.prog=P)(hw:X.w=w):ph X (fun o i v H Q=>∃d z v0 aH,o=.ref d∧i=.str z∧H d=some (dR P w d aH)∧aH.lookup z=some v0∧aH.length≤100∧∀H2,cT H d (dR P w d (pB aH z v)) H2→Q H2):=by
 subst hP hw;intro aa s σ H o i v ov iv u Q I ro ri rv h;obtain⟨d,z,v0,aH,rfl,rfl,hd,hl,hz,q⟩:=h;obtain rfl:ov=aZ d:=ro;obtain⟨t,rfl⟩:=ri;obtain⟨⟨vs,e1,hD⟩,_,_⟩:=(I.hok d _ hd:cS _ _ _ _ _ (dR X.prog X.w d aH));have ll:aH.length=vs.length:=Paired.length e1;refine wpAny_setItem_pairs (knd:=vB X.prog X.w) (vC X.prog X.w z t) hD (fun h' hD' sb=>?_) (cB (by omega) (show 100≤sizeLine by decide));have es:FX vs z u=vs.map fun kv=>if kv.1=z then(kv.1,u)else kv:=by
  unfold FX;rw[if_pos (Yv e1 hl)]
 rw[es]at hD';obtain⟨o',es',ep',ho',r'⟩:=id hD';exact⟨upd H d (dR X.prog X.w d (pB aH z v)),I.write (x:=d) (e:=d) (by rw[hd];trivial) (.inl rfl) (fun b z hb e=>(sb.2 b hb).trans e) ⟨o',ho'⟩ ⟨⟨_,Sd e1 rv,hD'⟩,⟨o',ho'⟩,B9⟩,q _ (cT.mk' _ _ _)⟩
theorem wj{x1 x2:Str}{t1 t2:TE}{σ : St}{H:Hp}{Q:VK}(h:∀(p:Addr) (H1:Hp),bS H p (dR P w p []) H1→t1 σ H1 fun v1 H2=>t2 σ H2 fun v2 H3=>H3 p=some (dR P w p [])∧∀H4,cT H3 p (dR P w p [(x1,v1),(x2,v2)]) H4→Q (.ref p) H4):Me P w x1 x2 t1 t2 σ H Q:=h
theorem j7{a:Addr}{z:Str}{v:V}{aH:List (Str×V)}{H:Hp}{Q:VK}(ha:H a=some (dR P w a aH))(hl:aH.lookup z=some v)(q:Q v H):Nd P w (.ref a) (.str z) H Q:=⟨a,z,v,aH,rfl,rfl,ha,hl,q⟩
end
end L2
set_option exponentiation.threshold 3000
set_option maxHeartbeats 4000000
set_option hygiene false
seal L2.PE L2.PT L2.PW L2.PA L2.PS L2.fq L2.PG L2.q5 L2.PI L2.PO L2.ka L2.bE L2.sx L2.gu L2.kX L2.lv
local macro_rules | `(tactic| ke_reads)=>`(tactic| first | exact L2.ah.refl _ | assumption | (refine L2.ah.trans ?_ (by assumption:L2.ah _ _);first | exact L2.ah.refl _ | assumption | ke_reads))
local macro_rules | `(tactic| kqd_in)=>`(tactic| first | assumption | exact L2.ah.at' (by assumption) (by ke_reads))
local macro_rules | `(tactic| kqd_all)=>`(tactic| first | assumption | exact L2.ay.of (by assumption) | exact L2.ah.seqA (by assumption) (by ke_reads) | exact L2.ay.of (L2.ah.at' (by assumption) (by ke_reads)))
local macro_rules | `(tactic| kqd_sub)=>`(tactic| first | assumption | exact L2.di.of (by assumption) | exact L2.ah.seqB (by assumption) (by ke_reads) | exact L2.di.of (L2.ah.at' (by assumption) (by ke_reads)))
local macro_rules | `(tactic| ked_reads)=>`(tactic| first | assumption | omega | (with_reducible refine L2.abq ?_;((try simp only[bI,Ah,bo,dm]);omega)) | (with_reducible refine L2.mw ?_;((try simp only[bI,Ah,bo,dm]);omega)) | decide | (refine⟨?_,?_⟩<;>ked_reads))
local macro_rules | `(tactic| isplit)=>`(tactic| first | with_reducible exact L2.abc | with_reducible exact L2.QV | with_reducible exact L2.V8 | with_reducible exact L2.Ry | with_reducible exact L2.Yg | with_reducible exact L2.SV | with_reducible exact L2.aa3 | with_reducible exact L2.acL | with_reducible exact L2.aam | exact rfl)
local macro_rules | `(tactic| ked_read)=>`(tactic| first
 |with_reducible refine L2.RY fun _ _=>?_
 |((with_reducible refine L2.K4 (u:=?_) ?h ?_);(case h=>with_reducible assumption))
 |((with_reducible refine L2.Ti (u:=?_) ?h ?_);(case h=>with_reducible assumption))
 |with_reducible refine L2.SH ?_
 |((with_reducible refine L2.U9 (σ':=?_) ?h ?_);(case h=>isplit))
 |((with_reducible refine L2.Tr (v:=?_) ?h ?_);(case h=>exact rfl))
 |with_reducible refine L2.Yw ?_
 |with_reducible refine L2.SS ?_
 |with_reducible refine L2.XN ?_
 |with_reducible refine L2.V5 ?_
 |with_reducible refine L2.abb ?_
 |with_reducible refine L2.QX ?_
 |with_reducible refine L2.abA ?_
 |with_reducible refine L2.Ru ?_
 |with_reducible refine L2.wA ?_
 |with_reducible refine L2.aac ?_
 |with_reducible refine L2.TN ?_
 |with_reducible refine L2.Xf ?_
 |with_reducible refine L2.XJ ?_
 |with_reducible refine L2.Wq ?_
 |with_reducible refine L2.aab ?_
 |with_reducible refine L2.VX ?_
 |with_reducible refine L2.ab5 ?_
 |with_reducible refine L2.VN ?_
 |with_reducible refine L2.qD ?_
 |with_reducible refine L2.abe ?_
 |with_reducible refine L2.T6 ?_
 |with_reducible refine L2.SW ?_
 |with_reducible refine L2.Yo ?_
 |with_reducible refine L2.US ?_
 |with_reducible refine L2.aau ?_
 |with_reducible refine L2.Qy ?_
 |with_reducible refine L2.aaw ?_
 |with_reducible refine L2.ZW ?_
 |with_reducible refine L2.Xz ?_
 |with_reducible refine L2.QP ?_
 |with_reducible refine L2.RA ?_
 |with_reducible refine L2.Yh ?_
 |with_reducible refine L2.X7 ?_
 |with_reducible refine L2.W6 ?_
 |with_reducible refine L2.aao ?_
 |with_reducible refine L2.T3 ?_
 |with_reducible refine L2.Xy ?_
 |with_reducible refine L2.Wi ?_
 |with_reducible refine L2.WP ?_
 |with_reducible refine L2.SD ?_
 |with_reducible refine L2.Bp ?_
 |with_reducible refine L2.QB ?_
 |with_reducible refine L2.Rv ?_
 |((with_reducible refine L2.abE (xs:=?_) ?h ?h2 ?_);(case h=>kqd_sub);(case h2=>exact rfl))
 |with_reducible refine L2.QW ?_
 |with_reducible refine L2.VC ?_
 |with_reducible refine L2.TU ?_
 |with_reducible refine L2.abn ?_
 |with_reducible refine L2.Yt ?_
 |((with_reducible refine L2.Vi (hs:=?_) ?h ?_);(case h=>kqd_all))
 |((with_reducible refine L2.WI (hs:=?_) ?h ?_);(case h=>kqd_all))
 |((with_reducible refine L2.Q8 (xs:=?_) ?h ?_);(case h=>kqd_all))
 |((with_reducible refine L2.Zh (xs:=?_) ?h ?_);(case h=>kqd_in))
 |with_reducible refine L2.WN ?_
 |with_reducible refine L2.We ?_
 |with_reducible refine L2.Rn ?_
 |with_reducible refine L2.Zd ?_
 |with_reducible refine L2.Z4 ?_
 |((with_reducible refine L2.Sb (xs:=?_) ?h ?_);(case h=>kqd_all))
 |((with_reducible refine L2.U2 (xs:=?_) (ys:=?_) ?h1 ?h2 ?_);(case h1=>kqd_in);(case h2=>kqd_in))
 |((with_reducible refine L2.aa1 (xs:=?_) ?h ?_);(case h=>kqd_all))
 |((with_reducible refine L2.VP (xs:=?_) ?h ?_);(case h=>kqd_all))
 |((with_reducible refine L2.HN (xs:=?_) (v:=?_) ?h ?e ?_);(case h=>kqd_all);(case e=>first|assumption|exact rfl))
 |((with_reducible refine L2.Xt (xs:=?_) (v:=?_) ?h ?e ?_);(case h=>kqd_sub);(case e=>first|assumption|exact rfl)))
local macro_rules | `(tactic| kat_tups)=>`(tactic| ((with_reducible refine L2.iS (t:=?_) (b:=?_) ?hc ?ht ?he ?_);(case hc=>exact rfl);first
 |((case ht=>exact L2.de.int _);(case he=>first|exact T.MR|exact T.MY))
 |((case ht=>exact L2.de.bl _);(case he=>first|exact T.Dh))
 |((case ht=>exact L2.de.str _);(case he=>first|exact T.aby))
 |((case ht=>((refine L2.de.tup (xs:=?_) ?hh);(case hh=>kqd_in)));(case he=>first|exact T.De))
 |((case ht=>((refine L2.de.lst (xs:=?_) ?hh);(case hh=>kqd_in)));(case he=>first|exact T.Vx))))
local macro_rules | `(tactic| kcf_all)=>`(tactic| first | assumption | exact My.bg.keep (by assumption) (by ke_reads) | exact My.bx.keep (by assumption) (by ke_reads) | exact My.bX.keep (by assumption) (by ke_reads))
local macro_rules | `(tactic| kba_ints)=>`(tactic| first
 |((with_reducible refine L2.R9 (sp:=?_) ?h ?_);(case h=>first|((refine My.aaa T (s:=?_) ?hh);(case hh=>kcf_all))|((refine My.S4 T (s:=?_) ?hh);(case hh=>kcf_all))|((refine My.Zl T (s:=?_) ?hh);(case hh=>kcf_all))|((refine My.can_lowest T (s:=?_) ?hh);(case hh=>kcf_all))|((refine My.Wc T (s:=?_) ?hh);(case hh=>kcf_all))))
 |((with_reducible refine My.YY ?h ?_);(case h=>kcf_all))
 |((with_reducible refine My.abh ?h ?_);(case h=>kcf_all))
 |((with_reducible refine My.up_spLowest ?h ?_);(case h=>kcf_all))
 |((with_reducible refine My.VQ (s':=?_) ?h1 ?h2 ?_);(case h1=>kcf_all);(case h2=>kcf_all))
 |((with_reducible refine L2.ij (v:=?_) ?h ?_);(case h=>first|((refine My.fi_low T (s:=?_) ?hh);(case hh=>kcf_all))|((refine My.fi_bits T (low:=?_) (bits:=?_) ?hh);(case hh=>kcf_all)))))
local macro_rules | `(tactic| ke_read)=>`(tactic| repeat (first
 |ked_read
 |kat_tups
 |kba_ints
 |(with_reducible refine L2.cW (b:=true) rfl ?_)
 |(with_reducible refine L2.dX (b:=false) rfl ?_)
 |((with_reducible refine L2.acH ?h ?_);(case h=>first|rfl|assumption|omega))
 |((with_reducible refine L2.VA ?h ?_);(case h=>first|assumption|omega))
 |((with_reducible refine L2.abF ?h ?_);(case h=>first|assumption|omega))
 |((with_reducible refine L2.Yy ?h ?_);(case h=>first|rfl|assumption|omega))
 |with_reducible refine L2.TK ?_
 |with_reducible refine L2.Qw ?_
 |((with_reducible refine L2.dX ?h ?_);(case h=>first|assumption|(simp;done)))
 |((with_reducible refine L2.cW ?h ?_);(case h=>first|assumption|(simp;done)))
 |((with_reducible refine And.intro ?h ?_);(case h=>ked_reads))
 |(dsimp only;((with_reducible refine L2.K4 (u:=?_) ?h ?_);(case h=>with_reducible assumption)))))
local macro_rules | `(tactic| got_up)=>`(tactic| ((refine L2.Vt (σ':=?_) ?h ?_);(case h=>((simp only[L2.jx,eD,FD,bI,Ah,nh,vm,lW,Nat.reduceSub,Nat.reduceAdd]);exact rfl));ke_read))
set_option hygiene true
namespace My
open PySem L2
theorem qh{us:List Value}(h:us.length=1):∃a,us=[a]:=OC.mp h
theorem JO{us:List Value}(h:us.length=2):∃a b,us=[a,b]:=by
 obtain⟨a,r,rfl⟩:=Fw (show 0<us.length by omega);obtain⟨b,rfl⟩:=qh (us:=r) (by simpa using h);exact⟨a,b,rfl⟩
theorem Hz{us:List Value}(h:us.length=3):∃a b c,us=[a,b,c]:=by
 obtain⟨a,r,rfl⟩:=Fw (show 0<us.length by omega);obtain⟨b,c,rfl⟩:=JO (us:=r) (by simpa using h);exact⟨a,b,c,rfl⟩
theorem RE{us:List Value}(h:us.length=4):∃a b c d,us=[a,b,c,d]:=by
 obtain⟨a,r,rfl⟩:=Fw (show 0<us.length by omega);obtain⟨b,c,d,rfl⟩:=Hz (us:=r) (by simpa using h);exact⟨a,b,c,d,rfl⟩
abbrev bj(K:aq)(a b:Addr)(v:Bool):Prop:=eF K (.ref a) (.ref b)=some v
abbrev eL(K:aq)(a b:String)(v:Bool):Prop:=eF K (.type a) (.type b)=some v
abbrev gJ(K:aq)(a:Addr)(x:Str)(b:String):Prop:=jr K (.ref a) x=some (some (.builtin b))
structure eZ(K:aq)(n q:Str)(s:aw)(ps:List Str)(f:Addr)(d:FuncData):Prop where
 F:mW K n q s f d
 b:fH K d ps []
structure bD(K:aq)(mg:Str→Option Value)(n:Str)(s:aw)(ps:List Str)(f:Addr)(d:FuncData):Prop extends eZ K n n s ps f d where
 m:mg n=some (.ref f)
structure wF(K:aq)(mg:Str→Option Value)(n:Str)(s:aw)(ps:List Str)(f:Addr)(d:FuncData)(v:Value):Prop where
 F:zu K n n s f d v
 b:fH K d ps []
 m:mg n=some (.ref f)
theorem eZ.of{K:aq}{n q:Str}{s:aw}{ps:List Str}{f:Addr}{oc:Value}{od an:Option Addr}{sl:Array (Option Value)}{kV dc pm cd ct:Value}(l:K.lookup f=some ⟨oc,od,.func (fB n q (fO s) (eJ s) (aB s) .none kV dc pm an cd ct),sl⟩)(c:nA K cd q=true)(k:js K (.ref f)=true)
  (b:∀(kV dc pm:Value) (an:Option Addr) (cd ct:Value) (us:List Value),us.length=ps.length→AF (fB n q (fO s) (eJ s) (aB s) .none kV dc pm an cd ct) ⟨us,[]⟩=pure (ps.zip us)):eZ K n q s ps f (fB n q (fO s) (eJ s) (aB s) .none kV dc pm an cd ct):=⟨NP l c k,(NP l c k).binds b⟩
theorem bD.of{K:aq}{h:Heap}{mg:Str→Option Value}(X:K.In h)(G:h.Ns fV mg){n:Str}{s:aw}{ps:List Str}{f:Addr}{oc:Value}{od an:Option Addr}{sl:Array (Option Value)}{kV dc pm cd ct:Value}(a:Ax K fV n=some (some (.ref f)))(l:K.lookup f=some ⟨oc,od,.func (fB n n (fO s) (eJ s) (aB s) .none kV dc pm an cd ct),sl⟩)(c:nA K cd n=true)(k:js K (.ref f)=true)
  (b:∀(kV dc pm:Value) (an:Option Addr) (cd ct:Value) (us:List Value),us.length=ps.length→AF (fB n n (fO s) (eJ s) (aB s) .none kV dc pm an cd ct) ⟨us,[]⟩=pure (ps.zip us)):bD K mg n s ps f (fB n n (fO s) (eJ s) (aB s) .none kV dc pm an cd ct):=⟨.of l c k b,Pq X G a⟩
theorem wF.of{K:aq}{h:Heap}{mg:Str→Option Value}(X:K.In h)(G:h.Ns fV mg){n x:Str}{s:aw}{f dt:Addr}{oc tc:Value}{od an td:Option Addr}{sl ts:Array (Option Value)}{tn:Nat}{kV dc pm cd ct:Value}(a:Ax K fV n=some (some (.ref f)))(l:K.lookup f=some ⟨oc,od,.func (fB n n (fO s) (eJ s) (aB s) (.ref dt) kV dc pm an cd ct),sl⟩)(t:K.lookup dt=some ⟨tc,td,.seq #[cE] tn,ts⟩)(c:nA K cd n=true)(k:js K (.ref f)=true)
  (b:∀(h:Shared) (u:Value),K.In h.heap→K.lookup dt=some ⟨tc,td,.seq #[cE] tn,ts⟩→mX h (fB n n (fO s) (eJ s) (aB s) (.ref dt) kV dc pm an cd ct) ⟨[u],[]⟩ [(x,u)]):wF K mg n s [x] f (fB n n (fO s) (eJ s) (aB s) (.ref dt) kV dc pm an cd ct) (.ref dt):=⟨Yx l c k,fun h us Y hl=>by
 obtain⟨z,rfl⟩:=qh (us:=us) (by rw[gg]at hl;exact hl);exact b h z Y t,Pq X G a⟩
def bh(i:Nat):aw:=PySem.Challenge.pw_shoutline_k71_orders_read.main.body.getD i (.Pass ⟨0,0,0,0⟩)
abbrev Be:aw:=bh 12
abbrev El:aw:=bh 14
abbrev C8:aw:=bh 15
abbrev wg:aw:=fQ (bh 17) 0
abbrev zy:aw:=fQ (bh 17) 1
abbrev ym:aw:=fQ (bh 17) 2
abbrev yn:aw:=fQ (bh 17) 3
abbrev xN:aw:=fQ (bh 17) 4
abbrev xA:aw:=fQ (bh 18) 0
abbrev xw:aw:=fQ (bh 18) 1
abbrev xZ:aw:=fQ (bh 18) 2
abbrev xS:aw:=fQ (bh 18) 3
abbrev x9:aw:=fQ (bh 18) 4
abbrev ud:aw:=bh 19
abbrev EQ:aw:=bh 22
abbrev B4:aw:=bh 23
abbrev EO:aw:=bh 24
abbrev Bi:aw:=bh 25
abbrev Ew:aw:=bh 26
abbrev DR:aw:=bh 28
abbrev vX:aw:=bh 29
abbrev yt:aw:=bh 31
abbrev yi:aw:=bh 32
abbrev yH:aw:=bh 34
abbrev Dc:aw:=bh 36
abbrev BX:aw:=bh 37
abbrev BJ:aw:=bh 38
abbrev zq:aw:=bh 40
abbrev C3:aw:=bh 41
abbrev yT:aw:=bh 46
abbrev BN:aw:=bh 47
abbrev xG:aw:=bh 48
abbrev DY:aw:=bh 49
abbrev EG:aw:=bh 50
abbrev AT:aw:=bh 51
abbrev DI:aw:=bh 52
abbrev xE:aw:=bh 53
abbrev D8:aw:=bh 55
abbrev Bu:aw:=bh 56
abbrev B7:aw:=bh 57
abbrev y8:aw:=bh 58
abbrev Dd:aw:=bh 59
abbrev yR:aw:=fQ (bh 64) 0
abbrev yx:aw:=fQ (bh 64) 1
abbrev zB:aw:=fQ (bh 64) 2
abbrev wt:aw:=fQ (bh 64) 3
abbrev yy:aw:=fQ (bh 64) 4
abbrev xX:aw:=fQ (bh 64) 5
abbrev Bb:aw:=bh 65
abbrev wn:aw:=bh 66
abbrev C0:aw:=bh 67
abbrev Cd:aw:=bh 68
abbrev Dl:aw:=bh 70
abbrev Br:aw:=bh 71
abbrev BR:aw:=bh 72
abbrev DT:aw:=bh 73
abbrev Di:aw:=bh 74
abbrev A8:aw:=bh 75
abbrev E5:aw:=bh 76
abbrev DM:aw:=bh 77
abbrev wY:aw:=bh 78
abbrev EK:aw:=bh 79
abbrev DX:aw:=bh 80
abbrev Ce:aw:=bh 81
abbrev Dp:aw:=bh 82
abbrev Dq:aw:=bh 83
abbrev Bl:aw:=bh 84
abbrev Ef:aw:=bh 85
abbrev BZ:aw:=bh 86
theorem aaO:aY ["thing"] ["thing"] (aB Be):=by x_go
theorem abH:aY ["low","bits"] ["low","bits"] (aB El):=by x_go
theorem QQ:aY ["low"] ["low"] (aB C8):=by x_go
theorem Z5:aY ["self","low","bits"] ["self","low","bits"] (aB wg):=by x_go
theorem XT:aY ["self","number"] ["self","number"] (aB zy):=by x_go
theorem Mm:aY ["self","bits"] ["self"] (aB ym):=by x_go
theorem abI:aY ["self"] ["self"] (aB yn):=by x_go
theorem UU:aY ["self","other"] ["self","other"] (aB xN):=by x_go
theorem XE:aY ["self","low"] ["self","low"] (aB xA):=by x_go
theorem QR:aY ["self","number"] ["self","number"] (aB xw):=by x_go
theorem Ts:aY ["self"] ["self"] (aB xZ):=by x_go
theorem VG:aY ["self"] ["self"] (aB xS):=by x_go
theorem aav:aY ["self","other"] ["self","other"] (aB x9):=by x_go
theorem abV:aY ["width"] ["width"] (aB ud):=by x_go
theorem VM:aY ["book","top"] ["book","top"] (aB EQ):=by x_go
theorem uB:aY ["book","top","step","due","place","row","call"] ["book","top","step"] (aB B4):=by x_go
theorem Es:aY ["row","call","span","kind"] ["row","call"] (aB EO):=by x_go
theorem xr:aY ["row","call","due","sure","upper","halves"] ["row","call","due"] (aB Bi):=by x_go
theorem Sm:aY ["span"] ["span"] (aB Ew):=by x_go
theorem Jo:aY ["hands","top","hand"] ["hands","top"] (aB DR):=by x_go
theorem Nt:aY ["hands","span","shouting"] ["hands","span"] (aB vX):=by x_go
theorem lC:aY ["hands","top","book","due","call","span","near","answer","shouting","halves"] ["hands","top"] (aB yt):=by x_go
theorem Uv:aY ["book"] ["book"] (aB yi):=by x_go
theorem abC:aY ["hands","width"] ["hands","width"] (aB yH):=by x_go
theorem Va:aY ["hands","width"] ["hands","width"] (aB Dc):=by x_go
theorem UB:aY ["hands","width"] ["hands","width"] (aB BX):=by x_go
theorem mH:aY ["hands","width","side","span","answer","book","halves","near"] ["hands","width","side"] (aB BJ):=by x_go
theorem Gp:aY ["hands","top","book"] ["hands","top"] (aB zq):=by x_go
theorem Yr:aY ["book","place"] ["book","place"] (aB C3):=by x_go
theorem RC:aY ["book"] ["book"] (aB yT):=by x_go
theorem CP:aY ["row","answer","shown_answer"] ["row"] (aB BN):=by x_go
theorem X4:aY ["text"] ["text"] (aB xG):=by x_go
theorem Ip:aY ["text","parts"] ["text"] (aB DY):=by x_go
theorem yV:aY ["text","parts","low","error"] ["text"] (aB EG):=by x_go
theorem Xp:aY ["text"] ["text"] (aB AT):=by x_go
theorem LC:aY ["text","bits"] ["text"] (aB DI):=by x_go
theorem aa9:aY ["text"] ["text"] (aB xE):=by x_go
theorem aaV:aY ["one","other","width"] ["one","other","width"] (aB D8):=by x_go
theorem YX:aY ["hands","width"] ["hands","width"] (aB Bu):=by x_go
theorem VB:aY ["hands","width"] ["hands","width"] (aB B7):=by x_go
theorem aaP:aY ["in_order","width"] ["in_order","width"] (aB y8):=by x_go
theorem qN:aY ["common","count","before","bits"] ["common"] (aB Dd):=by x_go
theorem Q3:aY ["self"] ["self"] (aB yR):=by x_go
theorem Er:aY ["self","order","asked","word"] ["self","order"] (aB yx):=by x_go
theorem acF:aY ["self","width"] ["self","width"] (aB zB):=by x_go
theorem abu:aY ["self","word"] ["self","word"] (aB wt):=by x_go
theorem Kz:aY ["self","number","hands"] ["self","number"] (aB yy):=by x_go
theorem YU:aY ["self","number"] ["self","number"] (aB xX):=by x_go
theorem rY:aY ["order","parts","word","behind","error"] ["order"] (aB Bb):=by x_go
theorem Cs:aY ["text","top","book","place"] ["text","top"] (aB wn):=by x_go
theorem Q1:aY ["word","hands","top"] ["word","hands","top"] (aB C0):=by x_go
theorem Dk:aY ["found","number","calls"] ["found"] (aB Cd):=by x_go
theorem V4:aY ["script","k"] ["script","k"] (aB Dl):=by x_go
theorem Em:aY ["cell","k","number"] ["cell","k"] (aB Br):=by x_go
theorem Sy:aY ["cell","own","k","many"] ["cell","own","k","many"] (aB BR):=by x_go
theorem Cj:aY ["number","signs"] ["number"] (aB DT):=by x_go
theorem BD:aY ["cell","own","way","some"] ["cell","own"] (aB Di):=by x_go
theorem Cy:aY ["cell","own","some"] ["cell","own"] (aB A8):=by x_go
theorem BS:aY ["cell","own","heads","head"] ["cell","own"] (aB E5):=by x_go
theorem nV:aY ["cell","own","order","way","place","sign","head"] ["cell","own"] (aB DM):=by x_go
theorem aaA:aY ["word"] ["word"] (aB wY):=by x_go
theorem Mf:aY ["order","some_words"] ["order"] (aB EK):=by x_go
theorem yG:aY ["text","caught","e"] ["text"] (aB DX):=by x_go
theorem Ie:aY ["some_words","state","number"] ["some_words","state"] (aB Ce):=by x_go
theorem A9:aY ["order","state","some_words","wide"] ["order","state"] (aB Dp):=by x_go
theorem Jn:aY ["e","kinds"] ["e"] (aB Dq):=by x_go
theorem rf:aY ["desk","order","caught","found","e"] ["desk","order"] (aB Bl):=by x_go
theorem AS:aY ["desk","order","state","due","found"] ["desk","order","state"] (aB Ef):=by x_go
theorem oP:aY ["script","desks","states","own","cell","order","k"] ["script"] (aB BZ):=by x_go
set_option genInjectivity false in
set_option genSizeOf false in
set_option genSizeOfSpec false in
structure Tx(w:av)(K:aq)(mg:Str→Option Value) where
 (f_is_whole f_is_half f_is_low_of_open f_Half_init f_Half_holds f_Half_halves f_Half_shown f_Half_alike f_Open_init f_Open_holds f_Open_halves f_Open_shown f_Open_alike f_top_of f_cut f_cut_by f_can_answer f_follow f_room f_on_line f_heard f_talk f_words f_least_paper f_least f_greatest f_seek f_short_talk f_is_sure f_shown_book f_shown_row f_read_book f_read_row f_read_span f_read_answer f_read_bits f_read_number f_common_bits f_dins f_turns f_neighbours_common f_dins_by_common f_Desk_init f_Desk_told f_Desk_begin f_Desk_refuse_without_line f_Desk_come f_Desk_go f_read_order f_check f_answer f_shown_search f_l_cell_at f_l_drawn f_l_pick f_l_sign f_l_number f_l_text f_l_written f_l_order f_l_is_number f_l_is_order f_l_text_due f_l_moved f_l_due f_l_kind f_l_told f_l_right f_law a_SURE_HANDS a_ALONE a_OF_A_WIDTH C_LineError C_NoSpan C_NoHands C_NoHand C_NoTurn C_NoHall C_NoText C_NoOrder C_NoLine C_Span C_Half C_Open C_Desk:Addr)
 (d_is_whole d_is_half d_is_low_of_open d_Half_init d_Half_holds d_Half_halves d_Half_shown d_Half_alike d_Open_init d_Open_holds d_Open_halves d_Open_shown d_Open_alike d_top_of d_cut d_cut_by d_can_answer d_follow d_room d_on_line d_heard d_talk d_words d_least_paper d_least d_greatest d_seek d_short_talk d_is_sure d_shown_book d_shown_row d_read_book d_read_row d_read_span d_read_answer d_read_bits d_read_number d_common_bits d_dins d_turns d_neighbours_common d_dins_by_common d_Desk_init d_Desk_told d_Desk_begin d_Desk_refuse_without_line d_Desk_come d_Desk_go d_read_order d_check d_answer d_shown_search d_l_cell_at d_l_drawn d_l_pick d_l_sign d_l_number d_l_text d_l_written d_l_order d_l_is_number d_l_is_order d_l_text_due d_l_moved d_l_due d_l_kind d_l_told d_l_right d_law:FuncData)
 (v_top_of v_FIGURES v_MOST_FIGURES v_MOST_BITS v_MOST_HANDS:Value)
 Ke:mg "SURE_HANDS" = some (.ref a_SURE_HANDS)
 JA:so w K a_SURE_HANDS [("hush",0),("word",1),("din",2)]
 SE:mg "ALONE" = some (.ref a_ALONE)
 SA:ui K a_ALONE ["open","talk","short","turns","least","greatest","paper"]
 Wo:mg "OF_A_WIDTH" = some (.ref a_OF_A_WIDTH)
 RO:ui K a_OF_A_WIDTH ["turns","least","greatest","paper"]
 Tv:mg "FIGURES" = some v_FIGURES
 acD:bc (.str "0123456789") v_FIGURES
 YW:mg "MOST_FIGURES" = some v_MOST_FIGURES
 RJ:bc (.int 60) v_MOST_FIGURES
 YC:mg "MOST_BITS" = some v_MOST_BITS
 Rh:bc (.int 200) v_MOST_BITS
 abg:mg "MOST_HANDS" = some v_MOST_HANDS
 Xs:bc (.int 120) v_MOST_HANDS
 Gq:mg "LineError" = some (.ref C_LineError)
 xf:mg "NoSpan" = some (.ref C_NoSpan)
 wx:mg "NoHands" = some (.ref C_NoHands)
 L5:mg "NoHand" = some (.ref C_NoHand)
 YK:mg "NoTurn" = some (.ref C_NoTurn)
 acy:mg "NoHall" = some (.ref C_NoHall)
 lF:mg "NoText" = some (.ref C_NoText)
 wc:mg "NoOrder" = some (.ref C_NoOrder)
 BY:mg "NoLine" = some (.ref C_NoLine)
 aeY:mg "Span" = some (.ref C_Span)
 lP:mg "Half" = some (.ref C_Half)
 tX:mg "Open" = some (.ref C_Open)
 yg:mg "Desk" = some (.ref C_Desk)
 dA:fG K C_Half
 rm:Mk K C_Half f_Half_init
 aaq:gJ K C_Half "__class__" "object.__class__"
 Wf:gC K C_Half (.type "object")=some true
 ol:e8 K C_Half "low"
 iG:e8 K C_Half "bits"
 UH:fM K C_Half "holds" f_Half_holds
 Zp:fM K C_Half "halves" f_Half_halves
 ZU:fM K C_Half "shown" f_Half_shown
 Zf:fM K C_Half "alike" f_Half_alike
 aft:bj K C_Half C_Span true
 C4:bj K C_Half C_Half true
 UT:bj K C_Half C_Open false
 aeT:bj K C_Half C_Desk false
 ig:fG K C_Open
 yj:Mk K C_Open f_Open_init
 Rt:gJ K C_Open "__class__" "object.__class__"
 Xn:gC K C_Open (.type "object")=some true
 lA:e8 K C_Open "low"
 Sg:fM K C_Open "holds" f_Open_holds
 Zs:fM K C_Open "halves" f_Open_halves
 UQ:fM K C_Open "shown" f_Open_shown
 VV:fM K C_Open "alike" f_Open_alike
 ae0:bj K C_Open C_Span true
 Cp:bj K C_Open C_Half false
 Rf:bj K C_Open C_Open true
 afs:bj K C_Open C_Desk false
 gw:fG K C_Desk
 yr:Mk K C_Desk f_Desk_init
 aer:gJ K C_Desk "__class__" "object.__class__"
 aeF:gC K C_Desk (.type "object")=some true
 wv:e8 K C_Desk "top"
 t6:e8 K C_Desk "hands"
 BQ:fM K C_Desk "told" f_Desk_told
 Ri:fM K C_Desk "begin" f_Desk_begin
 Rp:fM K C_Desk "refuse_without_line" f_Desk_refuse_without_line
 Qt:fM K C_Desk "come" f_Desk_come
 SK:fM K C_Desk "go" f_Desk_go
 aeD:bj K C_Desk C_Span false
 afy:bj K C_Desk C_Half false
 afb:bj K C_Desk C_Open false
 afu:bj K C_Desk C_Desk true
 xg:FT K (.builtin "object.__class__") "__get__" = some (some (.builtin "getset_descriptor.__get__"))
 xt:Pt K (.builtin "object.__class__")=some true
 MR:eL K "int" "int" true
 ae6:eL K "bool" "int" true
 ae1:eL K "str" "int" false
 aeH:eL K "tuple" "int" false
 Vx:eL K "list" "int" false
 aeE:eL K "NoneType" "int" false
 aeZ:eL K "dict" "int" false
 MY:eL K "int" "bool" false
 afv:eL K "bool" "bool" true
 afi:eL K "str" "bool" false
 aes:eL K "tuple" "bool" false
 aev:eL K "list" "bool" false
 afw:eL K "NoneType" "bool" false
 aeN:eL K "dict" "bool" false
 ae3:eL K "int" "str" false
 Dh:eL K "bool" "str" false
 aby:eL K "str" "str" true
 De:eL K "tuple" "str" false
 afl:eL K "list" "str" false
 Jy:eL K "NoneType" "str" false
 NK:eL K "dict" "str" false
 zA:iH K C_NoSpan
 wa:iH K C_NoHands
 hZ:iH K C_NoText
 Cg:iH K C_NoLine
 KJ:iH K C_NoHand
 zc:iH K C_NoOrder
 LX:dW K (.ref C_NoSpan) [.ref C_NoSpan]=some true
 aeL:dW K (.ref C_NoHands) [.ref C_NoSpan]=some false
 XB:dW K (.ref C_NoText) [.ref C_NoSpan]=some false
 aeU:dW K (.ref C_NoLine) [.ref C_NoSpan]=some false
 aeR:dW K (.ref C_NoHand) [.ref C_NoSpan]=some false
 aff:dW K (.ref C_NoOrder) [.ref C_NoSpan]=some false
 afm:dW K (.ref C_NoSpan) [.ref C_NoText]=some false
 aeM:dW K (.ref C_NoHands) [.ref C_NoText]=some false
 qe:dW K (.ref C_NoText) [.ref C_NoText]=some true
 aeW:dW K (.ref C_NoLine) [.ref C_NoText]=some false
 aeX:dW K (.ref C_NoHand) [.ref C_NoText]=some false
 afa:dW K (.ref C_NoOrder) [.ref C_NoText]=some false
 afd:dW K (.ref C_NoSpan) [.ref C_LineError]=some true
 afc:dW K (.ref C_NoHands) [.ref C_LineError]=some true
 W7:dW K (.ref C_NoText) [.ref C_LineError]=some true
 ae4:dW K (.ref C_NoLine) [.ref C_LineError]=some true
 aez:dW K (.ref C_NoHand) [.ref C_LineError]=some true
 aet:dW K (.ref C_NoOrder) [.ref C_LineError]=some true
 ae8:dW K (.ref C_NoSpan) [.ref C_LineError]=some true
 X8:dW K (.ref C_NoHands) [.ref C_LineError]=some true
 ab0:dW K (.ref C_NoText) [.ref C_LineError]=some true
 Rb:dW K (.ref C_NoLine) [.ref C_LineError]=some true
 aa0:dW K (.ref C_NoHand) [.ref C_LineError]=some true
 MV:dW K (.ref C_NoOrder) [.ref C_LineError]=some true
 aeK:bj K C_NoSpan C_NoSpan true
 aeJ:bj K C_NoSpan C_LineError true
 aeO:bj K C_NoSpan C_NoOrder false
 aeG:bj K C_NoSpan C_NoLine false
 afh:bj K C_NoSpan C_NoText false
 aeu:bj K C_NoSpan C_NoHands false
 aeA:bj K C_NoSpan C_NoHand false
 ae9:bj K C_NoSpan C_NoHall false
 aeV:bj K C_NoSpan C_NoTurn false
 aeS:eF K (.ref C_NoSpan) (.type "ValueError")=some true
 afj:gJ K C_NoSpan "__getattribute__" "BaseException.__getattribute__"
 afo:e8 K C_NoSpan "__getattr__"
 afq:gJ K C_NoSpan "__class__" "object.__class__"
 afx:gC K C_NoSpan (.type "BaseException")=some true
 afg:gC K C_NoSpan (.type "object")=some true
 Uw:bj K C_NoHands C_NoHands true
 ae7:bj K C_NoHands C_LineError true
 XO:bj K C_NoHands C_NoOrder false
 X6:bj K C_NoHands C_NoLine false
 abB:bj K C_NoHands C_NoText false
 RW:bj K C_NoHands C_NoHand false
 YM:bj K C_NoHands C_NoHall false
 aaj:bj K C_NoHands C_NoSpan false
 Ww:bj K C_NoHands C_NoTurn false
 aaZ:eF K (.ref C_NoHands) (.type "ValueError")=some true
 X3:gJ K C_NoHands "__getattribute__" "BaseException.__getattribute__"
 So:e8 K C_NoHands "__getattr__"
 QM:gJ K C_NoHands "__class__" "object.__class__"
 Uu:gC K C_NoHands (.type "BaseException")=some true
 X1:gC K C_NoHands (.type "object")=some true
 Tw:bj K C_NoText C_NoText true
 aeQ:bj K C_NoText C_LineError true
 Ro:bj K C_NoText C_NoOrder false
 Uj:bj K C_NoText C_NoLine false
 Yi:bj K C_NoText C_NoHands false
 abm:bj K C_NoText C_NoHand false
 WR:bj K C_NoText C_NoHall false
 abK:bj K C_NoText C_NoSpan false
 ZL:bj K C_NoText C_NoTurn false
 S3:eF K (.ref C_NoText) (.type "ValueError")=some true
 abx:gJ K C_NoText "__getattribute__" "BaseException.__getattribute__"
 Yd:e8 K C_NoText "__getattr__"
 ZR:gJ K C_NoText "__class__" "object.__class__"
 Wa:gC K C_NoText (.type "BaseException")=some true
 Sk:gC K C_NoText (.type "object")=some true
 Yq:bj K C_NoLine C_NoLine true
 aeC:bj K C_NoLine C_LineError true
 ZZ:bj K C_NoLine C_NoOrder false
 Wx:bj K C_NoLine C_NoText false
 Zm:bj K C_NoLine C_NoHands false
 aa7:bj K C_NoLine C_NoHand false
 R3:bj K C_NoLine C_NoHall false
 Rx:bj K C_NoLine C_NoSpan false
 aar:bj K C_NoLine C_NoTurn false
 V1:eF K (.ref C_NoLine) (.type "ValueError")=some true
 Y0:gJ K C_NoLine "__getattribute__" "BaseException.__getattribute__"
 Wn:e8 K C_NoLine "__getattr__"
 Uz:gJ K C_NoLine "__class__" "object.__class__"
 acs:gC K C_NoLine (.type "BaseException")=some true
 aad:gC K C_NoLine (.type "object")=some true
 Xh:bj K C_NoHand C_NoHand true
 ae5:bj K C_NoHand C_LineError true
 XG:bj K C_NoHand C_NoOrder false
 acf:bj K C_NoHand C_NoLine false
 Vp:bj K C_NoHand C_NoText false
 W3:bj K C_NoHand C_NoHands false
 acN:bj K C_NoHand C_NoHall false
 ZH:bj K C_NoHand C_NoSpan false
 UI:bj K C_NoHand C_NoTurn false
 aaX:eF K (.ref C_NoHand) (.type "ValueError")=some true
 Uk:gJ K C_NoHand "__getattribute__" "BaseException.__getattribute__"
 Zy:e8 K C_NoHand "__getattr__"
 R8:gJ K C_NoHand "__class__" "object.__class__"
 T5:gC K C_NoHand (.type "BaseException")=some true
 aaR:gC K C_NoHand (.type "object")=some true
 aan:bj K C_NoOrder C_NoOrder true
 afr:bj K C_NoOrder C_LineError true
 Vh:bj K C_NoOrder C_NoLine false
 WE:bj K C_NoOrder C_NoText false
 Vu:bj K C_NoOrder C_NoHands false
 Ux:bj K C_NoOrder C_NoHand false
 YI:bj K C_NoOrder C_NoHall false
 Sh:bj K C_NoOrder C_NoSpan false
 acq:bj K C_NoOrder C_NoTurn false
 XS:eF K (.ref C_NoOrder) (.type "ValueError")=some true
 R7:gJ K C_NoOrder "__getattribute__" "BaseException.__getattribute__"
 VL:e8 K C_NoOrder "__getattr__"
 Y5:gJ K C_NoOrder "__class__" "object.__class__"
 RX:gC K C_NoOrder (.type "BaseException")=some true
 SO:gC K C_NoOrder (.type "object")=some true
 aeP:eF K (.type "NoneType") (.ref C_NoOrder)=some false
 aeB:eF K (.type "NoneType") (.ref C_NoLine)=some false
 afk:eF K (.type "NoneType") (.ref C_NoText)=some false
 afe:eF K (.type "NoneType") (.ref C_NoHands)=some false
 afn:eF K (.type "NoneType") (.ref C_NoHand)=some false
 ae2:eF K (.type "NoneType") (.ref C_NoHall)=some false
 aeI:eF K (.type "NoneType") (.ref C_NoSpan)=some false
 afp:eF K (.type "NoneType") (.ref C_NoTurn)=some false
 aew:eF K (.type "NoneType") (.type "ValueError")=some false
 abp:mg "ValueError" = none
 Gx:mg "all" = none
 Tt:mg "bool" = none
 ML:mg "enumerate" = none
 tE:mg "int" = none
 fN:mg "isinstance" = none
 dJ:mg "len" = none
 Q0:mg "max" = none
 YT:mg "range" = none
 aci:mg "set" = none
 aaT:mg "sorted" = none
 gU:mg "str" = none
 aae:mg "zip" = none
 iL:bD K mg "is_whole" Be ["thing"] f_is_whole d_is_whole
 yS:bD K mg "is_half" El ["low","bits"] f_is_half d_is_half
 xh:bD K mg "is_low_of_open" C8 ["low"] f_is_low_of_open d_is_low_of_open
 pz:eZ K "__init__" "Half.__init__" wg ["self","low","bits"] f_Half_init d_Half_init
 HW:eZ K "holds" "Half.holds" zy ["self","number"] f_Half_holds d_Half_holds
 HM:eZ K "halves" "Half.halves" ym ["self"] f_Half_halves d_Half_halves
 Jl:eZ K "shown" "Half.shown" yn ["self"] f_Half_shown d_Half_shown
 Kj:eZ K "alike" "Half.alike" xN ["self","other"] f_Half_alike d_Half_alike
 uG:eZ K "__init__" "Open.__init__" xA ["self","low"] f_Open_init d_Open_init
 Io:eZ K "holds" "Open.holds" xw ["self","number"] f_Open_holds d_Open_holds
 HF:eZ K "halves" "Open.halves" xZ ["self"] f_Open_halves d_Open_halves
 Gy:eZ K "shown" "Open.shown" xS ["self"] f_Open_shown d_Open_shown
 Ji:eZ K "alike" "Open.alike" x9 ["self","other"] f_Open_alike d_Open_alike
 iR:wF K mg "top_of" ud ["width"] f_top_of d_top_of v_top_of
 zi:bD K mg "cut" EQ ["book","top"] f_cut d_cut
 wQ:bD K mg "cut_by" B4 ["book","top","step"] f_cut_by d_cut_by
 yI:bD K mg "can_answer" EO ["row","call"] f_can_answer d_can_answer
 wK:bD K mg "follow" Bi ["row","call","due"] f_follow d_follow
 oy:bD K mg "room" Ew ["span"] f_room d_room
 iU:bD K mg "on_line" DR ["hands","top"] f_on_line d_on_line
 j8:bD K mg "heard" vX ["hands","span"] f_heard d_heard
 jZ:bD K mg "talk" yt ["hands","top"] f_talk d_talk
 zm:bD K mg "words" yi ["book"] f_words d_words
 wN:bD K mg "least_paper" yH ["hands","width"] f_least_paper d_least_paper
 zH:bD K mg "least" Dc ["hands","width"] f_least d_least
 xL:bD K mg "greatest" BX ["hands","width"] f_greatest d_greatest
 nZ:bD K mg "seek" BJ ["hands","width","side"] f_seek d_seek
 xU:bD K mg "short_talk" zq ["hands","top"] f_short_talk d_short_talk
 zE:bD K mg "is_sure" C3 ["book","place"] f_is_sure d_is_sure
 ku:bD K mg "shown_book" yT ["book"] f_shown_book d_shown_book
 xB:bD K mg "shown_row" BN ["row"] f_shown_row d_shown_row
 oa:bD K mg "read_book" xG ["text"] f_read_book d_read_book
 xI:bD K mg "read_row" DY ["text"] f_read_row d_read_row
 zg:bD K mg "read_span" EG ["text"] f_read_span d_read_span
 yB:bD K mg "read_answer" AT ["text"] f_read_answer d_read_answer
 oR:bD K mg "read_bits" DI ["text"] f_read_bits d_read_bits
 iP:bD K mg "read_number" xE ["text"] f_read_number d_read_number
 w8:bD K mg "common_bits" D8 ["one","other","width"] f_common_bits d_common_bits
 we:bD K mg "dins" Bu ["hands","width"] f_dins d_dins
 wy:bD K mg "turns" B7 ["hands","width"] f_turns d_turns
 yY:bD K mg "neighbours_common" y8 ["in_order","width"] f_neighbours_common d_neighbours_common
 zw:bD K mg "dins_by_common" Dd ["common"] f_dins_by_common d_dins_by_common
 sv:eZ K "__init__" "Desk.__init__" yR ["self"] f_Desk_init d_Desk_init
 zM:eZ K "told" "Desk.told" yx ["self","order"] f_Desk_told d_Desk_told
 KN:eZ K "begin" "Desk.begin" zB ["self","width"] f_Desk_begin d_Desk_begin
 GP:eZ K "refuse_without_line" "Desk.refuse_without_line" wt ["self","word"] f_Desk_refuse_without_line d_Desk_refuse_without_line
 Hm:eZ K "come" "Desk.come" yy ["self","number"] f_Desk_come d_Desk_come
 NG:eZ K "go" "Desk.go" xX ["self","number"] f_Desk_go d_Desk_go
 zK:bD K mg "read_order" Bb ["order"] f_read_order d_read_order
 xk:bD K mg "check" wn ["text","top"] f_check d_check
 yh:bD K mg "answer" C0 ["word","hands","top"] f_answer d_answer
 oW:bD K mg "shown_search" Cd ["found"] f_shown_search d_shown_search
 xj:bD K mg "_law_cell_at" Dl ["script","k"] f_l_cell_at d_l_cell_at
 y7:bD K mg "_law_drawn" Br ["cell","k"] f_l_drawn d_l_drawn
 ci:bD K mg "_law_pick" BR ["cell","own","k","many"] f_l_pick d_l_pick
 ya:bD K mg "_law_sign" DT ["number"] f_l_sign d_l_sign
 yD:bD K mg "_law_number" Di ["cell","own"] f_l_number d_l_number
 yZ:bD K mg "_law_text" A8 ["cell","own"] f_l_text d_l_text
 x6:bD K mg "_law_written" E5 ["cell","own"] f_l_written d_l_written
 xv:bD K mg "_law_order" DM ["cell","own"] f_l_order d_l_order
 x8:bD K mg "_law_is_number" wY ["word"] f_l_is_number d_l_is_number
 yU:bD K mg "_law_is_order" EK ["order"] f_l_is_order d_l_is_order
 wO:bD K mg "_law_text_due" DX ["text"] f_l_text_due d_l_text_due
 xn:bD K mg "_law_moved" Ce ["some_words","state"] f_l_moved d_l_moved
 xY:bD K mg "_law_due" Dp ["order","state"] f_l_due d_l_due
 oj:bD K mg "_law_kind" Dq ["e"] f_l_kind d_l_kind
 kr:bD K mg "_law_told" Bl ["desk","order"] f_l_told d_l_told
 yA:bD K mg "_law_right" Ef ["desk","order","state"] f_l_right d_l_right
 B0:bD K mg "law" BZ ["script"] f_law d_law
theorem Tx.ek_NoHands{w:av}{K:aq}{mg:Str→Option Value}(T:Tx w K mg):eY K T.C_NoHands:=eY.of T.wa T.X3 T.So T.QM T.Uu T.X1
theorem Tx.ek_NoText{w:av}{K:aq}{mg:Str→Option Value}(T:Tx w K mg):eY K T.C_NoText:=eY.of T.hZ T.abx T.Yd T.ZR T.Wa T.Sk
theorem Tx.ek_NoLine{w:av}{K:aq}{mg:Str→Option Value}(T:Tx w K mg):eY K T.C_NoLine:=eY.of T.Cg T.Y0 T.Wn T.Uz T.acs T.aad
theorem Tx.ek_NoHand{w:av}{K:aq}{mg:Str→Option Value}(T:Tx w K mg):eY K T.C_NoHand:=eY.of T.KJ T.Uk T.Zy T.R8 T.T5 T.aaR
theorem Tx.ek_NoOrder{w:av}{K:aq}{mg:Str→Option Value}(T:Tx w K mg):eY K T.C_NoOrder:=eY.of T.zc T.R7 T.VL T.Y5 T.RX T.SO
theorem Tx.ty_Half{w:av}{K:aq}{mg:Str→Option Value}(T:Tx w K mg){H:Hp}{a dx:Addr}{fs:List (Str×V)}(e:H a=some (.ins T.C_Half dx fs)):de K H (.ref a) (.ref T.C_Half):=.ins e T.dA T.aaq T.xg T.xt T.Wf
theorem Tx.ty_Open{w:av}{K:aq}{mg:Str→Option Value}(T:Tx w K mg){H:Hp}{a dx:Addr}{fs:List (Str×V)}(e:H a=some (.ins T.C_Open dx fs)):de K H (.ref a) (.ref T.C_Open):=.ins e T.ig T.Rt T.xg T.xt T.Xn
section
variable{P:aG}{w:av}{K:aq}{mg:Str→Option Value}{base:Heap}
def ZM:Sp:=fun vs H Q _=>∃i:Int,vs=[.int i]∧Q (.bl true) H
theorem ze(T:Tx w K mg):aM P w K mg base ba 1 T.f_is_whole T.d_is_whole ["thing"] (ZM):=by
 refine T.iL.F.ok aaO ?_ ?_;kj_on
 ·obtain⟨i,rfl,_⟩:=h;rfl
 obtain⟨i,rfl,q⟩:=h;refine⟨_,(ap (az (nO (bP (lL (K:=K) rfl) rfl T.fN fD (ae (pv 0) (ae (rj (v:=.ty "int") rfl T.tE uL rfl) af))) (oE (U3 (bP (lL (K:=K) rfl) rfl T.fN fD (ae (pv 0) (ae (rj (v:=.ty "bool") rfl T.Tt S6 rfl) af)))))))),?_⟩;refine⟨_,rfl,_,_,_,_,rfl,rfl,de.int i,T.MR,_,rfl,lp ?_⟩;refine⟨_,rfl,_,_,_,_,rfl,rfl,de.int i,T.MY,_,rfl,?_⟩;exact q
def hV(low bits:Int):Bool:=decide (0≤low)&&(decide (0≤bits)&&decide (low/pw bits*pw bits=low))
def Rl:Sp:=fun vs H Q _=>∃low bits:Int,vs=[.int low,.int bits]∧jw low∧bits≤1000∧Q (.bl (hV low bits)) H
theorem Tg{a w:Int}(h:jw a)(h0:0≤a)(hw:0<w):jw (a/w):=by
 have h1:0≤a/w:=Int.ediv_nonneg h0 (Ol hw);have h2:a/w≤a:=Int.ediv_le_self w h0;have h3:=h.2;exact⟨by omega,by omega⟩
theorem aai(T:Tx w K mg):aM P w K mg base ba 2 T.f_is_half T.d_is_half ["low","bits"] (Rl):=by
 refine T.yS.F.ok abH ?_ ?_;kj_on
 ·obtain⟨low,bits,rfl,_⟩:=h;rfl
 obtain⟨low,bits,rfl,hb,hs,q⟩:=h;refine⟨_,(ao (aQ (PW.pt (fg (fk (cy (aX (ze T) (hr.mono (by decide)) rfl T.iL.m T.iL.F.kp T.iL.b .nil aT (ae (pv 0) af)))) (fW (fk (cy (aX (ze T) (hr.mono (by decide)) rfl T.iL.m T.iL.F.kp T.iL.b .nil aT (ae (pv 1) af))))))) (ap (az gh)) aS)
  (ao (aQ (PW.pt (fg (aO uY (pv 0) aj (aD _)) (fW (aO uY (pv 1) aj (aD _))))) (ap (az gh)) aS)
  (ap (az (eg br (be CU (be xO (pv 0) (pv 1)) (pv 1)) (pv 0) (aD _)))))),?_⟩
 refine⟨_,rfl,_,rfl,_,rfl,mz ?_⟩;refine⟨_,rfl,_,rfl,_,rfl,mz ?_⟩;refine⟨_,rfl,_,_,rfl,rfl,_,rfl,uA (fun c=>lp ?_) (fun c=>?_)⟩
 ·have c':low<0:=of_decide_eq_true c;have e:hV low bits=false:=by
   unfold hV;rw[decide_eq_false (show¬0≤low by omega),pJ]
  rw[e]at q;exact q
 have c':¬low<0:=of_decide_eq_false c;refine⟨_,rfl,_,_,rfl,rfl,_,rfl,uA (fun d=>?_) (fun d=>?_)⟩
 ·have d':bits<0:=of_decide_eq_true d;have e:hV low bits=false:=by
   unfold hV;rw[decide_eq_false (show¬0≤bits by omega),pJ,E7]
  rw[e]at q;exact q
 have d':¬bits<0:=of_decide_eq_false d;refine⟨_,rfl,_,rfl,_,_,rfl,rfl,(by show(0:Int)≤bits;omega),_,rfl,_,_,rfl,rfl,⟨by omega,hs,Tg hb (by omega) (fZ _)⟩,_,rfl,rfl,?_⟩;have e:hV low bits=decide (V.int (low/pw bits*pw bits)=V.int low):=by
  unfold hV;rw[decide_eq_true (show 0≤low by omega),decide_eq_true (show 0≤bits by omega),pK,pK,oZ,lQ]
 rw[e]at q;exact q
def oz(low bits:Int):List (Str×V):=[("low",.int low),("bits",.int bits)]
theorem MS:¬(("low" : Str)="bits"):=by k_go
theorem ww(low bits:Int):cD "bits" (.int bits) (cD "low" (.int low) [])=oz low bits:=by
 show(if("low" : Str)="bits" then[(("low" : Str),V.int bits)]else(("low" : Str),V.int low)::cD "bits" (V.int bits) [])=_;rw[if_neg MS];rfl
theorem qO(low bits:Int):(oz low bits).lookup ("low" : Str)=some (.int low):=by
 rw[←ww,hJ,if_neg MS,hJ,if_pos rfl]
theorem jj(low bits:Int):(oz low bits).lookup ("bits" : Str)=some (.int bits):=by
 rw[←ww,hJ,if_pos rfl]
theorem qt(low bits:Int){m:Str}(h1:¬m="bits")(h2:¬m="low"):(oz low bits).lookup m=none:=by
 rw[←ww,hJ,if_neg h1,hJ,if_neg h2];rfl
theorem oK{a b:Int}(h:a≤b):pw a≤pw b:=by
 unfold pw;have q:(2:Nat)^a.toNat≤2^b.toNat:=O2 (by decide) (by omega)
 exact_mod_cast q
theorem lc{b:Int}(h:1≤b):pw b=2*pw (b-1):=by
 unfold pw;have e:b.toNat=(b-1).toNat+1:=by omega
 rw[e,Int.pow_succ,Om]
theorem Up{b:Int}(h:b≤200):pw b≤2^200:=oK h
theorem Ra{a w:Int}:a/w*w=a↔a%w=0:=by
 have e:w*(a/w)+a%w=a:=Int.mul_ediv_add_emod a w;rw[Om];constructor
 ·intro h;omega
 ·intro h;omega
structure bx(C:Addr)(H:Hp)(a:Addr)(low bits:Int):Prop where
 ob:∃dx,H a=some (.ins C dx (oz low bits))
 b0:0≤bits
 b1:bits≤900
 lo:0≤low
 big:low+pw bits≤2^900
 mul:low%pw bits=0
theorem bx.keep{C a:Addr}{H H':Hp}{low bits:Int}(h:bx C H a low bits)(s:ah H H'):bx C H' a low bits:=
 ⟨let⟨dx,e⟩:=h.ob;⟨dx,s _ _ e⟩,h.b0,h.b1,h.lo,h.big,h.mul⟩
theorem yE{low bits:Int}:hV low bits=true↔0≤low∧0≤bits∧low%pw bits=0:=by
 unfold hV;rw[gb,gb,decide_eq_true_iff,decide_eq_true_iff,decide_eq_true_iff,Ra]
theorem Uh(k:Nat):2^k&&&(2^k-1)=0:=by
 rw[Nat.and_two_pow_sub_one_eq_mod,Nat.mod_self]
theorem acB{n:Nat}(h0:0<n)(h:n&&&(n-1)=0):n=2^n.log2:=by
 have h1:2^n.log2≤n:=OW (by omega);have h2:n<2^(n.log2+1):=OY;rcases Nat.lt_or_eq_of_le h1 with hlt|he
 ·exfalso;have t1:n.testBit n.log2=true:=by
   rw[O7];have:n/2^n.log2=1:=by
    apply OT
    ·omega
    ·rw[O3]at h2;omega
   rw[this];decide
  have t2:(n-1).testBit n.log2=true:=by
   rw[O7];have:(n-1)/2^n.log2=1:=by
    apply OT
    ·omega
    ·rw[O3]at h2;omega
   rw[this];decide
  have:(n&&&(n-1)).testBit n.log2=true:=by rw[Nat.testBit_and,t1,t2];rfl
  rw[h]at this;simp at this
 ·exact he.symm
theorem Nz(a b:Nat):lR (a:Int) (b:Int)=((a&&&b:Nat):Int):=by
 unfold lR;rw[decide_eq_true (show(0:Int)≤(a:Int)by omega),decide_eq_true (show(0:Int)≤(b:Int)by omega)];simp
def nP(low:Int):Prop:=low=0∨∃k:Int,0≤k∧low=pw k
theorem uS{k:Int}(h:0≤k):pw k=((2^k.toNat:Nat):Int):=by
 unfold pw;rw[Int.natCast_pow];rfl
theorem Ld{low:Int}(h:0≤low):lR low (low-1)=0↔nP low:=by
 by_cases hz:low=0
 ·subst hz;exact⟨fun _=>.inl rfl,fun _=>by decide⟩
 have e1:low=((low.toNat:Nat):Int):=by omega
 have e2:low-1=((low.toNat-1:Nat):Int):=by omega
 rw[e2]
 conv=>lhs;rw[e1]
 rw[show lR ((low.toNat:Nat):Int) ((((low.toNat:Nat):Int)).toNat-1:Nat)=((low.toNat&&&(low.toNat-1):Nat):Int)from Nz _ _];constructor
 ·intro h';have h'':low.toNat&&&(low.toNat-1)=0:=by omega
  have q:=acB (by omega) h'';refine .inr ⟨(low.toNat.log2:Int),by omega,?_⟩;rw[uS (by omega),mZ,←q];exact e1
 ·rintro(h'|⟨k,k0,h'⟩)
  ·omega
  ·have e3:low.toNat=2^k.toNat:=by rw[uS k0]at h';omega
   rw[e3,Uh];rfl
def jk(low:Int):Bool:=decide (0≤low)&&decide (lR low (low-1)=0)
theorem wG{low:Int}:jk low=true↔0≤low∧nP low:=by
 unfold jk;rw[gb,decide_eq_true_iff,decide_eq_true_iff];constructor
 ·rintro⟨a,b⟩;exact⟨a,(Ld a).mp b⟩
 ·rintro⟨a,b⟩;exact⟨a,(Ld a).mpr b⟩
def UM:Sp:=fun vs H Q _=>∃low:Int,vs=[.int low]∧Q (.bl (jk low)) H
theorem Vo(T:Tx w K mg):aM P w K mg base ba 2 T.f_is_low_of_open T.d_is_low_of_open ["low"] (UM):=by
 refine T.xh.F.ok QQ ?_ ?_;kj_on
 ·obtain⟨low,rfl,_⟩:=h;rfl
 obtain⟨low,rfl,q⟩:=h;refine⟨_,(ao (aQ (PW.pt (fg (fk (cy (aX (ze T) (hr.mono (by decide)) rfl T.iL.m T.iL.F.kp T.iL.b .nil aT (ae (pv 0) af)))) (fW (aO uY (pv 0) aj (aD _))))) (ap (az gh)) aS)
  (ap (az (eg br (be ZJ (pv 0) (be kh (pv 0) aj)) aj (aD _))))),?_⟩
 refine⟨_,rfl,_,rfl,_,rfl,mz ?_⟩;refine⟨_,rfl,_,_,rfl,rfl,_,rfl,uA (fun c=>?_) (fun c=>?_)⟩
 ·have c':low<0:=of_decide_eq_true c;have e:jk low=false:=by
   unfold jk;rw[decide_eq_false (show¬0≤low by omega),pJ]
  rw[e]at q;exact q
 have c':¬low<0:=of_decide_eq_false c;refine⟨_,rfl,_,rfl,_,_,rfl,rfl,_,_,rfl,rfl,rfl,?_⟩;have e:jk low=decide (V.int (lR low (low-1))=V.int 0):=by
  unfold jk;rw[decide_eq_true (show 0≤low by omega),pK,oZ,lQ]
 rw[e]at q;exact q
def rp(low:Int):List (Str×V):=[("low",.int low)]
theorem mB(low:Int):(rp low).lookup ("low" : Str)=some (.int low):=by
 have e:rp low=cD "low" (.int low) []:=rfl;rw[e,hJ,if_pos rfl]
theorem qx(low:Int){m:Str}(h:¬m="low"):(rp low).lookup m=none:=by
 have e:rp low=cD "low" (.int low) []:=rfl;rw[e,hJ,if_neg h];rfl
structure bX(C:Addr)(H:Hp)(a:Addr)(low:Int):Prop where
 ob:∃dx,H a=some (.ins C dx (rp low))
 lo:0≤low
 big:low≤2^900
 pow:nP low
theorem bX.keep{C a:Addr}{H H':Hp}{low:Int}(h:bX C H a low)(s:ah H H'):bX C H' a low:=
 ⟨let⟨dx,e⟩:=h.ob;⟨dx,s _ _ e⟩,h.lo,h.big,h.pow⟩
inductive Sn|half(low bits:Int)|opn (low:Int)
 deriving DecidableEq
def am:Sn→Int→Bool
 |.half low bits,n=>decide (low≤n∧n<low+pw bits)
 |.opn low,n=>decide (low≤n)
def bg(C CO:Addr)(H:Hp)(a:Addr):Sn→Prop
 |.half low bits=>bx C H a low bits
 |.opn low=>bX CO H a low
theorem bg.keep{C CO a:Addr}{H H':Hp}:∀{s:Sn},bg C CO H a s→ah H H'→bg C CO H' a s
 |.half _ _,h,k=>bx.keep h k
 |.opn _,h,k=>bX.keep h k
def mD:Sn→Int
 |.half low _=>low
 |.opn low=>low
theorem bg.at_{C CO a:Addr}{H H':Hp}(k:∀o,H a=some o→H' a=some o):∀{s:Sn},bg C CO H a s→bg C CO H' a s
 |.half _ _,h=>⟨let⟨dx,e⟩:=bx.ob h;⟨dx,k _ e⟩,bx.b0 h,bx.b1 h,bx.lo h,bx.big h,bx.mul h⟩
 |.opn _,h=>⟨let⟨dx,e⟩:=bX.ob h;⟨dx,k _ e⟩,bX.lo h,bX.big h,bX.pow h⟩
theorem bg.ne{C CO a l:Addr}{H:Hp}{ys:List V}:∀{s:Sn},bg C CO H a s→H l=some (.lst ys)→a≠l
 |.half _ _,h,k=>let⟨_,e⟩:=bx.ob h;GV e k (by intro z;cases z)
 |.opn _,h,k=>let⟨_,e⟩:=bX.ob h;GV e k (by intro z;cases z)
def ES(C CN:Addr):Sp:=fun vs H Q E=>∃(p dx:Addr) (low bits:Int),vs=[.ref p,.int low,.int bits]∧H p=some (.ins C dx [])∧jw low∧bits≤1000∧
 (hV low bits=true→∀H':Hp,H' p=some (.ins C dx (oz low bits))→(∀b,b≠p→H' b=H b)→Q .non H')∧(hV low bits=false→E (.ref CN) none H)
theorem qq(T:Tx w K mg):aM P w K mg base (aC P w) 3 T.f_Half_init T.d_Half_init ["self","low","bits"] (ES T.C_Half T.C_NoSpan):=by
 refine T.pz.F.okE Z5 ?_ ?_;kj_on
 ·obtain⟨p,dx,low,bits,rfl,_⟩:=h;rfl
 obtain⟨p,dx,low,bits,rfl,hp,hb,hs,q,q'⟩:=h;refine⟨_,(ao (aQ (fk (cy (aX (aai T) (hr.mono (by decide)) rfl T.yS.m T.yS.F.kp T.yS.b .nil aT (ae (pv 1) (ae (pv 2) af))))) (ap (gv T.zA rfl T.xf (ae ai af))) aS)
  (ao (mn (pv 0) (pv 1) rfl)
  (ap (mn (pv 0) (pv 2) rfl)))),?_⟩
 got_up;refine⟨_,_,rfl,hb,hs,?_⟩;ke_read;cases hg:hV low bits with
 |false=>
  refine cW rfl ?_;ke_read;exact q' hg
 |true=>
  refine dX rfl ?_;ke_read;refine⟨_,rfl,_,rfl,p,T.C_Half,dx,[],rfl,hp,T.dA,T.ol,(by show 0<1000;decide),?_⟩;ke_read;refine⟨_,rfl,_,rfl,p,T.C_Half,dx,_,rfl,eB,T.dA,T.iG,(by show 1<1000;decide),?_⟩;refine q hg _ ?_ fun b hne=>?_
  ·rw[eB,ww]
  ·rw[bp hne,bp hne]
def LP(C:Addr):List V→Hp→VK→Prop:=fun vs H Q=>∃low bits:Int,vs=[.int low,.int bits]∧0≤low∧0≤bits∧bits≤900∧low+pw bits≤2^900∧low%pw bits=0∧
 ∀(a:Addr) (H':Hp),ah H H'→H a=none→bx C H' a low bits→Q (.ref a) H'
def UK(C CN:Addr):List V→Hp→VK→XK→Prop:=fun vs H Q E=>LP C vs H Q∨∃low bits:Int,vs=[.int low,.int bits]∧jw low∧bits≤1000∧hV low bits=false∧∀H',ah H H'→E (.ref CN) none H'
theorem Nk{H:Hp}{x dx C:Addr}(nx:H x=none)(ndx:H dx=none):ah H (upd (upd H dx (.own x)) x (.ins C dx [])):=fun b o z=>by
 rw[bp (db z nx),bp (db z ndx)];exact z
theorem Ju(T:Tx w K mg)(vs:List V)(H:Hp)(Q:VK)(E:XK)(h:UK T.C_Half T.C_NoSpan vs H Q E):
  ∀x dx,H x=none→H dx=none→dx≠x→ES T.C_Half T.C_NoSpan (.ref x::(vs++[])) (upd (upd H dx (.own x)) x (.ins T.C_Half dx [])) (fun v H2=>v=.non∧Q (.ref x) H2) E:=by
 intro x dx nx ndx ne;rcases h with⟨low,bits,rfl,h0,b0,b1,hb,hm,q⟩|⟨low,bits,rfl,hc,hs,hf,q⟩
 ·have wp:=fZ bits;refine⟨x,dx,low,bits,rfl,eB,⟨by omega,by omega⟩,by omega,fun _ H' e k=>⟨rfl,?_⟩,fun z=>?_⟩
  ·refine q x H' (fun b o z=>?_) nx ⟨⟨dx,e⟩,b0,b1,h0,hb,hm⟩;rw[k b (db z nx),bp (db z nx),bp (db z ndx)];exact z
  ·rw[yE.mpr ⟨h0,b0,hm⟩]at z;cases z
 ·refine⟨x,dx,low,bits,rfl,eB,hc,hs,fun z=>?_,fun _=>q _ (Nk nx ndx)⟩;rw[hf]at z;cases z
theorem tG(T:Tx w K mg)(vs:List V)(H:Hp)(Q:VK)(h:LP T.C_Half vs H Q):
  ∀x dx,H x=none→H dx=none→dx≠x→ES T.C_Half T.C_NoSpan (.ref x::(vs++[])) (upd (upd H dx (.own x)) x (.ins T.C_Half dx [])) (fun v H2=>v=.non∧Q (.ref x) H2) E0:=Ju T vs H Q E0 (.inl h)
def ER(C CN:Addr):Sp:=fun vs H Q E=>∃(p dx:Addr) (low:Int),vs=[.ref p,.int low]∧H p=some (.ins C dx [])∧
 (jk low=true→∀H':Hp,H' p=some (.ins C dx (rp low))→(∀b,b≠p→H' b=H b)→Q .non H')∧(jk low=false→E (.ref CN) none H)
theorem yC(T:Tx w K mg):aM P w K mg base (aC P w) 3 T.f_Open_init T.d_Open_init ["self","low"] (ER T.C_Open T.C_NoSpan):=by
 refine T.uG.F.okE XE ?_ ?_;kj_on
 ·obtain⟨p,dx,low,rfl,_⟩:=h;rfl
 obtain⟨p,dx,low,rfl,hp,q,q'⟩:=h;refine⟨_,(ao (aQ (fk (cy (aX (Vo T) (hr.mono (by decide)) rfl T.xh.m T.xh.F.kp T.xh.b .nil aT (ae (pv 1) af)))) (ap (gv T.zA rfl T.xf (ae ai af))) aS)
  (ap (mn (pv 0) (pv 1) rfl))),?_⟩
 got_up;refine⟨_,rfl,?_⟩;ke_read;cases hg:jk low with
 |false=>
  refine cW rfl ?_;ke_read;exact q' hg
 |true=>
  refine dX rfl ?_;ke_read;refine⟨_,rfl,_,rfl,p,T.C_Open,dx,[],rfl,hp,T.ig,T.lA,(by show 0<1000;decide),?_⟩;exact q hg _ eB fun b hne=>bp hne
def G6(C:Addr):List V→Hp→VK→Prop:=fun vs H Q=>∃low:Int,vs=[.int low]∧0≤low∧low≤2^900∧nP low∧∀(a:Addr) (H':Hp),ah H H'→H a=none→bX C H' a low→Q (.ref a) H'
def QD(C CN:Addr):List V→Hp→VK→XK→Prop:=fun vs H Q E=>G6 C vs H Q∨∃low:Int,vs=[.int low]∧jk low=false∧∀H',ah H H'→E (.ref CN) none H'
theorem GD(T:Tx w K mg)(vs:List V)(H:Hp)(Q:VK)(E:XK)(h:QD T.C_Open T.C_NoSpan vs H Q E):
  ∀x dx,H x=none→H dx=none→dx≠x→ER T.C_Open T.C_NoSpan (.ref x::(vs++[])) (upd (upd H dx (.own x)) x (.ins T.C_Open dx [])) (fun v H2=>v=.non∧Q (.ref x) H2) E:=by
 intro x dx nx ndx ne;rcases h with⟨low,rfl,h0,hb,hm,q⟩|⟨low,rfl,hf,q⟩
 ·refine⟨x,dx,low,rfl,eB,fun _ H' e k=>⟨rfl,?_⟩,fun z=>?_⟩
  ·refine q x H' (fun b o z=>?_) nx ⟨⟨dx,e⟩,h0,hb,hm⟩;rw[k b (db z nx),bp (db z nx),bp (db z ndx)];exact z
  ·rw[wG.mpr ⟨h0,hm⟩]at z;cases z
 ·refine⟨x,dx,low,rfl,eB,fun z=>?_,fun _=>q _ (Nk nx ndx)⟩;rw[hf]at z;cases z
theorem DP(T:Tx w K mg)(vs:List V)(H:Hp)(Q:VK)(h:G6 T.C_Open vs H Q):
  ∀x dx,H x=none→H dx=none→dx≠x→ER T.C_Open T.C_NoSpan (.ref x::(vs++[])) (upd (upd H dx (.own x)) x (.ins T.C_Open dx [])) (fun v H2=>v=.non∧Q (.ref x) H2) E0:=GD T vs H Q E0 (.inl h)
theorem Uq{low w n:Int}(hw:0<w)(hm:low%w=0):(n/w=low/w)↔(low≤n∧n<low+w):=by
 obtain⟨q,rfl⟩:∃q,low=q*w:=⟨low/w,(Int.ediv_mul_cancel (Of hm)).symm⟩;rw[Int.mul_ediv_cancel _ (Int.ne_of_gt hw),Int.le_antisymm_iff,←Int.lt_add_one_iff,Int.ediv_lt_iff_lt_mul hw,Oj hw,Int.add_mul,Os];exact And.comm
def QT(C:Addr):Sp:=fun vs H Q _=>∃(a:Addr) (low bits n:Int),vs=[.ref a,.int n]∧bx C H a low bits∧Q (.bl (decide (low≤n∧n<low+pw bits))) H
theorem Rg(T:Tx w K mg):aM P w K mg base ba 1 T.f_Half_holds T.d_Half_holds ["self","number"] (QT T.C_Half):=by
 refine T.HW.F.ok XT ?_ ?_;kj_on
 ·obtain⟨a,low,bits,n,rfl,_⟩:=h;rfl
 obtain⟨a,low,bits,n,rfl,hA,q⟩:=h;obtain⟨dx,h1⟩:=hA.ob;refine⟨_,(ap (az (eg br (be xO (pv 1) (cn (K:=K) rfl (pv 0) rfl)) (be xO (cn (K:=K) rfl (pv 0) rfl) (cn (K:=K) rfl (pv 0) rfl)) (aD _)))),?_⟩;refine⟨_,rfl,_,rfl,a,T.C_Half,dx,_,_,rfl,h1,T.dA,T.iG,jj _ _,_,_,rfl,rfl,hA.b0,?_⟩;refine⟨_,rfl,a,T.C_Half,dx,_,_,rfl,h1,T.dA,T.ol,qO _ _,_,rfl,a,T.C_Half,dx,_,_,rfl,h1,T.dA,T.iG,jj _ _,_,_,rfl,rfl,hA.b0,rfl,?_⟩;have e:decide (low≤n∧n<low+pw bits)=decide (V.int (n/pw bits)=V.int (low/pw bits)):=by
  rw[oZ,lQ];exact decide_eq_decide.mpr (Uq (fZ _) hA.mul).symm
 rw[e]at q;exact q
theorem YF{low w:Int}(h:low%(2*w)=0):low%w=0∧(low+1*w)%w=0:=by
 have d:2*w ∣ low:=Of h;have d':w ∣ low:=Int.dvd_trans (Int.dvd_mul_left 2 w) d;rw[Os];exact⟨Oh d',Oh (Int.dvd_add d' (Int.dvd_refl w))⟩
def Zj(C:Addr):Sp:=fun vs H Q _=>∃(a:Addr) (low bits:Int),vs=[.ref a]∧bx C H a low bits∧1≤bits∧
 ∀(r p1 p2:Addr) (H':Hp),ah H H'→H' r=some (.tup [.ref p1,.ref p2])→p1≠p2→bx C H' p1 low (bits-1)→bx C H' p2 (low+1*pw (bits-1)) (bits-1)→Q (.ref r) H'
theorem Qs(T:Tx w K mg):aM P w K mg base ba 5 T.f_Half_halves T.d_Half_halves ["self"] (Zj T.C_Half):=by
 refine T.HM.F.ok Mm ?_ ?_;kj_on
 ·obtain⟨a,low,bits,rfl,_⟩:=h;rfl
 obtain⟨a,low,bits,rfl,hA,hb,q⟩:=h;obtain⟨dx,h1⟩:=hA.ob;have e2:=lc hb;have wp:=fZ (bits-1);have big:=hA.big;have lo:=hA.lo;have b1:=hA.b1;have hm:=hA.mul;rw[e2]at big hm;obtain⟨m1,m2⟩:=YF hm;refine⟨_,(ao (aQ (aO br (cn (K:=K) rfl (pv 0) rfl) aj (aD _)) (ap Sr) aS)
  (ao (aW (i:=1) Mm.nd rfl (by z_go) (be kh (cn (K:=K) rfl (pv 0) rfl) aj))
  (ap (az (cK (ae (mG (tG T) T.rm (qq T) (hr.mono (by decide)) rfl T.lP T.pz.b iJ (ae (cn (K:=K) rfl (pv 0) rfl) (ae (pv 1) af))) (ae (mG (tG T) T.rm (qq T) (hr.mono (by decide)) rfl T.lP T.pz.b iJ (ae (be mj (cn (K:=K) rfl (pv 0) rfl) (be CU aj (pv 1))) (ae (pv 1) af))) af))))))),?_⟩
 refine⟨_,rfl,a,T.C_Half,dx,_,_,rfl,h1,T.dA,T.iG,jj _ _,rfl,_,rfl,uA (fun c=>?_) (fun c=>?_)⟩
 ·have c':V.int bits=V.int 0:=of_decide_eq_true c;injection c' with c';omega
 refine⟨_,rfl,a,T.C_Half,dx,_,_,rfl,h1,T.dA,T.iG,jj _ _,_,_,rfl,rfl,?_⟩;refine⟨_,rfl,a,T.C_Half,dx,_,_,rfl,h1,T.dA,T.ol,qO _ _,_,rfl,?_⟩;refine⟨_,_,rfl,lo,(by omega),(by omega),(by omega),m1,fun p1 H1 s1 _ hA1=>?_⟩;refine⟨_,rfl,a,T.C_Half,dx,_,_,rfl,s1 _ _ h1,T.dA,T.ol,qO _ _,_,rfl,_,_,rfl,rfl,⟨by omega,by omega,by decide,by decide⟩,_,_,rfl,rfl,_,rfl,?_⟩;refine⟨_,_,rfl,(by omega),(by omega),(by omega),(by omega),m2,fun p2 H2 s2 np2 hA2=>?_⟩;refine⟨(by show 2≤sizeLine;decide),fun r H3 g3=>?_⟩;exact q r p1 p2 H3 (s1.trans (s2.trans g3.same)) g3.at_ (let⟨_,e⟩:=hA1.ob;db e np2) (hA1.keep (s2.trans g3.same)) (hA2.keep g3.same)
def aaE(C:Addr):Sp:=fun vs H Q _=>∃(a:Addr) (low n:Int),vs=[.ref a,.int n]∧bX C H a low∧Q (.bl (decide (low≤n))) H
theorem Td(T:Tx w K mg):aM P w K mg base ba 1 T.f_Open_holds T.d_Open_holds ["self","number"] (aaE T.C_Open):=by
 refine T.Io.F.ok QR ?_ ?_;kj_on
 ·obtain⟨a,low,n,rfl,_⟩:=h;rfl
 obtain⟨a,low,n,rfl,hA,q⟩:=h;obtain⟨dx,h1⟩:=hA.ob;refine⟨_,(ap (az (eg sy (pv 1) (cn (K:=K) rfl (pv 0) rfl) (aD _)))),?_⟩;exact⟨_,rfl,_,rfl,a,T.C_Open,dx,_,_,rfl,h1,T.ig,T.lA,mB _,_,_,rfl,rfl,q⟩
theorem MO{k:Int}(h:0≤k):(cV (pw k):Int)-1=k:=by
 have p:=fZ k;unfold cV;rw[if_neg (fun z=>by have z':pw k=0:=F7 z;omega)];have e:(pw k).natAbs=2^k.toNat:=by rw[uS h,Oo]
 rw[e,Nat.log2_two_pow];omega
theorem YG(k:Int):pw k%pw k=0:=Int.emod_self
theorem UC{k:Int}(h:0≤k):nP (2*pw k):=by
 refine .inr ⟨k+1,by omega,?_⟩;rw[lc (show 1≤k+1 by omega),show k+1-1=k by omega]
theorem WF{k:Int}(h:0≤k)(hp:pw k≤2^900):k≤900:=by
 by_cases c:k≤900
 ·exact c
 ·exfalso;have q:pw 901≤pw k:=oK (by omega);have e:pw 901=2^901:=rfl;rw[e]at q;omega
structure W8(C CO:Addr)(H:Hp)(r p1 p2:Addr)(low:Int):Prop where
 at_:H r=some (.tup [.ref p1,.ref p2])
 ne:p1≠p2
 alt:(low=0∧bx C H p1 0 0∧bX CO H p2 1)∨(∃k,0≤k∧low=pw k∧bx C H p1 low k∧bX CO H p2 (2*low))
def Sw(C CO:Addr):Sp:=fun vs H Q _=>∃(a:Addr) (low:Int),vs=[.ref a]∧bX CO H a low∧low≤2^800∧
 ∀(r p1 p2:Addr) (H':Hp),ah H H'→W8 C CO H' r p1 p2 low→Q (.ref r) H'
theorem UX(T:Tx w K mg):aM P w K mg base ba 5 T.f_Open_halves T.d_Open_halves ["self"] (Sw T.C_Half T.C_Open):=by
 refine T.HF.F.ok Ts ?_ ?_;kj_on
 ·obtain⟨a,low,rfl,_⟩:=h;rfl
 obtain⟨a,low,rfl,hA,hs,q⟩:=h;obtain⟨dx,h1⟩:=hA.ob;refine⟨_,(ao (aQ (aO br (cn (K:=K) rfl (pv 0) rfl) aj (aD _)) (ap (az (cK (ae (mG (tG T) T.rm (qq T) (hr.mono (by decide)) rfl T.lP T.pz.b iJ (ae aj (ae aj af))) (ae (mG (DP T) T.yj (yC T) (hr.mono (by decide)) rfl T.tX T.uG.b iJ (ae aj af)) af))))) aS)
  (ap (az (cK (ae (mG (tG T) T.rm (qq T) (hr.mono (by decide)) rfl T.lP T.pz.b iJ (ae (cn (K:=K) rfl (pv 0) rfl) (ae (be kh (tQ Pd Fl Pe LD (cn (K:=K) rfl (pv 0) rfl)) aj) af))) (ae (mG (DP T) T.yj (yC T) (hr.mono (by decide)) rfl T.tX T.uG.b iJ (ae (be pA aj (cn (K:=K) rfl (pv 0) rfl)) af)) af)))))),?_⟩
 refine⟨_,rfl,a,T.C_Open,dx,_,_,rfl,h1,T.ig,T.lA,mB _,rfl,_,rfl,uA (fun c=>?_) (fun c=>?_)⟩
 ·have c':V.int low=V.int 0:=of_decide_eq_true c;injection c' with c';refine⟨_,_,rfl,(by decide),(by decide),(by decide),(by k_go),(by k_go),fun p1 H1 s1 _ hA1=>?_⟩;refine⟨_,rfl,(by decide),(by k_go),(.inr ⟨0,by decide,by k_go⟩),fun p2 H2 s2 np2 hA2=>?_⟩;refine⟨(by show 2≤sizeLine;decide),fun r H3 g3=>?_⟩;exact q r p1 p2 H3 (s1.trans (s2.trans g3.same)) ⟨g3.at_,(let⟨_,e⟩:=hA1.ob;db e np2),.inl ⟨c',hA1.keep (s2.trans g3.same),hA2.keep g3.same⟩⟩
 ·have c':¬V.int low=V.int 0:=of_decide_eq_false c;have lz:low≠0:=fun z=>c' (by rw[z]);obtain⟨k,k0,ek⟩:∃k:Int,0≤k∧low=pw k:=by
   rcases hA.pow with z|z
   ·exact absurd z lz
   ·exact z
  have lo:=hA.lo;have big:=hA.big;have kb:k≤900:=WF k0 (by omega);have eb:(cV low:Int)-1=k:=by rw[ek];exact MO k0
  refine⟨_,rfl,a,T.C_Open,dx,_,_,rfl,h1,T.ig,T.lA,mB _,_,rfl,a,T.C_Open,dx,_,_,rfl,h1,T.ig,T.lA,mB _,rfl,_,rfl,rfl,_,_,rfl,rfl,?_⟩;rw[eb];refine⟨_,_,rfl,lo,k0,kb,(by rw[←ek];omega),(by rw[ek];exact YG k),fun p1 H1 s1 _ hA1=>?_⟩;refine⟨_,rfl,a,T.C_Open,dx,_,_,rfl,s1 _ _ h1,T.ig,T.lA,mB _,_,_,rfl,rfl,⟨⟨by omega,by omega⟩,by omega,by omega⟩,?_⟩;refine⟨_,rfl,(by omega),(by omega),(by rw[ek];exact UC k0),fun p2 H2 s2 np2 hA2=>?_⟩;refine⟨(by show 2≤sizeLine;decide),fun r H3 g3=>?_⟩;exact q r p1 p2 H3 (s1.trans (s2.trans g3.same)) ⟨g3.at_,(let⟨_,e⟩:=hA1.ob;db e np2),.inr ⟨k,k0,ek,hA1.keep (s2.trans g3.same),hA2.keep g3.same⟩⟩
def aJ(i:Int):Str:=AB (AL i)
theorem Ba{i:Int}(h0:0≤i)(h1:i<2^1000):(aJ i).length≤1000:=by
 unfold aJ;refine FK h0 (by decide) (Int.lt_trans h1 ?_)
 decide +kernel
theorem hE{i:Int}(h0:0≤i)(h1:i<2^1000):i.natAbs.log2<1920:=by
 by_cases hz:i.natAbs=0
 ·rw[hz];decide +kernel
 ·have hn:i.natAbs<2^1000:=by omega
  have:=(Al hz).mpr hn;omega
theorem D9{x:Str}(h:x.length≤1000):(x++("+" : Str)).length≤1001:=by
 rw[cO];have:("+" : Str).length=1:=by k_go
 omega
theorem cz{n:Nat}(h:n≤5000):n≤sizeLine:=by
 rw[vP];omega
def t9(low bits:Int):Str:=aJ low++("+" : Str)++aJ bits
theorem Gs{bits:Int}(h:bits≤900):bits<2^1000:=by omega
theorem bx.low_lt{C a:Addr}{H:Hp}{low bits:Int}(h:bx C H a low bits):low<2^900:=by
 have:=h.big;have:=fZ bits;omega
def ZA(C:Addr):Sp:=fun vs H Q _=>∃(a:Addr) (low bits:Int),vs=[.ref a]∧bx C H a low bits∧Q (.str (t9 low bits)) H
theorem ZP(T:Tx w K mg):aM P w K mg base ba 1 T.f_Half_shown T.d_Half_shown ["self"] (ZA T.C_Half):=by
 refine T.Jl.F.ok abI ?_ ?_;kj_on
 ·obtain⟨a,low,bits,rfl,_⟩:=h;rfl
 obtain⟨a,low,bits,rfl,hA,q⟩:=h;obtain⟨dx,h1⟩:=hA.ob;have hl:=hA.low_lt;have hl1:low<2^1000:=by omega
 have n1:=Ba hA.lo hl1;have n2:=Ba hA.b0 (Gs hA.b1);refine⟨_,(ap (az (be fY (be fY (gj jF rfl T.gU gW (ae (cn (K:=K) rfl (pv 0) rfl) af)) ai) (gj jF rfl T.gU gW (ae (cn (K:=K) rfl (pv 0) rfl) af))))),?_⟩;refine⟨_,rfl,a,T.C_Half,dx,_,_,rfl,h1,T.dA,T.ol,qO _ _,_,rfl,hE hA.lo hl1,?_⟩;refine⟨_,_,rfl,rfl,cz (by show(aJ low).length+("+" : Str).length≤5000;rw[←cO];exact cB (D9 n1) (by decide)),?_⟩;refine⟨_,rfl,a,T.C_Half,dx,_,_,rfl,h1,T.dA,T.iG,jj _ _,_,rfl,hE hA.b0 (Gs hA.b1),?_⟩;refine⟨_,_,rfl,rfl,cz (by show(aJ low++("+" : Str)).length+(aJ bits).length≤5000;have:=D9 n1;omega),?_⟩;exact q
def uj(low:Int):Str:=aJ low++("+" : Str)
def XW(C:Addr):Sp:=fun vs H Q _=>∃(a:Addr) (low:Int),vs=[.ref a]∧bX C H a low∧Q (.str (uj low)) H
theorem Zr(T:Tx w K mg):aM P w K mg base ba 1 T.f_Open_shown T.d_Open_shown ["self"] (XW T.C_Open):=by
 refine T.Gy.F.ok VG ?_ ?_;kj_on
 ·obtain⟨a,low,rfl,_⟩:=h;rfl
 obtain⟨a,low,rfl,hA,q⟩:=h;obtain⟨dx,h1⟩:=hA.ob;have hb:=hA.big;have hl1:low<2^1000:=by omega
 have n1:=Ba hA.lo hl1;refine⟨_,(ap (az (be fY (gj jF rfl T.gU gW (ae (cn (K:=K) rfl (pv 0) rfl) af)) ai))),?_⟩;refine⟨_,rfl,a,T.C_Open,dx,_,_,rfl,h1,T.ig,T.lA,mB _,_,rfl,hE hA.lo hl1,?_⟩;refine⟨_,_,rfl,rfl,cz (by show(aJ low).length+("+" : Str).length≤5000;rw[←cO];exact cB (D9 n1) (by decide)),?_⟩;exact q
def MF(C CO a:Addr)(s:Sn):Sp:=fun vs H Q _=>∃n:Int,vs=[.ref a,.int n]∧bg C CO H a s∧Q (.bl (am s n)) H
theorem aaa(T:Tx w K mg){H:Hp}{a:Addr}{s:Sn}(hA:bg T.C_Half T.C_Open H a s):mO P w K mg base ba 1 "holds" a H (MF T.C_Half T.C_Open a s):=by
 cases s with
 |half low bits=>
  obtain⟨dx,h1⟩:=bx.ob hA;exact⟨T.C_Half,dx,_,T.f_Half_holds,T.d_Half_holds,_,h1,qt _ _ (by k_go) (by k_go),T.dA,T.UH,((Rg T).imp (fun vs H Q E ⟨n,e,h,q⟩=>⟨a,low,bits,n,e,h,q⟩)).mono (by decide),T.HW.b⟩
 |opn low=>
  obtain⟨dx,h1⟩:=bX.ob hA;exact⟨T.C_Open,dx,_,T.f_Open_holds,T.d_Open_holds,_,h1,qx _ (by k_go),T.ig,T.Sg,((Td T).imp (fun vs H Q E ⟨n,e,h,q⟩=>⟨a,low,n,e,h,q⟩)).mono (by decide),T.Io.b⟩
theorem YY{C CO a:Addr}{s:Sn}{n:Int}{H:Hp}{Q:VK}{E:XK}(h:bg C CO H a s)(q:Q (.bl (am s n)) H):MF C CO a s (.ref a::([.int n]++[])) H Q E:=⟨n,rfl,h,q⟩
def acb(C CO:Addr):Sp:=fun vs H Q _=>∃(a b:Addr) (low bits:Int) (s:Sn),vs=[.ref a,.ref b]∧bx C H a low bits∧bg C CO H b s∧Q (.bl (decide (Sn.half low bits=s))) H
theorem Vb(T:Tx w K mg):aM P w K mg base ba 1 T.f_Half_alike T.d_Half_alike ["self","other"] (acb T.C_Half T.C_Open):=by
 refine T.Kj.F.ok UU ?_ ?_;kj_on
 ·obtain⟨a,b,low,bits,s,rfl,_⟩:=h;rfl
 obtain⟨a,b,low,bits,s,rfl,hA,hB,q⟩:=h;obtain⟨dx,h1⟩:=hA.ob;refine⟨_,(ap (az (nO (bP (lL (K:=K) rfl) rfl T.fN fD (ae (pv 1) (ae (dC (v:=.ref T.C_Half) rfl T.lP rfl) af))) (nO (eg br (cn (K:=K) rfl (pv 0) rfl) (cn (K:=K) rfl (pv 1) rfl) (aD _)) (oE (eg br (cn (K:=K) rfl (pv 0) rfl) (cn (K:=K) rfl (pv 1) rfl) (aD _))))))),?_⟩;cases s with
 |opn low'=>
  obtain⟨dy,h2⟩:=bX.ob hB;refine⟨_,rfl,_,_,_,_,rfl,rfl,T.ty_Open h2,T.Cp,_,rfl,mz ?_⟩;rw[decide_eq_false (by intro z;cases z)]at q;exact q
 |half low' bits'=>
  obtain⟨dy,h2⟩:=bx.ob hB;refine⟨_,rfl,_,_,_,_,rfl,rfl,T.ty_Half h2,T.C4,_,rfl,lp ?_⟩;refine⟨_,rfl,a,T.C_Half,dx,_,_,rfl,h1,T.dA,T.ol,qO _ _,_,rfl,b,T.C_Half,dy,_,_,rfl,h2,T.dA,T.ol,qO _ _,?_⟩;refine wA ⟨_,rfl,cG (fun c=>?_) (fun c=>?_)⟩
  ·subst c;refine⟨_,rfl,a,T.C_Half,dx,_,_,rfl,h1,T.dA,T.iG,jj _ _,_,rfl,b,T.C_Half,dy,_,_,rfl,h2,T.dA,T.iG,jj _ _,wA ?_⟩;rw[show decide (Sn.half low bits=Sn.half low bits')=decide (bits=bits')by simp]at q;exact q
  ·rw[decide_eq_false (by intro z;injection z with z1 z2;exact c z1)]at q;exact q
def Ws(C CO:Addr):Sp:=fun vs H Q _=>∃(a b:Addr) (low:Int) (s:Sn),vs=[.ref a,.ref b]∧bX CO H a low∧bg C CO H b s∧Q (.bl (decide (Sn.opn low=s))) H
theorem Xg(T:Tx w K mg):aM P w K mg base ba 1 T.f_Open_alike T.d_Open_alike ["self","other"] (Ws T.C_Half T.C_Open):=by
 refine T.Ji.F.ok aav ?_ ?_;kj_on
 ·obtain⟨a,b,low,s,rfl,_⟩:=h;rfl
 obtain⟨a,b,low,s,rfl,hA,hB,q⟩:=h;obtain⟨dx,h1⟩:=hA.ob;refine⟨_,(ap (az (nO (bP (lL (K:=K) rfl) rfl T.fN fD (ae (pv 1) (ae (dC (v:=.ref T.C_Open) rfl T.tX rfl) af))) (oE (eg br (cn (K:=K) rfl (pv 0) rfl) (cn (K:=K) rfl (pv 1) rfl) (aD _)))))),?_⟩;cases s with
 |half low' bits'=>
  obtain⟨dy,h2⟩:=bx.ob hB;refine⟨_,rfl,_,_,_,_,rfl,rfl,T.ty_Half h2,T.UT,_,rfl,mz ?_⟩;rw[decide_eq_false (by intro z;cases z)]at q;exact q
 |opn low'=>
  obtain⟨dy,h2⟩:=bX.ob hB;refine⟨_,rfl,_,_,_,_,rfl,rfl,T.ty_Open h2,T.Rf,_,rfl,lp ?_⟩;refine⟨_,rfl,a,T.C_Open,dx,_,_,rfl,h1,T.ig,T.lA,mB _,_,rfl,b,T.C_Open,dy,_,_,rfl,h2,T.ig,T.lA,mB _,?_⟩;refine wA ?_;rw[show decide (Sn.opn low=Sn.opn low')=decide (low=low')by simp]at q;exact q
def KP(C CO a:Addr)(s:Sn):Sp:=fun vs H Q _=>∃(b:Addr) (s':Sn),vs=[.ref a,.ref b]∧bg C CO H a s∧bg C CO H b s'∧Q (.bl (decide (s=s'))) H
theorem Zl(T:Tx w K mg){H:Hp}{a:Addr}{s:Sn}(hA:bg T.C_Half T.C_Open H a s):mO P w K mg base ba 1 "alike" a H (KP T.C_Half T.C_Open a s):=by
 cases s with
 |half low bits=>
  obtain⟨dx,h1⟩:=bx.ob hA;exact⟨T.C_Half,dx,_,T.f_Half_alike,T.d_Half_alike,_,h1,qt _ _ (by k_go) (by k_go),T.dA,T.Zf,((Vb T).imp (fun vs H Q E ⟨b,s',e,h,h',q⟩=>⟨a,b,low,bits,s',e,h,h',q⟩)).mono (by decide),T.Kj.b⟩
 |opn low=>
  obtain⟨dx,h1⟩:=bX.ob hA;exact⟨T.C_Open,dx,_,T.f_Open_alike,T.d_Open_alike,_,h1,qx _ (by k_go),T.ig,T.VV,((Xg T).imp (fun vs H Q E ⟨b,s',e,h,h',q⟩=>⟨a,b,low,s',e,h,h',q⟩)).mono (by decide),T.Ji.b⟩
theorem VQ{C CO a b:Addr}{s s':Sn}{H:Hp}{Q:VK}{E:XK}(h1:bg C CO H a s)(h2:bg C CO H b s')(q:Q (.bl (decide (s=s'))) H):KP C CO a s (.ref a::([.ref b]++[])) H Q E:=⟨b,s',rfl,h1,h2,q⟩
def ii:Sn→Str
 |.half low bits=>t9 low bits
 |.opn low=>uj low
def Ln(C CO a:Addr)(s:Sn):Sp:=fun vs H Q _=>vs=[.ref a]∧bg C CO H a s∧Q (.str (ii s)) H
theorem S4(T:Tx w K mg){H:Hp}{a:Addr}{s:Sn}(hA:bg T.C_Half T.C_Open H a s):mO P w K mg base ba 1 "shown" a H (Ln T.C_Half T.C_Open a s):=by
 cases s with
 |half low bits=>
  obtain⟨dx,h1⟩:=bx.ob hA;exact⟨T.C_Half,dx,_,T.f_Half_shown,T.d_Half_shown,_,h1,qt _ _ (by k_go) (by k_go),T.dA,T.ZU,((ZP T).imp (fun vs H Q E ⟨e,h,q⟩=>⟨a,low,bits,e,h,q⟩)).mono (by decide),T.Jl.b⟩
 |opn low=>
  obtain⟨dx,h1⟩:=bX.ob hA;exact⟨T.C_Open,dx,_,T.f_Open_shown,T.d_Open_shown,_,h1,qx _ (by k_go),T.ig,T.UQ,((Zr T).imp (fun vs H Q E ⟨e,h,q⟩=>⟨a,low,e,h,q⟩)).mono (by decide),T.Gy.b⟩
theorem abh{C CO a:Addr}{s:Sn}{H:Hp}{Q:VK}{E:XK}(h:bg C CO H a s)(q:Q (.str (ii s)) H):Ln C CO a s (.ref a::([]++[])) H Q E:=⟨rfl,h,q⟩
def cx:Sn→Sn
 |.half low b=>.half low (b-1)
 |.opn low=>if low=0 then .half 0 0 else .half low ((cV low:Int)-1)
def cU:Sn→Sn
 |.half low b=>.half (low+1*pw (b-1)) (b-1)
 |.opn low=>if low=0 then .opn 1 else .opn (2*low)
def jl:Sn→Prop
 |.half _ b=>1≤b
 |.opn low=>low≤2^800
theorem qS:cx (.opn 0)=.half 0 0:=by simp[cx]
theorem qT:cU (.opn 0)=.opn 1:=by simp[cU]
theorem qJ{k:Int}(h:0≤k):cx (.opn (pw k))=.half (pw k) k:=by
 have p:=fZ k;show(if pw k=0 then _ else _)=_;rw[if_neg (by omega),MO h]
theorem rh{k:Int}:cU (.opn (pw k))=.opn (2*pw k):=by
 have p:=fZ k;show(if pw k=0 then _ else _)=_;rw[if_neg (by omega)]
def Mz(C CO a:Addr)(s:Sn):Sp:=fun vs H Q _=>vs=[.ref a]∧bg C CO H a s∧jl s∧
 ∀(r p1 p2:Addr) (H':Hp),ah H H'→H' r=some (.tup [.ref p1,.ref p2])→bg C CO H' p1 (cx s)→bg C CO H' p2 (cU s)→Q (.ref r) H'
theorem Wc(T:Tx w K mg){H:Hp}{a:Addr}{s:Sn}(hA:bg T.C_Half T.C_Open H a s):mO P w K mg base ba 5 "halves" a H (Mz T.C_Half T.C_Open a s):=by
 cases s with
 |half low bits=>
  obtain⟨dx,h1⟩:=bx.ob hA;exact⟨T.C_Half,dx,_,T.f_Half_halves,T.d_Half_halves,_,h1,qt _ _ (by k_go) (by k_go),T.dA,T.Zp,
   ((Qs T).imp (fun vs H Q E ⟨e,h,hc,q⟩=>⟨a,low,bits,e,h,hc,fun r p1 p2 H' s1 hr _ a1 a2=>q r p1 p2 H' s1 hr a1 a2⟩)).mono (by decide),T.HM.b⟩
 |opn low=>
  obtain⟨dx,h1⟩:=bX.ob hA;refine⟨T.C_Open,dx,_,T.f_Open_halves,T.d_Open_halves,_,h1,qx _ (by k_go),T.ig,T.Zs,
   ((UX T).imp (fun vs H Q E ⟨e,h,hc,q⟩=>⟨a,low,e,h,hc,fun r p1 p2 H' s1 pr=>?_⟩)).mono (by decide),T.HF.b⟩
  rcases pr.alt with⟨e,a1,a2⟩|⟨k,k0,e,a1,a2⟩
  ·subst e;exact q r p1 p2 H' s1 pr.at_ (by rw[qS];exact a1) (by rw[qT];exact a2)
  ·subst e;exact q r p1 p2 H' s1 pr.at_ (by rw[qJ k0];exact a1) (by rw[rh];exact a2)
theorem J0{C CO a:Addr}{s:Sn}{H:Hp}{Q:VK}{E:XK}(h:bg C CO H a s)(hc:jl s)(q:∀(r p1 p2:Addr) (H':Hp),ah H H'→H' r=some (.tup [.ref p1,.ref p2])→bg C CO H' p1 (cx s)→bg C CO H' p2 (cU s)→Q (.ref r) H'):
  Mz C CO a s (.ref a::([]++[])) H Q E:=⟨rfl,h,hc,q⟩
def WB(C CO:Addr):Sp:=fun vs H Q _=>∃v:V,vs=[v]∧((v=.non∧∀(a:Addr) (H':Hp),ah H H'→H a=none→bg C CO H' a (.opn 0)→Q (.ref a) H')∨
 (∃w:Int,v=.int w∧0≤w∧w≤300∧∀(a:Addr) (H':Hp),ah H H'→H a=none→bg C CO H' a (.half 0 w)→Q (.ref a) H'))
theorem yN(T:Tx w K mg):aM P w K mg base ba 5 T.f_top_of T.d_top_of ["width"] (WB T.C_Half T.C_Open):=by
 refine T.iR.F.ok abV ?_ ?_;kj_on
 ·obtain⟨v,rfl,_⟩:=h;rfl
 obtain⟨v,rfl,h⟩:=h;refine⟨_,(ao (aQ (aO zb (pv 0) ie (aD _)) (ap (az (mG (DP T) T.yj (yC T) (hr.mono (by decide)) rfl T.tX T.uG.b iJ (ae aj af)))) aS)
  (ap (az (mG (tG T) T.rm (qq T) (hr.mono (by decide)) rfl T.lP T.pz.b iJ (ae aj (ae (pv 0) af)))))),?_⟩
 rcases h with⟨rfl,q⟩|⟨w,rfl,w0,w1,q⟩
 ·exact⟨_,rfl,rfl,_,rfl,lp ⟨_,rfl,by decide,by k_go,.inl rfl,fun a H' s n hA=>q a H' s n hA⟩⟩
 ·refine⟨_,rfl,rfl,_,rfl,mz ?_⟩;have h300:pw w≤pw 300:=oK w1;have e300:pw 300=2^300:=rfl;rw[e300]at h300;exact⟨_,rfl,_,_,rfl,by decide,w0,by omega,by omega,by simp,fun a H' s n hA=>q a H' s n hA⟩
theorem Qu(a b:Nat):N4 (a:Int) (b:Int)=((a|||b:Nat):Int):=by
 unfold N4 lR;rw[decide_eq_false (show¬(0:Int)≤iz (a:Int)by unfold iz;omega),decide_eq_false (show¬(0:Int)≤iz (b:Int)by unfold iz;omega)];have e:∀n:Nat,(iz (iz (n:Int))).toNat=n:=fun n=>by unfold iz;omega
 show iz (iz (((iz (iz (a:Int))).toNat|||(iz (iz (b:Int))).toNat:Nat):Int))=_;rw[e,e];unfold iz;omega
open Builtin Builtin.Str in
theorem Hc{c:Nat}:∀{a b u v:List Nat},c∉a→c∉b→a++c::u=b++c::v→a=b∧u=v
 |[],[],_,_,_,_,h=>⟨rfl,by simpa using h⟩
 |[],y::b,u,v,_,hb,h=>by
  injection h with h1 _;exact absurd (h1▸.head _) hb
 |x::a,[],u,v,ha,_,h=>by
  injection h with h1 _;exact absurd (h1▸.head _) ha
 |x::a,y::b,u,v,ha,hb,h=>by
  injection h with h1 h2;obtain⟨e1,e2⟩:=Hc (fun z=>ha (.tail _ z)) (fun z=>hb (.tail _ z)) h2;exact⟨by rw[h1,e1],e2⟩
theorem iV{x y:Str}(h:x.cps.toList=y.cps.toList):x=y:=by
 cases x with
 |mk a=>
  cases y with
  |mk b=>exact congrArg _ (Array.toList_inj.mp h)
theorem qM(y p q:Str)(r:List Str):(cM y (p::q::r)).cps.toList=p.cps.toList++(y.cps.toList++(cM y (q::r)).cps.toList):=by
 show((p++y++cM y (q::r))).cps.toList=_;simp only[gB,gM,jP]
theorem B2{y:Str}{c:Nat}{t:List Nat}(hy:y.cps.toList=c::t):∀{ps qs:List Str},ps≠[]→qs≠[]→(∀p∈ps,c∉p.cps.toList)→(∀q∈qs,c∉q.cps.toList)→cM y ps=cM y qs→ps=qs
 |[],_,h,_,_,_,_=>absurd rfl h
 |_::_,[],_,h,_,_,_=>absurd rfl h
 |[p],[q],_,_,_,_,e=>by
  have e':p=q:=e;rw[e']
 |[p],q::q'::r,_,_,hp,_,e=>by
  have e2:=congrArg (fun u:Str=>u.cps.toList) e;replace e2:p.cps.toList=(cM y (q::q'::r)).cps.toList:=e2;rw[qM,hy]at e2;exact absurd (by rw[e2];simp) (hp p (.head _))
 |p::p'::r,[q],_,_,_,hq,e=>by
  have e2:=congrArg (fun u:Str=>u.cps.toList) e;replace e2:(cM y (p::p'::r)).cps.toList=q.cps.toList:=e2;rw[qM,hy]at e2;exact absurd (by rw[←e2];simp) (hq q (.head _))
 |p::p'::r,q::q'::r',_,_,hp,hq,e=>by
  have e2:=congrArg (fun u:Str=>u.cps.toList) e;replace e2:(cM y (p::p'::r)).cps.toList=(cM y (q::q'::r')).cps.toList:=e2;rw[qM,qM,hy]at e2;obtain⟨e3,e4⟩:=Hc (hp p (.head _)) (hq q (.head _)) e2;have e5:=iV (List.append_cancel_left e4);rw[iV e3,B2 hy (ps:=p'::r) (qs:=q'::r') (fun z=>nomatch z) (fun z=>nomatch z) (fun a ha=>hp a (.tail _ ha)) (fun a ha=>hq a (.tail _ ha)) e5]
open Builtin Builtin.Str in
theorem qR(x y:Str):cN x y≠[]:=by
 unfold cN;split
 ·exact fun z=>nomatch z
 ·split
  ·exact fun z=>nomatch z
  ·intro z;have:=L2.E3 x (occurrences x y 0 x.length (x.length+1)) y.length;rw[z]at this;simp at this
theorem rX{c:Nat}{ps:List Str}(hne:ps≠[])(hf:∀p∈ps,c∉p.cps.toList):cN (cM ⟨#[c]⟩ ps) ⟨#[c]⟩=ps:=
 B2 (y:=⟨#[c]⟩) (c:=c) (t:=[]) rfl (qR _ _) hne (F1 _ c) hf (FZ _ _)
def um(x:Str):Prop:=∀k:Nat,x.cps.toList[k]?=some 59→x.cps.toList[k+1]?=some 32
theorem Gm:∀{ps:List Str},(∀p∈ps,59∉p.cps.toList)→um (cM ⟨#[59,32]⟩ ps)
 |[],_,k,h=>by
  have:([]:List Nat)[k]?=some 59:=h;simp at this
 |[p],hp,k,h=>absurd (fw h) (hp p (.head _))
 |p::q::r,hp,k,h=>by
  have ih:=Gm (ps:=q::r) fun a ha=>hp a (.tail _ ha);rw[qM]at h⊢;have ey:(⟨#[59,32]⟩:Str).cps.toList=[59,32]:=rfl;rw[ey]at h⊢;by_cases c1:k<p.cps.toList.length
  ·rw[rE c1]at h;exact absurd (fw h) (hp p (.head _))
  ·rw[iY (by omega)]at h;rw[iY (by omega),show k+1-p.cps.toList.length=(k-p.cps.toList.length)+1 by omega];generalize k-p.cps.toList.length=m at h
   match m,h with
   | 0,_=>rfl
   | 1,h=>simp at h
   |m+2,h=>
    have h':(cM ⟨#[59,32]⟩ (q::r)).cps.toList[m]?=some 59:=by simpa using h
    simpa using ih m h'
open Builtin Builtin.Str in
theorem Jc{x:Str}(hl:um x){k:Nat}(h:x.cps.toList[k]?=some 59):AC x ⟨#[59,32]⟩ x.length k:=by
 have h2:=hl k h;have l2:=(gO.mp h2).1;have e:x.cps.toList.length=x.length:=rfl;have ey:(⟨#[59,32]⟩:Str).length=2:=rfl;refine⟨by omega,?_⟩;rw[rO,ey];have l1:k<x.cps.toList.length:=by omega
 rw[z8 l1,z8 l2];rw[cL l1]at h;rw[cL l2]at h2;rw[cP h,cP h2];rfl
open Builtin Builtin.Str in
theorem NS{x:Str}(hl:um x){a b:Nat}(hn:∀k,a≤k→k<b→¬AC x ⟨#[59,32]⟩ x.length k):59∉(strSub x a b).cps.toList:=by
 intro hm;rw[F2]at hm;obtain⟨j,hj⟩:=Ac hm;have h1:=(gO.mp hj).1;have hlt:j<b-a:=by
  rw[pN]at h1;omega
 rw[Oz hlt,List.getElem?_drop]at hj;exact hn (a+j) (by omega) (by omega) (Jc hl hj)
open Builtin Builtin.Str in
theorem KC{x:Str}(hl:um x):∀(cuts:List Nat) (a f:Nat),StrLaws.ChainG x ⟨#[59,32]⟩ x.length a cuts f→(∀k,f≤k→¬AC x ⟨#[59,32]⟩ x.length k)→∀p∈StrLaws.partsFrom x 2 a cuts,59∉p.cps.toList
 |[],a,f,h,hn,p,hp=>by
  have e:f=a:=h;subst e;rw[dS.mp hp];exact NS hl fun k h1 _=>hn k h1
 |d::r,a,f,h,hn,p,hp=>by
  rcases bu.mp hp with e|hp
  ·rw[e];exact NS hl h.2.2.1
  ·exact KC hl r _ f h.2.2.2 hn p hp
open Builtin Builtin.Str in
theorem VO{x:Str}(hl:um x):∀p∈cN x ⟨#[59,32]⟩,59∉p.cps.toList:=by
 obtain⟨f,hG,hn⟩:=StrLaws.occ_tight x ⟨#[59,32]⟩ (by decide);have whole:(∀k,¬AC x ⟨#[59,32]⟩ x.length k)→59∉x.cps.toList:=fun h hm=>by
  obtain⟨j,hj⟩:=Ac hm;exact h j (Jc hl hj)
 unfold cN;split
 ·rename_i hc;intro p hp;rw[dS.mp hp];refine whole fun k hA=>?_;rw[zO,decide_eq_true_eq,decide_eq_true_eq]at hc;rcases hc with h|h
  ·have:=hA.1;omega
  ·have e1:Fc ⟨#[59,32]⟩=1:=by k_go
   have e2:1≤Fc x:=by
    unfold Fc;split
    ·exact bv _
    ·split<;>decide
   omega
 ·split
  ·rename_i he;intro p hp;rw[dS.mp hp];have e0:occurrences x ⟨#[59,32]⟩ 0 x.length (x.length+1)=[]:=List.isEmpty_iff.mp he;rw[e0]at hG;have ef:f=0:=hG;subst ef;exact whole fun k=>hn k (fe _)
  ·rw[StrLaws.partsBetween_eq];exact KC hl _ 0 f hG hn
theorem WL{ps:List Str}(hne:ps≠[])(hf:∀p∈ps,59∉p.cps.toList):cN (cM ⟨#[59,32]⟩ ps) ⟨#[59,32]⟩=ps:=
 B2 (y:=⟨#[59,32]⟩) (c:=59) (t:=[32]) rfl (qR _ _) hne (VO (Gm hf)) hf (FZ _ _)
theorem si{n:Int}(h0:0≤n):(aJ n).cps.toList=(rG 10 n.toNat).map N7:=by
 obtain⟨m,rfl⟩:=kJ h0;exact ad8 m
theorem rd{n:Int}(h0:0≤n):∀c∈(aJ n).cps.toList,48≤c∧c≤57:=by
 intro c hc;rw[si h0]at hc;obtain⟨ch,hch,e⟩:=gP.mp hc;have r:=Nat.isDigit_of_mem_toDigits (b:=10) (by decide) (by decide) hch;rw[Char.isDigit,gb,decide_eq_true_eq,decide_eq_true_eq]at r;rw[←e];exact⟨r.1,r.2⟩
theorem DB{n:Int}(h0:0≤n):0<(aJ n).cps.toList.length:=by
 rw[si h0,bo];exact Nat.length_toDigits_pos
theorem mq{n:Int}(h0:0≤n)(hl:(aJ n).length≤4300):intText? (aJ n)=some n:=by
 obtain⟨m,rfl⟩:=kJ h0;have e:=PySem.intText_digits (x:=aJ (m:Int)) (fun c hc=>rd (n:=(m:Int)) (by omega) c hc) (fun z=>by have:=DB (n:=(m:Int)) (by omega);rw[z]at this;simp at this) hl;rw[si (by omega),mZ,ad9]at e;exact e
theorem VI:∀(m:Nat),0<m→∃d r,rG 10 m=d::r∧d≠'0':=by
 intro m
 induction m using O5 with
 |_ m ih=>
  intro h;by_cases hm:m<10
  ·rw[FI hm];refine⟨_,[],rfl,?_⟩;have:∀k:Fin 10,0<k.val→vq k.val≠'0':=by decide
   exact this ⟨m,hm⟩ h
  ·have t:rG 10 (m/10)++rG 10 (m%10)=rG 10 (10*(m/10)+m%10):=O8 (by decide) (by omega) (by omega);rw[Nat.div_add_mod]at t;obtain⟨d,r,e,hd⟩:=ih (m/10) (by omega) (by omega);rw[←t,e];exact⟨d,r++_,rfl,hd⟩
theorem oJ{n:Nat}(h:n≤16000000):n≤sizeLine:=by
 rw[vP];omega
theorem gK{n:Int}(h0:0≤n)(h1:n<10^60):(aJ n).length≤60:=by
 unfold aJ;exact FK h0 (by decide) h1
theorem aag{n:Int}(h0:0≤n):((aJ n).cps.all (· < 128))=true:=by
 rw[←kE,gf];intro c hc;have:=rd h0 c hc;exact decide_eq_true (by omega)
theorem uv{n:Int}(h0:0≤n):¬aJ n="":=fun z=>by
 have:=DB h0;rw[z]at this;exact absurd this (by k_go)
theorem Ls{n:Int}(h0:0<n):kM (aJ n) "0" = false:=by
 obtain⟨m,rfl⟩:=kJ (show 0≤n by omega);obtain⟨d,r,e,hd⟩:=VI m (by omega);unfold kM;rw[rO,si (by omega),mZ,e];have l0:("0" : Str).length=1:=by k_go
 have e0:("0" : Str).cps.toList=[48]:=by k_go
 rw[l0,e0];have:¬d.toNat=48:=fun z=>hd (Char.toNat_inj.mp (z.trans (by decide)));simp[this]
theorem DF:aJ 0="0":=by k_go
theorem GJ{z:Str}(h:z.cps.toList.head?=some 48):kM z "0" = true:=by
 unfold kM;rw[rO];have l0:("0" : Str).length=1:=by k_go
 have e0:("0" : Str).cps.toList=[48]:=by k_go
 rw[l0,e0];obtain⟨⟨l⟩⟩:=z;cases l with
 |nil=>cases h
 |cons c r=>
  obtain rfl:c=48:=cP h;simp;show 1≤(pI (48::r)).size;simp
def pq(z:Str):Prop:=∃n:Int,0≤n∧n<10^60∧z=aJ n
theorem L6:∀(n:Nat) (l:List Nat),l.length=n+1→(∀c∈l,48≤c∧c≤57)→(l.head?=some 48→n=0)→∃m:Nat,(rG 10 m).map N7=l
 | 0,l,hl,hr,_=>by
  obtain⟨d,rfl⟩:=OC.mp hl;have hd:=hr d (.head _);refine⟨d-48,?_⟩;rw[FI (by omega)];have:∀k:Fin 10,(vq k.val).toNat=k.val+48:=by decide
  have h:=this ⟨d-48,by omega⟩;show[(vq (d-48)).toNat]=[d];rw[h];show[d-48+48]=[d]
  congr 1
  omega
 |n+1,l,hl,hr,hh=>by
  obtain⟨l',d,rfl⟩:∃l' d,l=l'++[d]:=by
   rcases Fv l with z|⟨l',d,z⟩
   ·rw[z]at hl;simp at hl
   ·exact⟨l',d,by rw[z,Fq]⟩
  have hl':l'.length=n+1:=by
   rw[dm]at hl;simp at hl;omega
  obtain⟨c,r,rfl⟩:=List.exists_cons_of_length_eq_add_one hl';have hc:c≠48:=fun z=>by
   have:=hh (by rw[z];rfl);omega
  obtain⟨m,e⟩:=L6 n (c::r) hl' (fun x hx=>hr x (lV _ hx)) (fun z=>absurd (cP z) hc);have hd:=hr d (bZ _ (.head _));have hm:0<m:=Nat.pos_of_ne_zero fun z=>by
   rw[z,Nat.toDigits_zero]at e;exact hc (List.head_eq_of_cons_eq e).symm
  refine⟨10*m+(d-48),?_⟩;rw[←O8 (by decide) hm (by omega),m8,e,FI (by omega)];have:∀k:Fin 10,(vq k.val).toNat=k.val+48:=by decide
  have h:=this ⟨d-48,by omega⟩;show _++[(vq (d-48)).toNat]=_++[d];rw[h];show _++[d-48+48]=_++[d]
  congr 2
  omega
theorem En(z:Str):z.length=z.cps.toList.length:=by
 show z.cps.size=_;rw[jM]
theorem Ku{z:Str}(h0:¬z="")(hl:z.length≤60)(hf:∀c∈z.cps.toList,48≤c∧c≤57)(hz:kM z "0" = true→z="0"):pq z:=by
 have hne:z.cps.toList≠[]:=fun e=>h0 (iV (by rw[e];decide +kernel));obtain⟨k,hk⟩:=Nat.exists_eq_succ_of_ne_zero (fun e=>hne (Af.mp e));obtain⟨m,e⟩:=L6 k z.cps.toList hk hf fun e=>by
  have:=hz (GJ e);rw[this]at hk;have l0:("0" : Str).cps.toList.length=1:=by k_go
  omega
 have hm:m<10^60:=by
  rw[En,←e,bo]at hl;exact(Nat.length_toDigits_le_iff (by decide) (by decide)).mp hl
 refine⟨(m:Int),by omega,by omega,iV ?_⟩;rw[si (by omega),mZ,e]
def qQ(c:Nat):Bool:=decide (48≤c∧c≤57)
theorem MI(c:Nat):(!(Fb "0123456789" (mC c) 0 ("0123456789" : Str).length 1).isEmpty)=qQ c:=by
 have e:=StrLaws.found_one "0123456789" c;refine e.trans ?_;have e2:("0123456789" : Str).cps.toList=[48,49,50,51,52,53,54,55,56,57]:=by k_go
 rw[e2];unfold qQ;refine decide_eq_decide.mpr ⟨fun h=>?_,fun h=>?_⟩
 ·simp at h;omega
 ·obtain rfl|rfl|rfl|rfl|rfl|rfl|rfl|rfl|rfl|rfl:c=48∨c=49∨c=50∨c=51∨c=52∨c=53∨c=54∨c=55∨c=56∨c=57:=by omega
  all_goals decide
def yP(v:V):V:=match v with | .str x=>.bl (!(Fb "0123456789" x 0 ("0123456789" : Str).length 1).isEmpty)|_=>.bl false
theorem Nu{z:Str}(h:pq z):(z.cps.toList.map qQ).all id=true:=by
 obtain⟨n,h0,_,rfl⟩:=h;rw[z3,gf];intro c hc;exact decide_eq_true (rd h0 c hc)
def WU(CN:Addr):Sp:=fun vs H Q E=>∃z:Str,vs=[.str z]∧(z.cps.all (· < 128))=true∧z.length≤900100∧(∀n:Int,0≤n→n<10^60→z=aJ n→∀H',ah H H'→Q (.int n) H')∧(¬pq z→∀H',ah H H'→E (.ref CN) none H')
theorem yq(T:Tx w K mg):aM P w K mg base (aC P w) 1 T.f_read_number T.d_read_number ["text"] (WU T.C_NoText):=by
 refine T.iP.F.okE aa9 ?_ ?_;kj_on
 ·obtain⟨z,rfl,_⟩:=h;rfl
 obtain⟨z,rfl,ha,hl,q,q'⟩:=h;refine⟨_,(ao (aQ (PW.pt (fg (aO br (pv 0) ai (aD _)) (fW (aO oq (bP qw rfl T.dJ dF (ae (pv 0) af)) (dC (v:=.int 60) rfl T.YW T.RJ) (aD _))))) (ap (gv T.hZ rfl T.lF (ae ai af))) aS)
  (ao (aQ (fk (cy (bP (NB (K:=K) rfl rfl) rfl T.Gx Lq (ae (qu (oN:=["text"]) (osc:=aB xE) (x:="sign") (fr:=[]) (ix:=[]) (by refine⟨rfl,?_,?_,rfl,?_,?_,rfl,?_,?_⟩<;>decide +kernel) rfl rfl rfl (NO (pv 0)) (fun _ _ _ _ _=>qm) (fun _ _ _ _ _=>(eg HK (pv 0) (dC (v:=.str "0123456789") rfl T.Tv T.acD) (by with_unfolding_all rfl)))) af)))) (ap (gv T.hZ rfl T.lF (ae ai af))) aS)
  (ao (aQ (PW.pt (lD (cy (c8 jS PySem.F.slot_str_startswith PySem.F.type_str_startswith VD (pv 0) (ae ai af))) (kQ (aO lG (pv 0) ai (aD _))))) (ap (gv T.hZ rfl T.lF (ae ai af))) aS)
  (ap (az (gj wL rfl T.tE uL (ae (pv 0) af))))))),?_⟩
 got_up;by_cases h0:z=""
 ·refine cW (decide_eq_true h0) ?_;ke_read;subst h0;refine q' (fun⟨n,n0,_,e⟩=>uv n0 e.symm) H (fun _ _ y=>y)
 refine dX (decide_eq_false h0) ?_;ke_read;by_cases h6:¬z.length≤60
 ·have h7:(z.length:Int)>60:=by omega
  refine⟨z,rfl,oJ (by omega),?_⟩;ke_read;exact q' (fun⟨n,n0,n1,e⟩=>h6 (by rw[e];exact gK n0 n1)) H (fun _ _ y=>y)
 replace h6:z.length≤60:=by omega
 have h7:¬(z.length:Int)>60:=by omega
 refine⟨z,rfl,oJ (by omega),?_⟩;ke_read;refine IU ?_;ke_read;refine⟨z,rfl,ha,?_⟩;refine Lx (fun _=>true) yP (mw (by omega)) ?_ ?_ ?_
 ·intro z hz H1 s1 Q' hQ;ke_read
  first|done|exact hQ
 ·intro z hz _ H1 s1 Q' hQ;obtain⟨c,hc,rfl⟩:=gP.mp hz;ke_read;all_goals exact hQ
 intro l H1 s1 f1 a1;have e1:((z.cps.toList.map fun c=>V.str (mC c)).filter fun _=>true).map yP=(z.cps.toList.map qQ).map V.bl:=by
  rw[vn.mpr fun _ _=>rfl,jo,jo];refine Ai fun c _=>?_;show V.bl _=V.bl _;rw[MI]
 rw[e1]at a1;ke_read;refine⟨l,_,rfl,ay.of a1,?_⟩;cases hb:(z.cps.toList.map qQ).all id with
 |false=>
  ke_read;refine q' (fun hn=>?_) H1 s1;rw[Nu hn]at hb;cases hb
 |true=>
  ke_read;refine⟨rfl,?_⟩;ke_read;refine⟨z,"0",rfl,rfl,?_⟩;have hf:∀c∈z.cps.toList,48≤c∧c≤57:=fun c hc=>by
   rw[z3,gf]at hb;exact of_decide_eq_true (hb c hc)
  cases hs:kM z "0" with
  |false=>
   obtain⟨n,n0,n1,rfl⟩:=Ku h0 h6 hf (fun w=>by rw[hs]at w;cases w);ke_read;refine⟨aJ n,n,rfl,mq n0 (by omega),by omega,?_⟩;exact q n n0 n1 rfl H1 s1
  |true=>
   by_cases hz:z="0"
   ·subst hz;ke_read;refine⟨"0",0,rfl,by k_go,by k_go,?_⟩;exact q 0 (by decide) (by decide) DF.symm H1 s1
   ·ke_read;refine q' (fun⟨n,n0,n1,e⟩=>?_) H1 s1;by_cases hn:n=0
    ·rw[hn,DF]at e;exact hz e
    ·rw[e,Ls (by omega)]at hs;cases hs
def Wm(z:Str):Prop:=∃n:Int,0≤n∧n≤200∧z=aJ n
def SY(CN:Addr):Sp:=fun vs H Q E=>∃z:Str,vs=[.str z]∧(z.cps.all (· < 128))=true∧z.length≤900100∧(∀n:Int,0≤n→n≤200→z=aJ n→∀H',ah H H'→Q (.int n) H')∧(¬Wm z→∀H',ah H H'→E (.ref CN) none H')
theorem NU(T:Tx w K mg):aM P w K mg base (aC P w) 2 T.f_read_bits T.d_read_bits ["text"] (SY T.C_NoText):=by
 refine T.oR.F.okE LC ?_ ?_;kj_on
 ·obtain⟨z,rfl,_⟩:=h;rfl
 obtain⟨z,rfl,ha,hl,q,q'⟩:=h;refine⟨_,(ao (aW (i:=1) LC.nd rfl (by z_go) (ip (yq T) (hr.mono (by decide)) rfl T.iP.m T.iP.F.kp T.iP.b .nil ji (ae (pv 0) af)))
  (ao (aQ (aO oq (pv 1) (dC (v:=.int 200) rfl T.YC T.Rh) (aD _)) (ap (gv T.hZ rfl T.lF (ae ai af))) aS)
  (ap (az (pv 1))))),?_⟩
 got_up;refine⟨z,rfl,ha,hl,fun n n0 n1 e H1 s1=>?_,fun hn H1 s1=>q' (fun⟨n,n0,n1,e⟩=>hn ⟨n,n0,by omega,e⟩) H1 s1⟩;by_cases h2:n>200
 ·ke_read;refine q' (fun⟨m,m0,m1,e'⟩=>?_) H1 s1;have a:=mq n0 (by have:=gK n0 n1;omega);have b:=mq m0 (by have:=gK m0 (show m<10^60 by omega);omega);rw[←e,e',b]at a;have:=cP a;omega
 ·ke_read;exact q n n0 (by omega) e H1 s1
inductive Hd|hush|word(n:Int)|din
 deriving DecidableEq
def dD:Hd→List V
 |.hush=>[.str "hush"]
 |.word n=>[.str "word",.int n]
 |.din=>[.str "din"]
def jd:List Int→Hd
 |[]=>.hush
 |[n]=>.word n
 |_::_::_=>.din
def aV(p:Int→Bool)(hs:List Int):Hd:=jd (hs.filter p)
theorem qv:∀d:Hd,(dD d).all gn=true
 |.hush=>by k_go
 |.word n=>by
  show(gn (.str "word")&&(gn (.int n)&&true))=true;rw[show gn (.str "word")=true by k_go];rfl
 |.din=>by k_go
theorem Bv{d e:Hd}:dD d=dD e↔d=e:=by
 refine⟨fun h=>?_,fun h=>by rw[h]⟩;have n1:¬(("hush" : Str)="din"):=by k_go
 have n2:¬(("din" : Str)="hush"):=by k_go
 cases d<;>cases e<;>simp[dD,n1,n2]at h⊢;exact h
theorem G7(p:Int→Bool)(hs:List Int):(hs.map V.int).filter (AU p)=(hs.filter p).map V.int:=by
 induction hs with
 |nil=>rfl
 |cons a r ih=>
  rw[eD,gN,gN,ih];show(if p a=true then _ else _)=_;split<;>rfl
def abZ(K:aq)(C CO:Addr):Sp:=fun vs H Q _=>∃(l b:Addr) (hs:List Int) (s:Sn),vs=[.ref l,.ref b]∧ay K H l (hs.map V.int)∧hs.length≤900∧bg C CO H b s∧
 ∀(r:Addr) (H':Hp),ah H H'→H r=none→H' r=some (.tup (dD (aV (am s) hs)))→Q (.ref r) H'
theorem CW(T:Tx w K mg):aM P w K mg base ba 2 T.f_heard T.d_heard ["hands","span"] (abZ K T.C_Half T.C_Open):=by
 refine T.j8.F.ok Nt ?_ ?_;kj_on
 ·obtain⟨l,b,hs,s,rfl,_⟩:=h;rfl
 obtain⟨l,b,hs,sn,rfl,hS,hl,hA,q⟩:=h;refine⟨_,(ao (K9 (i:=2) (oN:=["hands","span","shouting"]) (osc:=aB vX) (x:="hand") (fr:=["span"]) (ix:=[1]) (by refine⟨rfl,?_,?_,rfl,?_,?_,rfl,?_,?_⟩<;>decide +kernel) rfl rfl rfl Nt.nd rfl rfl rfl (kc (K:=K) rfl (pv 0)) (fun _ _ _ _ _=>(ss (cy (uc (P:=P) (w:=w) (K:=K) (mg:=mg) (base:=base) (k:=1) (CX:=ba) (E:=E0) rfl rfl rfl rfl rfl (pv 1) (hr.mono (by decide)) aT (ae (pv 0) af))))) (fun _ _ _ _ _=>(pv 0)))
  (ao (aQ (aO br (bP (fS (K:=K) rfl) rfl T.dJ dF (ae (pv 2) af)) aj (aD _)) (ap (az (cK (ae ai af)))) aS)
  (ao (aQ (aO br (bP (fS (K:=K) rfl) rfl T.dJ dF (ae (pv 2) af)) aj (aD _)) (ap (az (cK (ae ai (ae (aI (ck (K:=K) rfl) (pv 2) aj (fun _ _=>rfl)) af))))) aS)
  (ap (az (cK (ae ai af))))))),?_⟩
 got_up;refine Cr (AU (am sn)) (fun z=>z) hS (by rw[bo];exact mw (by omega)) ?_ ?_ ?_
 ·intro z hz H1 s1 Q' hQ;obtain⟨n,_,rfl⟩:=gP.mp hz;ke_read
  first|done|exact hQ
 ·intro z hz _ H1 s1 Q' hQ;ke_read
  first|done|exact hQ
 intro r H1 s1 f1 hr1;rw[OK,G7]at hr1;have dO:((hs.filter (am sn)).map V.int).length≤900:=by
  rw[bo];exact cB (kK _ _) hl
 generalize hf:hs.filter (am sn)=fs at hr1 dO;have hh:aV (am sn) hs=jd fs:=by unfold aV;rw[hf]
 rcases fs with _|⟨x,_|⟨y,bO⟩⟩
 ·replace hr1:H1 r=some (.lst []):=hr1;ke_read;rintro p2 H2 ⟨f2,a2,s2,-⟩;ke_read;exact q p2 H2 (by ke_reads) (s1.free f2) (by rw[hh];exact a2)
 ·replace hr1:H1 r=some (.lst [.int x]):=hr1;ke_read;rintro p2 H2 ⟨f2,a2,s2,-⟩;ke_read;exact q p2 H2 (by ke_reads) (s1.free f2) (by rw[hh];exact a2)
 ·have e1:¬((((x::y::bO).map V.int).length:Int)=0):=by rw[bo,bI];omega
  have e2:¬((((x::y::bO).map V.int).length:Int)=1):=by rw[bo,bI,bI];omega
  ke_read;rintro p2 H2 ⟨f2,a2,s2,-⟩;ke_read;exact q p2 H2 (by ke_reads) (s1.free f2) (by rw[hh];exact a2)
def bN(H H':Hp):Prop:=∀b o,(∀ys,o≠HO.lst ys)→H b=some o→H' b=some o
theorem bN.of{H H':Hp}(s:ah H H'):bN H H':=fun b o _ h=>s b o h
theorem bN.trans{H H1 H2:Hp}(s:bN H H1)(t:bN H1 H2):bN H H2:=fun b o n h=>t b o n (s b o n h)
theorem bN.put{H H':Hp}{l:Addr}{ys:List V}{o:HO}(hl:H l=some (.lst ys))(p:cT H l o H'):bN H H':=fun b u n h=>by
 rw[p.else_ b (fun z=>by rw[z,hl]at h;injection h with h;exact n ys h.symm)];exact h
theorem bg.nl{C CO a:Addr}{H H':Hp}(k:bN H H'):∀{s:Sn},bg C CO H a s→bg C CO H' a s
 |.half _ _,h=>⟨let⟨dx,e⟩:=bx.ob h;⟨dx,k _ _ (by intro ys z;cases z) e⟩,bx.b0 h,bx.b1 h,bx.lo h,bx.big h,bx.mul h⟩
 |.opn _,h=>⟨let⟨dx,e⟩:=bX.ob h;⟨dx,k _ _ (by intro ys z;cases z) e⟩,bX.lo h,bX.big h,bX.pow h⟩
def gq(C CO:Addr)(H:Hp)(x:V)(s:Sn)(d:Hd):Prop:=∃r b h,x=.ref r∧H r=some (.tup [.ref b,.ref h])∧bg C CO H b s∧H h=some (.tup (dD d))
theorem gq.nl{C CO:Addr}{H H':Hp}{x:V}{s:Sn}{d:Hd}(k:bN H H'):gq C CO H x s d→gq C CO H' x s d:=by
 rintro⟨r,b,h,e,h1,h2,h3⟩;exact⟨r,b,h,e,k _ _ (by intro ys z;cases z) h1,h2.nl k,k _ _ (by intro ys z;cases z) h3⟩
inductive bJ(C CO:Addr)(H:Hp):List V→List (Sn×Hd)→Prop
 |nil:bJ C CO H [] []
 |cons {x:V} {s:Sn} {d:Hd} {xs:List V} {rs:List (Sn×Hd)} (h:gq C CO H x s d) (t:bJ C CO H xs rs):bJ C CO H (x::xs) ((s,d)::rs)
theorem bJ.nl{C CO:Addr}{H H':Hp}(k:bN H H'){xs:List V}{rs:List (Sn×Hd)}(h:bJ C CO H xs rs):bJ C CO H' xs rs:=by
 induction h with
 |nil=>exact .nil
 |cons a _ ih=>exact .cons (a.nl k) ih
theorem bJ.snoc{C CO:Addr}{H:Hp}{xs:List V}{rs:List (Sn×Hd)}{x:V}{s:Sn}{d:Hd}(h:bJ C CO H xs rs)(r:gq C CO H x s d):bJ C CO H (xs++[x]) (rs++[(s,d)]):=by
 induction h with
 |nil=>exact .cons r .nil
 |cons a _ ih=>exact .cons a ih
theorem bJ.len{C CO:Addr}{H:Hp}{xs:List V}{rs:List (Sn×Hd)}(h:bJ C CO H xs rs):xs.length=rs.length:=by
 induction h with
 |nil=>rfl
 |cons a _ ih=>rw[bI,bI,ih]
theorem bJ.get{C CO:Addr}{H:Hp}{xs:List V}{rs:List (Sn×Hd)}(h:bJ C CO H xs rs):∀{i:Nat} {x:V},xs[i]?=some x→∃s d,rs[i]?=some (s,d)∧gq C CO H x s d:=by
 induction h with
 |nil=>intro i x e;simp at e
 |cons a _ ih=>
  intro i x e;cases i with
  |zero=>simp at e;subst e;exact⟨_,_,rfl,a⟩
  |succ i=>exact ih (by simpa using e)
def gL:Hd→Str
 |.hush=>"hush"
 |.word n=>aJ n
 |.din=>"din"
def fK(r:Sn×Hd):Str:=ii r.1++(" " : Str)++gL r.2
def yM:List (Sn×Hd)→Str
 |[]=>"silence"
 |r::t=>cM "; " ((r::t).map fK)
def BK:Sn→Prop
 |.half low b=>0≤b∧b≤200∧0≤low∧low<10^60∧low%pw b=0
 |.opn low=>0≤low∧low<10^60∧nP low
def BH:Hd→Prop
 |.word n=>0≤n∧n<10^60
 |_=>True
theorem tP:("+" : Str)=⟨#[43]⟩:=by k_go
theorem jH:(" " : Str)=⟨#[32]⟩:=by k_go
theorem QK:("; " : Str)=⟨#[59,32]⟩:=by k_go
theorem pE{n:Int}(h0:0≤n){c:Nat}(hc:c<48∨57<c):c∉(aJ n).cps.toList:=fun z=>by
 have:=rd h0 c z;omega
theorem uW{x y:Str}{c:Nat}(hx:c∉x.cps.toList)(hy:c∉y.cps.toList):c∉(x++y).cps.toList:=fun z=>by
 rw[gB,gM]at z;rcases jQ.mp z with z|z
 ·exact hx z
 ·exact hy z
theorem GY{c:Nat}(h:c≠43):c∉("+" : Str).cps.toList:=fun z=>by
 rw[tP]at z;have:c∈[43]:=z;simp at this;exact h this
theorem Kx{s:Sn}(hb:BK s){c:Nat}(hc:c<48∨57<c)(h43:c≠43):c∉(ii s).cps.toList:=by
 cases s with
 |half low b=>exact uW (uW (pE hb.2.2.1 hc) (GY h43)) (pE hb.1 hc)
 |opn low=>exact uW (pE hb.1 hc) (GY h43)
theorem Hg{d:Hd}(hb:BH d){c:Nat}(hc:c=32∨c=59):c∉(gL d).cps.toList:=by
 cases d with
 |word n=>exact pE hb.1 (by omega)
 |hush=>
  have e:(gL .hush).cps.toList=[104,117,115,104]:=by k_go
  rw[e];rcases hc with rfl|rfl<;>decide
 |din=>
  have e:(gL .din).cps.toList=[100,105,110]:=by k_go
  rw[e];rcases hc with rfl|rfl<;>decide
theorem ab3{r:Sn×Hd}(hs:BK r.1)(hd:BH r.2):59∉(fK r).cps.toList:=by
 refine uW (uW (Kx hs (by decide) (by decide)) ?_) (Hg hd (.inr rfl));rw[jH]
 decide
theorem Rw{r:Sn×Hd}(hs:BK r.1)(hd:BH r.2):cN (fK r) " " = [ii r.1,gL r.2]:=by
 have e:fK r=cM ⟨#[32]⟩ [ii r.1,gL r.2]:=by
  unfold fK;rw[jH];rfl
 rw[e,jH];refine rX (fun z=>nomatch z) fun p hp=>?_;rcases bu.mp hp with rfl|hp
 ·exact Kx hs (by decide) (by decide)
 ·rw[dS]at hp;subst hp;exact Hg hd (.inl rfl)
theorem XA{low b:Int}(h0:0≤low)(b0:0≤b):cN (t9 low b) "+" = [aJ low,aJ b]:=by
 have e:t9 low b=cM ⟨#[43]⟩ [aJ low,aJ b]:=by
  unfold t9;rw[tP];rfl
 rw[e,tP];refine rX (fun z=>nomatch z) fun p hp=>?_;rcases bu.mp hp with rfl|hp
 ·exact pE h0 (by decide)
 ·rw[dS]at hp;subst hp;exact pE b0 (by decide)
theorem UG{low:Int}(h0:0≤low):cN (uj low) "+" = [aJ low,""]:=by
 have e:uj low=cM ⟨#[43]⟩ [aJ low,""]:=by
  unfold uj;rw[tP];show _=aJ low++⟨#[43]⟩++"";refine iV ?_;have e0:("" : Str).cps.toList=[]:=by k_go
  rw[gB (aJ low++⟨#[43]⟩),gM,e0,gg]
 rw[e,tP];refine rX (fun z=>nomatch z) fun p hp=>?_;rcases bu.mp hp with rfl|hp
 ·exact pE h0 (by decide)
 ·rw[dS]at hp;subst hp
  decide
theorem MJ{r:Sn×Hd}{t:List (Sn×Hd)}(hs:∀x∈r::t,BK x.1∧BH x.2):cN (yM (r::t)) "; " = (r::t).map fK:=by
 show cN (cM "; " ((r::t).map fK)) "; " = _;rw[QK];refine WL (fun z=>nomatch z) fun p hp=>?_;obtain⟨x,hx,rfl⟩:=gP.mp hp;exact ab3 (hs x hx).1 (hs x hx).2
theorem Ma{d:Hd}(hb:BH d):(gL d).length≤60:=by
 cases d with
 |hush=>decide +kernel
 |din=>decide +kernel
 |word n=>exact gK hb.1 hb.2
theorem oQ{x y:Str}(h:((x++y).cps.all (· < 128))=true):(x.cps.all (· < 128))=true∧(y.cps.all (· < 128))=true:=by
 rw[←kE,gB,gM,Ot,gb,kE,kE]at h;exact h
theorem t7{z y:Str}{ps:List Str}(e:cM y ps=z)(h:(z.cps.all (· < 128))=true):∀p∈ps,(p.cps.all (· < 128))=true∧p.length≤z.length:=by
 subst e
 induction ps with
 |nil=>intro p hp;cases hp
 |cons a t ih=>
  cases t with
  |nil=>
   intro p hp;rw[dS.mp hp];exact⟨h,bv _⟩
  |cons b r=>
   have e:cM y (a::b::r)=a++y++cM y (b::r):=rfl;rw[e]at h⊢;obtain⟨h1,h2⟩:=oQ h;intro p hp;rw[cO,cO];rcases bu.mp hp with rfl|hp
   ·exact⟨(oQ h1).1,by omega⟩
   ·obtain⟨k1,k2⟩:=ih h2 p hp;exact⟨k1,by omega⟩
theorem oU(z y:Str):cM y (cN z y)=z:=FZ _ _
def Je(z:Str)(d:Hd):Prop:=BH d∧z=gL d
def R1(CN:Addr):Sp:=fun vs H Q E=>∃z:Str,vs=[.str z]∧(z.cps.all (· < 128))=true∧z.length≤900100∧(∀d:Hd,Je z d→∀(r:Addr) (H':Hp),ah H H'→H' r=some (.tup (dD d))→Q (.ref r) H')∧((¬∃d,Je z d)→∀H',ah H H'→E (.ref CN) none H')
theorem VH(T:Tx w K mg):aM P w K mg base (aC P w) 2 T.f_read_answer T.d_read_answer ["text"] (R1 T.C_NoText):=by
 refine T.yB.F.okE Xp ?_ ?_;kj_on
 ·obtain⟨z,rfl,_⟩:=h;rfl
 obtain⟨z,rfl,ha,hl,q,q'⟩:=h;refine⟨_,(ao (aQ (PW.pt (fg (aO br (pv 0) ai (aD _)) (fW (aO br (pv 0) ai (aD _))))) (ap (az (cK (ae (pv 0) af)))) aS)
  (ap (az (cK (ae ai (ae (ip (yq T) (hr.mono (by decide)) rfl T.iP.m T.iP.F.kp T.iP.b .nil ji (ae (pv 0) af)) af)))))),?_⟩
 got_up;by_cases h1:z="hush"
 ·refine cW (decide_eq_true h1) ?_;ke_read;rintro p1 H1 ⟨f1,a1,s1,-⟩;ke_read;subst h1;exact q .hush ⟨trivial,rfl⟩ p1 H1 s1 a1
 refine dX (decide_eq_false h1) ?_;by_cases h2:z="din"
 ·subst h2;ke_read;rintro p1 H1 ⟨f1,a1,s1,-⟩;ke_read;exact q .din ⟨trivial,rfl⟩ p1 H1 s1 a1
 ke_read;refine⟨z,rfl,ha,hl,fun n n0 n1 e H1 s1=>?_,fun hn H1 s1=>q' (fun⟨d,bd,e⟩=>?_) H1 s1⟩
 ·ke_read;rintro p2 H2 ⟨f2,a2,s2,-⟩;ke_read;exact q (.word n) ⟨⟨n0,n1⟩,e⟩ p2 H2 (s1.trans s2) a2
 ·cases d with
  |hush=>exact h1 e
  |din=>exact h2 e
  |word n=>exact hn ⟨n,bd.1,bd.2,e⟩
def tK(z:Str)(s:Sn):Prop:=BK s∧z=ii s
theorem QF(u v:Str):cM "+" [u,v]=u++("+" : Str)++v:=rfl
theorem Vl{z:Str}{s:Sn}(h:tK z s):∃v,cN z "+" = [aJ (mD s),v]∧((∃low,s=.opn low∧v="")∨∃low b,s=.half low b∧v=aJ b):=by
 obtain⟨hb,rfl⟩:=h;cases s with
 |half low b=>exact⟨aJ b,XA hb.2.2.1 hb.1,.inr ⟨low,b,rfl,rfl⟩⟩
 |opn low=>exact⟨"",UG hb.1,.inl ⟨low,rfl,rfl⟩⟩
theorem rq{n m:Int}(n0:0≤n)(n1:n<10^60)(m0:0≤m)(m1:m<10^60)(e:aJ n=aJ m):n=m:=by
 have a:=mq n0 (by have:=gK n0 n1;omega);have b:=mq m0 (by have:=gK m0 m1;omega);rw[e,b]at a;exact(cP a).symm
theorem XF(x:Str):x++("+" : Str)++("" : Str)=x++("+" : Str):=by
 refine iV ?_;have e0:("" : Str).cps.toList=[]:=by k_go
 rw[gB (x++("+" : Str)),gM,e0,gg]
def Xk(C CO CN:Addr):Sp:=fun vs H Q E=>∃z:Str,vs=[.str z]∧(z.cps.all (· < 128))=true∧z.length≤900100∧(∀s:Sn,tK z s→∀(b:Addr) (H':Hp),ah H H'→bg C CO H' b s→Q (.ref b) H')∧((¬∃s,tK z s)→∀k H',ah H H'→E (.ref CN) k H')
theorem Tb(T:Tx w K mg):aM P w K mg base (aC P w) 5 T.f_read_span T.d_read_span ["text"] (Xk T.C_Half T.C_Open T.C_NoText):=by
 refine T.zg.F.okE yV ?_ ?_;kj_on
 ·obtain⟨z,rfl,_⟩:=h;rfl
 obtain⟨z,rfl,ha,hl,q,q'⟩:=h;have jb:=oU z "+";have al:=t7 jb ha;have two:∀s,tK z s→∃v,cN z "+" = [aJ (mD s),v]∧((∃low,s=.opn low∧v="")∨∃low b,s=.half low b∧v=aJ b):=fun s=>Vl;refine⟨_,(ao (aW (i:=1) yV.nd rfl (by z_go) (c8 jS lT rM qZ (pv 0) (ae ai af)))
  (ao (aQ (aO lG (bP (fS (K:=K) rfl) rfl T.dJ dF (ae (pv 1) af)) aj (aD _)) (ap (gv T.hZ rfl T.lF (ae ai af))) aS)
  (ao (aW (i:=2) yV.nd rfl (by z_go) (ip (yq T) (hr.mono (by decide)) rfl T.iP.m T.iP.F.kp T.iP.b .nil ji (ae (aI (ck (K:=K) rfl) (pv 1) aj (fun _ _=>rfl)) af)))
  (ap (EN (P:=P) (w:=w) rfl rfl rfl ⟨rfl,rfl⟩ (fun G pn xe hp=>(ap (az (xx (aO br (aI (ck (K:=K) rfl) (pv 1) aj (fun _ _=>rfl)) ai (aD _)) (IR (GD T) T.yj (yC T) (hr.mono (by decide)) rfl T.tX T.uG.b hp (ae (pv 2) af)) (IR (Ju T) T.rm (qq T) (hr.mono (by decide)) rfl T.lP T.pz.b hp (ae (pv 2) (ae (ip (NU T) (hr.mono (by decide)) rfl T.oR.m T.oR.F.kp T.oR.b .nil hp (ae (aI (ck (K:=K) rfl) (pv 1) aj (fun _ _=>rfl)) af)) af)))))))
  (Jq (fun e=>(dC (v:=.ref T.C_NoSpan) rfl T.xf rfl)) (JL (i:=3) yV.nd rfl rfl T.hZ rfl T.lF (fun e=>(ae ai af))) LK)))))),?_⟩
 got_up;refine⟨rfl,?_⟩;ke_read;refine⟨z,"+",rfl,rfl,by k_go,by omega,fun p1 H1 nw1=>?_⟩;obtain⟨f1,a1,s1,-⟩:=nw1;generalize cN z "+" = ps at jb al two a1;have len:ps.length=2∨¬ps.length=2:=N9 _;rcases len with h2|h2
 ·obtain⟨u,v,rfl⟩:∃u v,ps=[u,v]:=by
   cases ps with
   |nil=>simp at h2
   |cons u t=>
    cases t with
    |nil=>simp at h2
    |cons v r=>
     cases r with
     |nil=>exact⟨u,v,rfl⟩
     |cons=>simp at h2
  rw[QF]at jb;obtain⟨ua,ul⟩:=al u (.head _);obtain⟨va,vl⟩:=al v (.tail _ (.head _));replace a1:H1 p1=some (.lst [.str u,.str v]):=a1;have bad:∀{H':Hp} {k:Option Addr},ah H H'→(∀s,tK z s→u=aJ (mD s)→(∃low,s=.opn low∧v="")∨(∃low b,s=.half low b∧v=aJ b)→False)→E (.ref T.C_NoText) k H':=fun{H' k} sm no=>q' (fun⟨s,hs⟩=>by
   obtain⟨v',e,w'⟩:=two s hs;injection e with e1 e2;injection e2 with e2 _;subst e2;exact no s hs e1 w') k H' sm
  ke_read;refine⟨u,rfl,ua,by omega,fun n n0 n1 e H2 s2=>?_,fun hn H2 s2=>bad (s1.trans s2) fun s hs e _=>hn ⟨mD s,?_,?_,e⟩⟩
  ·have a12:=s2 _ _ a1;ke_read;refine yu ?_;ke_read;by_cases hv:v=""
   ·refine cW (decide_eq_true hv) ?_;ke_read;cases ho:jk n with
    |true=>
     refine .inl ⟨n,rfl,n0,by omega,(wG.mp ho).2,fun a4 H4 s4 f4 hA4=>?_⟩;ke_read;exact q (.opn n) ⟨⟨n0,n1,(wG.mp ho).2⟩,by rw[←jb,hv,e];exact(XF _).symm⟩ a4 H4 (s1.trans (s2.trans s4)) hA4
    |false=>
     refine .inr ⟨n,rfl,ho,fun H4 s4=>?_⟩;refine lI ?_;ke_read;refine gr T.LX ?_;refine cW rfl ?_;refine mR T.zA fun er=>?_;ke_read;refine bad (s1.trans (s2.trans s4)) fun s hs e' w'=>?_;rcases w' with⟨low,rfl,_⟩|⟨low,b,rfl,ev⟩
     ·have bk:BK (.opn low):=hs.1;have:n=low:=rq n0 n1 bk.1 bk.2.1 (e.symm.trans e');rw[this,wG.mpr ⟨bk.1,bk.2.2⟩]at ho;cases ho
     ·have bk:BK (.half low b):=hs.1;exact uv bk.1 (ev.symm.trans hv)
   ·refine dX (decide_eq_false hv) ?_;ke_read;refine⟨v,rfl,va,by omega,fun b b0 b1 eb H3 s3=>?_,fun hn H3 s3=>?_⟩
    ·have wp:=Up b1;have wq:=fZ b;ke_read;cases hh:hV n b with
     |true=>
      refine .inl ⟨n,b,rfl,n0,b0,by omega,by omega,(yE.mp hh).2.2,fun a4 H4 s4 f4 hA4=>?_⟩;ke_read;exact q (.half n b) ⟨⟨b0,b1,n0,n1,(yE.mp hh).2.2⟩,by rw[←jb,e,eb];rfl⟩ a4 H4 (s1.trans (s2.trans (s3.trans s4))) hA4
     |false=>
      refine .inr ⟨n,b,rfl,⟨by omega,by omega⟩,by omega,hh,fun H4 s4=>?_⟩;refine lI ?_;ke_read;refine gr T.LX ?_;refine cW rfl ?_;refine mR T.zA fun er=>?_;ke_read;refine bad (s1.trans (s2.trans (s3.trans s4))) fun s hs e' w'=>?_;rcases w' with⟨low,rfl,ev⟩|⟨low,b',rfl,ev⟩
      ·exact hv ev
      ·have bk:BK (.half low b'):=hs.1;have h1:n=low:=rq n0 n1 bk.2.2.1 bk.2.2.2.1 (e.symm.trans e');have h2:b=b':=rq b0 (by omega) bk.1 (by have:=bk.2.1;omega) (eb.symm.trans ev);rw[h1,h2,yE.mpr ⟨bk.2.2.1,bk.1,bk.2.2.2.2⟩]at hh;cases hh
    ·refine lI ?_;ke_read;refine gr T.XB ?_;refine dX rfl ?_;refine bad (s1.trans (s2.trans s3)) fun s hs e' w'=>?_;rcases w' with⟨low,rfl,ev⟩|⟨low,b,rfl,ev⟩
     ·exact hv ev
     ·have bk:BK (.half low b):=hs.1;exact hn ⟨b,bk.1,bk.2.1,ev⟩
  ·cases s with
   |half low b=>exact hs.1.2.2.1
   |opn low=>exact hs.1.1
  ·cases s with
   |half low b=>exact hs.1.2.2.2.1
   |opn low=>exact hs.1.2.1
 ·have n2:¬(ps.map V.str).length=2:=by rw[bo];exact h2
  ke_read;exact q' (fun⟨s,hs⟩=>by
   obtain⟨v,e,_⟩:=two s hs;rw[e]at h2;exact h2 rfl) none H1 s1
def qU(z:Str)(s:Sn)(d:Hd):Prop:=BK s∧BH d∧z=fK (s,d)
def Yp(C CO CN:Addr):Sp:=fun vs H Q E=>∃z:Str,vs=[.str z]∧(z.cps.all (· < 128))=true∧z.length≤900100∧(∀s d,qU z s d→∀(x:V) (H':Hp),ah H H'→gq C CO H' x s d→Q x H')∧((¬∃s d,qU z s d)→∀k H',ah H H'→E (.ref CN) k H')
theorem Qv(T:Tx w K mg):aM P w K mg base (aC P w) 6 T.f_read_row T.d_read_row ["text"] (Yp T.C_Half T.C_Open T.C_NoText):=by
 refine T.xI.F.okE Ip ?_ ?_;kj_on
 ·obtain⟨z,rfl,_⟩:=h;rfl
 obtain⟨z,rfl,ha,hl,q,q'⟩:=h;have jb:=oU z " ";have al:=t7 jb ha;have two:∀s d,qU z s d→cN z " " = [ii s,gL d]:=fun s d ⟨h1,h2,e⟩=>by rw[e];exact Rw (r:=(s,d)) h1 h2
 refine⟨_,(ao (aW (i:=1) Ip.nd rfl (by z_go) (c8 jS lT rM qZ (pv 0) (ae ai af)))
  (ao (aQ (aO lG (bP (fS (K:=K) rfl) rfl T.dJ dF (ae (pv 1) af)) aj (aD _)) (ap (gv T.hZ rfl T.lF (ae ai af))) aS)
  (ap (az (cK (ae (ip (Tb T) (hr.mono (by decide)) rfl T.zg.m T.zg.F.kp T.zg.b .nil ji (ae (aI (ck (K:=K) rfl) (pv 1) aj (fun _ _=>rfl)) af)) (ae (ip (VH T) (hr.mono (by decide)) rfl T.yB.m T.yB.F.kp T.yB.b .nil ji (ae (aI (ck (K:=K) rfl) (pv 1) aj (fun _ _=>rfl)) af)) af))))))),?_⟩
 got_up;refine⟨rfl,?_⟩;ke_read;refine⟨z," ",rfl,rfl,by k_go,by omega,fun p1 H1 nw1=>?_⟩;obtain⟨f1,a1,s1,-⟩:=nw1;generalize cN z " " = ps at jb al two a1;have len:ps.length=2∨¬ps.length=2:=N9 _;rcases len with h2|h2
 ·obtain⟨u,v,rfl⟩:∃u v,ps=[u,v]:=by
   cases ps with
   |nil=>simp at h2
   |cons u t=>
    cases t with
    |nil=>simp at h2
    |cons v r=>
     cases r with
     |nil=>exact⟨u,v,rfl⟩
     |cons=>simp at h2
  replace jb:u++(" " : Str)++v=z:=jb;obtain⟨ua,ul⟩:=al u (.head _);obtain⟨va,vl⟩:=al v (.tail _ (.head _));replace a1:H1 p1=some (.lst [.str u,.str v]):=a1;have bad:∀{H':Hp} {k:Option Addr},ah H H'→(∀s d,qU z s d→u=ii s→v=gL d→False)→E (.ref T.C_NoText) k H':=fun{H' k} sm no=>q' (fun⟨s,d,hs⟩=>by
   have e:=two s d hs;injection e with e1 e2;injection e2 with e2 _;exact no s d hs e1 e2) k H' sm
  ke_read;refine⟨u,rfl,ua,by omega,fun s hs b2 H2 s2 hB2=>?_,fun hn k H2 s2=>bad (s1.trans s2) fun s d hs e _=>hn ⟨s,hs.1,e⟩⟩;have a12:=s2 _ _ a1;ke_read;refine⟨v,rfl,va,by omega,fun d hd r3 H3 s3 a3=>?_,fun hn H3 s3=>bad (s1.trans (s2.trans s3)) fun s d hs _ e=>hn ⟨d,hs.2.1,e⟩⟩;ke_read;rintro p4 H4 ⟨f4,a4,s4,-⟩;ke_read;exact q s d ⟨hs.1,hd.1,by rw[←jb,hs.2,hd.2];rfl⟩ (.ref p4) H4 (s1.trans (s2.trans (s3.trans s4))) ⟨p4,b2,r3,rfl,a4,hB2.nl (bN.of (s3.trans s4)),s4 _ _ a3⟩
 ·have n2:¬(ps.map V.str).length=2:=by rw[bo];exact h2
  ke_read;exact q' (fun⟨s,d,hs⟩=>by
   have e:=two s d hs;rw[e]at h2;exact h2 rfl) none H1 s1
def gk(z:Str)(rs:List (Sn×Hd)):Prop:=(∀x∈rs,BK x.1∧BH x.2)∧z=yM rs
def ST(C CO CN:Addr):Sp:=fun vs H Q E=>∃z:Str,vs=[.str z]∧(z.cps.all (· < 128))=true∧z.length≤900000∧(∀rs,gk z rs→∀(l:Addr) (H':Hp) (xs:List V),ah H H'→H' l=some (.lst xs)→bJ C CO H' xs rs→Q (.ref l) H')∧((¬∃rs,gk z rs)→∀k H',ah H H'→E (.ref CN) k H')
def pC(C CO:Addr)(l:Addr)(H:Hp)(x:V)(s:Sn)(d:Hd):Prop:=∃r b h,x=.ref r∧r≠l∧b≠l∧h≠l∧H r=some (.tup [.ref b,.ref h])∧bg C CO H b s∧H h=some (.tup (dD d))
theorem gq.u{C CO l:Addr}{H:Hp}{x:V}{s:Sn}{d:Hd}{ys:List V}(h:gq C CO H x s d)(hl:H l=some (.lst ys)):pC C CO l H x s d:=by
 obtain⟨r,b,t,e,h1,h2,h3⟩:=h;exact⟨r,b,t,e,(fun z=>by rw[z,hl]at h1;cases h1),bg.ne h2 hl,(fun z=>by rw[z,hl]at h3;cases h3),h1,h2,h3⟩
theorem pC.but{C CO l:Addr}{H H':Hp}{x:V}{s:Sn}{d:Hd}(k:SameBut l H H'):pC C CO l H x s d→pC C CO l H' x s d:=by
 rintro⟨r,b,t,e,n1,n2,n3,h1,h2,h3⟩;exact⟨r,b,t,e,n1,n2,n3,k _ _ n1 h1,h2.at_ (fun o z=>k _ _ n2 z),k _ _ n3 h3⟩
theorem pC.at_{C CO l:Addr}{H:Hp}{x:V}{s:Sn}{d:Hd}:pC C CO l H x s d→gq C CO H x s d:=by
 rintro⟨r,b,t,e,n1,n2,n3,h1,h2,h3⟩;exact⟨r,b,t,e,h1,h2,h3⟩
theorem JJ{C CO:Addr}{H:Hp}:∀{ys:List V} {ps:List Str},ys.length=ps.length→(∀(i:Nat) y,ys[i]?=some y→∃s d p,ps[i]?=some p∧qU p s d∧gq C CO H y s d)→∃rs,(∀x∈rs,BK x.1∧BH x.2)∧ps=rs.map fK∧bJ C CO H ys rs
 |[],[],_,_=>⟨[],(fun _ h=>nomatch h),rfl,.nil⟩
 |[],_::_,h,_=>by simp at h
 |_::_,[],h,_=>by simp at h
 |y::ys,p::ps,h,g=>by
  obtain⟨s,d,p',e,⟨h1,h2,h3⟩,hr⟩:=g 0 y rfl;simp at e;subst e;obtain⟨rs,k1,k2,k3⟩:=JJ (ys:=ys) (ps:=ps) (by simpa using h) fun i z hz=>by simpa using g (i+1) z (by simpa using hz)
  refine⟨(s,d)::rs,fun x hx=>?_,by rw[eD,←k2,←h3],.cons hr k3⟩;rcases bu.mp hx with rfl|hx
  ·exact⟨h1,h2⟩
  ·exact k1 x hx
theorem Mb(T:Tx w K mg):aM P w K mg base (aC P w) 7 T.f_read_book T.d_read_book ["text"] (ST T.C_Half T.C_Open T.C_NoText):=by
 refine T.oa.F.okE X4 ?_ ?_;kj_on
 ·obtain⟨z,rfl,_⟩:=h;rfl
 obtain⟨z,rfl,ha,hl,q,q'⟩:=h;have jb:=oU z "; ";have al:=t7 jb ha;have pl:=CK z "; ";have pne:=qR z "; ";refine⟨_,(ao (aQ (aO br (pv 0) ai (aD _)) (ap (az (bQ af))) aS)
  (ap (az (UY (oN:=["text"]) (osc:=aB xG) (x:="row") (fr:=[]) (ix:=[]) (by refine⟨rfl,?_,?_,rfl,?_,?_,rfl,?_,?_⟩<;>decide +kernel) rfl rfl (kc (K:=K) rfl (c8 jS lT rM qZ (pv 0) (ae ai af))) (fun _ _ _ _ _=>qm) (fun _ _ _ _ _ _ hp=>(ip (Qv T) (hr.mono (by decide)) rfl T.xI.m T.xI.F.kp T.xI.b .nil hp (ae (pv 0) af))))))),?_⟩
 got_up;by_cases hz:z="silence"
 ·refine cW (decide_eq_true hz) ?_;ke_read;rintro p1 H1 ⟨f1,a1,s1,-⟩;ke_read;exact q [] ⟨(fun _ h=>nomatch h),hz⟩ p1 H1 [] s1 a1 .nil
 have two:∀rs,gk z rs→cN z "; " = rs.map fK:=fun rs ⟨h1,e⟩=>by
  cases rs with
  |nil=>exact absurd e hz
  |cons r t=>rw[e];exact MJ h1
 refine dX (decide_eq_false hz) ?_;ke_read;refine⟨rfl,?_⟩;ke_read;refine⟨z,"; ",rfl,rfl,by k_go,by omega,fun p1 H1 nw1=>?_⟩;obtain⟨f1,a1,s1,-⟩:=nw1;generalize cN z "; " = ps at jb al two a1 pl pne;ke_read;refine QG (fun lq i y H=>∃s d p,ps[i]?=some p∧qU p s d∧pC T.C_Half T.C_Open lq H y s d) (ay.of a1) (An (oJ (by rw[bo];omega))) ?_ ?_ ?_
 ·rintro lq i y H H' ⟨s,d,p,e,hw,hu⟩ sb;exact⟨s,d,p,e,hw,hu.but sb⟩
 ·intro lq i z2 H2 ys flq hz2 s2 hq2 _ _ Q' hQ;rw[iC]at hz2;cases er:ps[i]? with
  |none=>rw[er]at hz2;cases hz2
  |some p=>
   rw[er]at hz2;have ez:V.str p=z2:=cP hz2;subst ez;obtain⟨pa,pll⟩:=al p (fw er);ke_read;refine⟨p,rfl,pa,by omega,fun s d hw x H3 s3 hx=>?_,fun hn k H3 s3=>?_⟩
   ·exact hQ x H3 s3 ⟨s,d,p,er,hw,hx.u (s3 _ _ hq2)⟩
   ·refine q' (fun⟨rs,hb⟩=>?_) k H3 (s1.trans (s2.trans s3));have e:=two rs hb;rw[e,iC]at er;cases hr:rs[i]? with
    |none=>rw[hr]at er;cases er
    |some r=>
     rw[hr]at er;have bb:=hb.1 r (fw hr);exact hn ⟨r.1,r.2,bb.1,bb.2,(cP er).symm⟩
 ·intro lq H2 ys s2 flq h2 yl hU;rw[bo]at yl;obtain⟨rs,k1,k2,k3⟩:=JJ (C:=T.C_Half) (CO:=T.C_Open) (H:=H2) (ys:=ys) (ps:=ps) yl fun i y hy=>by
   obtain⟨s,d,p,e,hw,hu⟩:=hU i y hy;exact⟨s,d,p,e,hw,hu.at_⟩
  refine q rs ⟨k1,?_⟩ lq H2 ys (s1.trans s2) h2 k3;cases rs with
  |nil=>exact absurd k2 pne
  |cons r t=>rw[←jb,k2];rfl
def BW:Sn→Prop
 |.half low b=>0≤b∧b≤200∧0≤low∧low<10^61
 |.opn low=>0≤low∧low<10^61
theorem ET{n:Int}(h0:0≤n)(h1:n<10^61):(aJ n).length≤61:=by
 unfold aJ;exact FK h0 (by decide) h1
theorem L8{s:Sn}(hb:BW s):(ii s).length≤130:=by
 have p:("+" : Str).length=1:=by k_go
 cases s with
 |half low b=>
  have h1:=ET hb.2.2.1 hb.2.2.2;have h2:=gK hb.1 (by have:=hb.2.1;omega);show(aJ low++("+" : Str)++aJ b).length≤130;rw[cO,cO];omega
 |opn low=>
  have h1:=ET hb.1 hb.2;show(aJ low++("+" : Str)).length≤130;rw[cO];omega
theorem YD{r:Sn×Hd}(hs:BW r.1)(hd:BH r.2):(fK r).length≤200:=by
 have p:(" " : Str).length=1:=by k_go
 have h1:=L8 hs;have h2:=Ma hd;show(ii r.1++(" " : Str)++gL r.2).length≤200;rw[cO,cO];omega
def aaf(C CO:Addr):Sp:=fun vs H Q _=>∃(x:V) (s:Sn) (d:Hd),vs=[x]∧gq C CO H x s d∧BW s∧BH d∧Q (.str (fK (s,d))) H
theorem acI(T:Tx w K mg):aM P w K mg base ba 2 T.f_shown_row T.d_shown_row ["row"] (aaf T.C_Half T.C_Open):=by
 refine T.xB.F.ok CP ?_ ?_;kj_on
 ·obtain⟨x,s,d,rfl,_⟩:=h;rfl
 obtain⟨x,s,d,rfl,⟨r,b,t,rfl,h1,hb,h3⟩,bs,bd,q⟩:=h;have tl:=L8 bs;have al:=Ma bd;have p1:(" " : Str).length=1:=by k_go
 refine⟨_,(ao (aW (i:=1) CP.nd rfl (by z_go) (aI (bR (K:=K) rfl) (pv 0) aj (fun _ _=>rfl)))
  (ao (aW (i:=2) CP.nd rfl (by z_go) (xx (aO br (aI (bR (K:=K) rfl) (pv 1) aj (fun _ _=>rfl)) ai (aD _)) (gj jF rfl T.gU gW (ae (aI (bR (K:=K) rfl) (pv 1) aj (fun _ _=>rfl)) af)) (aI (bR (K:=K) rfl) (pv 1) aj (fun _ _=>rfl))))
  (ap (az (be fY (be fY (zD (P:=P) (w:=w) (K:=K) (mg:=mg) (base:=base) (k:=1) (CX:=ba) (E:=E0) rfl rfl rfl rfl rfl (aI (bR (K:=K) rfl) (pv 0) aj (fun _ _=>rfl)) (hr.mono (by decide)) aT) ai) (pv 2)))))),?_⟩
 got_up;cases d with
 |hush=>
  have e0:cw (dD .hush) 0=some (.str "hush"):=rfl;ke_read;refine dX (by k_go) ?_;ke_read;exact⟨cz (by rw[cO];have:(gL .hush).length=4:=(by k_go);show(ii s).length+(" " : Str).length+(gL .hush).length≤5000;omega),q⟩
 |din=>
  have e0:cw (dD .din) 0=some (.str "din"):=rfl;ke_read;refine dX (by k_go) ?_;ke_read;exact⟨cz (by rw[cO];have:(gL .din).length=3:=(by k_go);show(ii s).length+(" " : Str).length+(gL .din).length≤5000;omega),q⟩
 |word n=>
  have e0:cw (dD (.word n)) 0=some (.str "word"):=rfl;have e1:cw (dD (.word n)) 1=some (.int n):=rfl;have n1:n<2^1000:=by have:=bd.2;omega
  have lg:=hE bd.1 n1;replace al:(aJ n).length≤60:=al;ke_read;exact⟨cz (by rw[cO];show(ii s).length+(" " : Str).length+(aJ n).length≤5000;omega),q⟩
theorem R0{rs:List (Sn×Hd)}(h:∀x∈rs,BW x.1∧BH x.2):∀t∈rs.map fK,t.length≤200:=fun t ht=>by
 obtain⟨x,hx,rfl⟩:=gP.mp ht;exact YD (h x hx).1 (h x hx).2
theorem acn{ts:List Str}(h:∀t∈ts,t.length≤200)(hl:ts.length≤80000):vj "; " ts=true:=by
 have p:("; " : Str).length=2:=by k_go
 have e:=Pz (sep:="; ") h (by rw[p];omega);unfold vj;rw[e];rfl
def Yn(C CO:Addr):Sp:=fun vs H Q _=>∃(l:Addr) (xs:List V) (rs:List (Sn×Hd)),vs=[.ref l]∧H l=some (.lst xs)∧bJ C CO H xs rs∧(∀x∈rs,BW x.1∧BH x.2)∧rs.length≤80000∧∀H',ah H H'→Q (.str (yM rs)) H'
theorem Cq(T:Tx w K mg):aM P w K mg base ba 3 T.f_shown_book T.d_shown_book ["book"] (Yn T.C_Half T.C_Open):=by
 refine T.ku.F.ok RC ?_ ?_;kj_on
 ·obtain⟨l,xs,rs,rfl,_⟩:=h;rfl
 obtain⟨l,xs,rs,rfl,hl,hR,hb,hz,q⟩:=h;have xl:=hR.len;refine⟨_,(ao (aQ (aO br (bP (fS (K:=K) rfl) rfl T.dJ dF (ae (pv 0) af)) aj (aD _)) (ap (az ai)) aS)
  (ap (az (c8 jS FL FN (EM (K:=K) rfl) ai (ae (qu (oN:=["book"]) (osc:=aB yT) (x:="row") (fr:=[]) (ix:=[]) (by refine⟨rfl,?_,?_,rfl,?_,?_,rfl,?_,?_⟩<;>decide +kernel) rfl rfl rfl (kc (K:=K) rfl (pv 0)) (fun _ _ _ _ _=>qm) (fun _ _ _ _ _=>(aX (acI T) (hr.mono (by decide)) rfl T.xB.m T.xB.F.kp T.xB.b .nil aT (ae (pv 0) af)))) af))))),?_⟩
 got_up;cases rs with
 |nil=>
  have x0:xs=[]:=Af.mp xl;subst x0;ke_read;exact q H (ah.refl _)
 |cons r0 rt=>
  rw[bI]at xl hz;refine dX (decide_eq_false (by omega)) ?_;ke_read;refine⟨rfl,?_⟩;ke_read;refine IC (rs:=r0::rt) (fun _=>true) (fun r=>V.str (fK r)) (ay.of hl) hR.len (An (oJ (by omega))) ?_ ?_ ?_
  ·rintro i z ⟨s,d⟩ ez er H1 s1 Q' hQ;ke_read
   first|done|exact hQ
  ·rintro i z ⟨s,d⟩ ez er hp H1 s1 Q' hQ;obtain⟨s',d',er',hx⟩:=hR.get ez;rw[er]at er';injection er' with er';injection er' with es ed;subst es ed;have bb:=hb (s,d) (fw er);ke_read;exact⟨z,s,d,rfl,hx.nl (bN.of s1),bb.1,bb.2,hQ⟩
  ·intro l1 H1 s1 f1 a1;have e1:(((r0::rt).filter fun _=>true).map fun r=>V.str (fK r))=((r0::rt).map fK).map V.str:=by
    rw[vn.mpr fun _ _=>rfl,jo];rfl
   rw[e1]at a1;ke_read;refine⟨"; ",l1,(r0::rt).map fK,rfl,rfl,ay.of a1,acn (R0 hb) (by rw[bo,bI];omega),?_⟩;exact q H1 s1
def iw(s:Sn)(hs:List Int):Prop:=(∀h∈hs,am s h=true)∧hs.Nodup
def Zo(K:aq)(C CO CN:Addr):Sp:=fun vs H Q E=>∃(l b:Addr) (hs:List Int) (s:Sn),vs=[.ref l,.ref b]∧ay K H l (hs.map V.int)∧hs.length≤900∧bg C CO H b s∧
 (iw s hs→∀H':Hp,ah H H'→Q .non H')∧(¬iw s hs→∀H':Hp,ah H H'→E (.ref CN) none H')
theorem Nm(T:Tx w K mg):aM P w K mg base (aC P w) 2 T.f_on_line T.d_on_line ["hands","top"] (Zo K T.C_Half T.C_Open T.C_NoHands):=by
 refine T.iU.F.okE Jo ?_ ?_;kj_on
 ·obtain⟨l,b,hs,s,rfl,_⟩:=h;rfl
 obtain⟨l,b,hs,sn,rfl,hS,hl,hA,q,q'⟩:=h;refine⟨_,(ao (uJ PassesOwn.leaving rfl (kc (K:=K) rfl (pv 0)) (kW (i:=2) Jo.nd rfl (by z_go))
  (ap (aQ (PW.pt (fg (fk (cy (aX (ze T) (hr.mono (by decide)) rfl T.iL.m T.iL.F.kp T.iL.b .nil aT (ae (pv 2) af)))) (fW (fk (cy (uc (P:=P) (w:=w) (K:=K) (mg:=mg) (base:=base) (k:=1) (CX:=ba) (E:=E0) rfl rfl rfl rfl rfl (pv 1) (hr.mono (by decide)) aT (ae (pv 2) af))))))) (ap (gv T.wa rfl T.wx (ae ai af))) aS)))
  (ap (aQ (aO lG (bP abX rfl T.dJ dF (ae (gj (Xx (K:=K) rfl rfl) rfl T.aci abf (ae (pv 0) af)) af)) (bP (fS (K:=K) rfl) rfl T.dJ dF (ae (pv 0) af)) (aD _)) (ap (gv T.wa rfl T.wx (ae ai af))) aS))),?_⟩
 got_up;refine DU (K:=K) (a:=l) (xs:=hs.map V.int) (fun i σ H3=>∃o2:Option V,σ=[some (.ref l),some (.ref b),o2]∧ah H H3∧∀h∈hs.take i,am sn h=true) ⟨none,rfl,ah.refl _,fun h z=>by simp at z⟩ (fun i σ H3 _ ⟨_,_,s,_⟩=>s.seq hS) ?_ ?_
 ·rintro i x σ H3 hi ⟨o2,rfl,s3,hin⟩;obtain⟨n,hn,rfl⟩:=gP.mp (fw hi);have hi':i<hs.length:=by
   have:=(gO.mp hi).1
   rwa [bo]at this
  have en:hs[i]=n:=by
   rw[iC,cL hi']at hi;injection hi with hi;injection hi
  ke_read;refine⟨n,rfl,?_⟩;ke_read;cases hh:am sn n with
  |false=>
   ke_read;exact q' (fun z=>by rw[z.1 n hn]at hh;cases hh) H3 s3
  |true=>
   ke_read;refine⟨_,rfl,s3,fun h hm=>?_⟩;rw[vp,cL hi',en]at hm;rcases jQ.mp hm with hm|hm
   ·exact hin h hm
   ·simp at hm;subst hm;exact hh
 ·rintro σ H3 ⟨o2,rfl,s3,hin⟩;rw[bo,pP (bv _)]at hin;ke_read;refine Tu (s3.seq hS) (by omega) fun S n p H4 hm hn hle nw=>?_;obtain⟨f4,a4,s4,-⟩:=nw;have s34:=s3.trans s4;refine WW a4 ?_;ke_read;rw[bo];refine C9 (fun c=>?_) (fun c=>?_)
  ·ke_read;exact q ⟨hin,hn.mp (by omega)⟩ _ s34
  ·ke_read;exact q' (fun z=>c (by have:=hn.mpr z.2;omega)) _ s34
def Yk(K:aq)(C CO:Addr):Sp:=fun vs H Q _=>∃(l b:Addr) (hs:List Int) (s:Sn),vs=[.ref l,.ref b]∧ay K H l (hs.map V.int)∧hs.length≤900∧bg C CO H b s∧(∀h∈hs,am s h=true)∧hs.Nodup∧
 ∀H':Hp,ah H H'→Q .non H'
theorem Dt(T:Tx w K mg):aM P w K mg base (aC P w) 2 T.f_on_line T.d_on_line ["hands","top"] (Yk K T.C_Half T.C_Open):=(Nm T).imp fun vs H Q E h=>by
 obtain⟨l,b,hs,s,rfl,h1,h2,h3,h4,h5,q⟩:=h;exact⟨l,b,hs,s,rfl,h1,h2,h3,fun _ H' s'=>q H' s',fun n=>absurd ⟨h4,h5⟩ n⟩
def tk:Nat→Sn→List Int→List (Sn×Hd)
 | 0,_,_=>[]
 |n+1,s,hs=>(s,aV (am s) hs)::(if aV (am s) hs=.din then tk n (cx s) (hs.filter (am s))++tk n (cU s) (hs.filter (am s))else[])
def dQ:Nat→Sn→List Int→Prop
 | 0,_,_=>False
 |n+1,s,hs=>aV (am s) hs=.din→jl s∧dQ n (cx s) (hs.filter (am s))∧dQ n (cU s) (hs.filter (am s))
structure jB where
 n:Nat
 s:Sn
 hs:List Int
def fc:List jB→List (Sn×Hd)
 |[]=>[]
 |d::r=>tk d.n d.s d.hs++fc r
theorem GT:∀(p:List jB),(∀d∈p,dQ d.n d.s d.hs)→p.length≤(fc p).length
 |[],_=>bv _
 |⟨0,s,hs⟩::r,h=>(h _ (.head _)).elim
 |⟨n+1,s,hs⟩::r,h=>by
  have ih:=GT r fun d hd=>h d (.tail _ hd);show r.length+1≤(((_:Sn×Hd)::_)++fc r).length;rw[dm,bI];omega
def xH(C CO ld bk:Addr)(H:Hp)(x:V)(d:jB):Prop:=∃r b l,x=.ref r∧H r=some (.tup [.ref b,.ref l])∧bg C CO H b d.s∧H l=some (.lst (d.hs.map V.int))∧l≠ld∧l≠bk∧d.hs.length≤900
def eT(ld bk:Addr)(H H':Hp):Prop:=∀b o,b≠ld→b≠bk→H b=some o→H' b=some o
theorem xH.keep{C CO ld bk:Addr}{H H':Hp}{x:V}{d:jB}(k:bN H H')(k2:eT ld bk H H'):xH C CO ld bk H x d→xH C CO ld bk H' x d:=by
 rintro⟨r,b,l,e,h1,h2,h3,n1,n2,hl⟩;exact⟨r,b,l,e,k _ _ (by intro ys z;cases z) h1,h2.nl k,k2 _ _ n1 n2 h3,n1,n2,hl⟩
inductive kf(C CO ld bk:Addr)(H:Hp):List V→List jB→Prop
 |nil:kf C CO ld bk H [] []
 |cons {x:V} {d:jB} {xs:List V} {ds:List jB} (h:xH C CO ld bk H x d) (t:kf C CO ld bk H xs ds):kf C CO ld bk H (x::xs) (d::ds)
theorem kf.keep{C CO ld bk:Addr}{H H':Hp}(k:bN H H')(k2:eT ld bk H H'){xs:List V}{ds:List jB}(h:kf C CO ld bk H xs ds):kf C CO ld bk H' xs ds:=by
 induction h with
 |nil=>exact .nil
 |cons a _ ih=>exact .cons (a.keep k k2) ih
theorem kf.len{C CO ld bk:Addr}{H:Hp}{xs:List V}{ds:List jB}(h:kf C CO ld bk H xs ds):xs.length=ds.length:=by
 induction h with
 |nil=>rfl
 |cons a _ ih=>rw[bI,bI,ih]
theorem eT.of{ld bk:Addr}{H H':Hp}(s:ah H H'):eT ld bk H H':=fun b o _ _ h=>s b o h
theorem eT.put1{ld bk:Addr}{H H':Hp}{o:HO}(p:cT H ld o H'):eT ld bk H H':=fun b u h1 _ h=>by rw[p.else_ b h1];exact h
theorem eT.put2{ld bk:Addr}{H H':Hp}{o:HO}(p:cT H bk o H'):eT ld bk H H':=fun b u _ h2 h=>by rw[p.else_ b h2];exact h
theorem Lr{K:aq}{H:Hp}{a:Addr}{xs:List V}{R:Bool→Prop}(hS:ay K H a xs)(h:R (!xs.isEmpty)):∃k,D7 K (.ref a) H k∧R k:=⟨_,.inl ⟨xs,hS,rfl⟩,h⟩
theorem UW{d:Hd}:decide (dD d=[.str "din"])=decide (d=.din):=by
 rw[show([.str "din"]:List V)=dD .din from rfl];exact decide_eq_decide.mpr Bv
abbrev yF(C CO l b bk ld:Addr)(H:Hp)(g:List (Sn×Hd)):Nat→List (Option V)→Hp→Prop:=fun m σ H5=>∃(xs:List V) (ds:List jB) (bs:List V) (rs:List (Sn×Hd)) (o4 o5 o6 o7 o8 o9:Option V),σ=[some (.ref l),some (.ref b),some (.ref bk),some (.ref ld),o4,o5,o6,o7,o8,o9]∧ah H H5∧
  H5 bk=some (.lst bs)∧bJ C CO H5 bs rs∧H5 ld=some (.lst xs.reverse)∧kf C CO ld bk H5 xs ds∧(∀d∈ds,dQ d.n d.s d.hs)∧rs++fc ds=g∧m=(fc ds).length
@[elab_as_elim] theorem yF.elim {C CO l b bk ld:Addr} {H H5:Hp} {g:List (Sn×Hd)} {m:Nat} {σ : List (Option V)} {G:Nat→List (Option V)→Prop} (h:yF C CO l b bk ld H g m σ H5)
  (k0:∀(bs:List V) (o4 o5 o6 o7 o8 o9:Option V),ah H H5→H5 bk=some (.lst bs)→bJ C CO H5 bs g→H5 ld=some (.lst [])→
   G 0 [some (.ref l),some (.ref b),some (.ref bk),some (.ref ld),o4,o5,o6,o7,o8,o9])
  (k1:∀(r6 b6 l6:Addr) (dn:Nat) (dsn:Sn) (dhs:List Int) (xs:List V) (ds:List jB) (bs:List V) (rs:List (Sn×Hd)) (o4 o5 o6 o7 o8 o9:Option V),ah H H5→H5 bk=some (.lst bs)→bJ C CO H5 bs rs→H5 ld=some (.lst (xs.reverse++[.ref r6]))→
   H5 r6=some (.tup [.ref b6,.ref l6])→bg C CO H5 b6 dsn→H5 l6=some (.lst (dhs.map V.int))→l6≠ld→l6≠bk→dhs.length≤900→kf C CO ld bk H5 xs ds→dQ (dn+1) dsn dhs→(∀d∈ds,dQ d.n d.s d.hs)→rs++(tk (dn+1) dsn dhs++fc ds)=g→
   rs.length+(tk (dn+1) dsn dhs++fc ds).length=g.length→xs.length+1≤(tk (dn+1) dsn dhs++fc ds).length→bs.length=rs.length→
   G (tk (dn+1) dsn dhs++fc ds).length [some (.ref l),some (.ref b),some (.ref bk),some (.ref ld),o4,o5,o6,o7,o8,o9]):G m σ:=by
 obtain⟨xs,ds,bs,rs,o4,o5,o6,o7,o8,o9,rfl,s5,hb5,hR5,hd5,hD5,hF,eR,rfl⟩:=h;have eRl:rs.length+(fc ds).length=g.length:=by rw[←eR,dm]
 have dl:=GT ds hF;have xl:=hD5.len;have bl:=hR5.len;cases hD5 with
 |nil=>
  rw[show rs++fc []=rs from gg rs]at eR;subst eR;exact k0 bs o4 o5 o6 o7 o8 o9 s5 hb5 hR5 hd5
 | @cons x d xs ds hx hD5=>
  obtain⟨r6,b6,l6,rfl,hr6,hA6,hl6,nl1,nl2,dO⟩:=hx;obtain⟨dn,dsn,dhs⟩:=d;have hF0:=hF _ (.head _);cases dn with
  |zero=>exact hF0.elim
  |succ dn=>
   rw[ni]at hd5;refine k1 r6 b6 l6 dn dsn dhs xs ds bs rs o4 o5 o6 o7 o8 o9 s5 hb5 hR5 hd5 hr6 hA6 hl6 nl1 nl2 dO hD5 hF0 (fun d hd=>hF d (.tail _ hd)) eR eRl ?_ (by omega);simp only[bI]at xl dl;exact cB (by omega) dl
def UV(K:aq)(C CO:Addr):Sp:=fun vs H Q _=>∃(l b:Addr) (hs:List Int) (s:Sn) (n:Nat),vs=[.ref l,.ref b]∧H l=some (.lst (hs.map V.int))∧hs.length≤900∧bg C CO H b s∧(∀h∈hs,am s h=true)∧hs.Nodup∧
 dQ n s hs∧(tk n s hs).length≤1000000∧∀(r:Addr) (H':Hp) (xs:List V),ah H H'→H r=none→H' r=some (.lst xs)→bJ C CO H' xs (tk n s hs)→Q (.ref r) H'
theorem BC(T:Tx w K mg):aM P w K mg base ba 6 T.f_talk T.d_talk ["hands","top"] (UV K T.C_Half T.C_Open):=by
 refine T.jZ.F.ok lC ?_ ?_;kj_on
 ·obtain⟨l,b,hs,s,n,rfl,_⟩:=h;rfl
 obtain⟨l,b,hs,sn,n,rfl,hL,hl,hA,hin,nd,hf,hz,q⟩:=h;refine⟨_,(ao (dB (aX (Dt T) (hr.mono (by decide)) rfl T.iU.m T.iU.F.kp T.iU.b .nil iJ (ae (pv 0) (ae (pv 1) af))))
  (ao (aW (i:=2) lC.nd rfl (by z_go) (bQ af))
  (ao (aW (i:=3) lC.nd rfl (by z_go) (bQ (ae (cK (ae (pv 1) (ae (pv 0) af))) af)))
  (ao (Hr rJ (XH (pv 3) (fun _=>rfl)) (ao (aW (i:=4) lC.nd rfl (by z_go) ((tQ ff zP FM CF (pv 3))))
  (ao (aW (i:=5) lC.nd rfl (by z_go) (aI (bR (K:=K) rfl) (pv 4) aj (fun _ _=>rfl)))
  (ao (aW (i:=6) lC.nd rfl (by z_go) (aI (bR (K:=K) rfl) (pv 4) aj (fun _ _=>rfl)))
  (ao (aW (i:=7) lC.nd rfl (by z_go) (aX (CW T) (hr.mono (by decide)) rfl T.j8.m T.j8.F.kp T.j8.b .nil aT (ae (pv 6) (ae (pv 5) af))))
  (ao (dB ((c8 ff gz gQ fP (pv 2) (ae (cK (ae (pv 5) (ae (pv 7) af))) af))))
  (ap (aQ (aO (pG (K:=K) rfl hr.units) (pv 7) (cK (ae ai af)) (aD _)) (ao (K9 (i:=8) (oN:=["hands","top","book","due","call","span","near","answer","shouting","halves"]) (osc:=aB yt) (x:="hand") (fr:=["span"]) (ix:=[5]) (by refine⟨rfl,?_,?_,rfl,?_,?_,rfl,?_,?_⟩<;>decide +kernel) rfl rfl rfl lC.nd rfl rfl rfl (kc (K:=K) rfl (pv 6)) (fun _ _ _ _ _=>(ss (cy (uc (P:=P) (w:=w) (K:=K) (mg:=mg) (base:=base) (k:=1) (CX:=ba) (E:=E0) rfl rfl rfl rfl rfl (pv 1) (hr.mono (by decide)) aT (ae (pv 0) af))))) (fun _ _ _ _ _=>(pv 0)))
  (ao (aW (i:=9) lC.nd rfl (by z_go) (zD (P:=P) (w:=w) (K:=K) (mg:=mg) (base:=base) (k:=5) (CX:=ba) (E:=E0) rfl rfl rfl rfl rfl (pv 5) (hr.mono (by decide)) aT))
  (ao (dB ((c8 ff gz gQ fP (pv 3) (ae (cK (ae (aI (bR (K:=K) rfl) (pv 9) aj (fun _ _=>rfl)) (ae (pv 8) af))) af))))
  (ap (dB ((c8 ff gz gQ fP (pv 3) (ae (cK (ae (aI (bR (K:=K) rfl) (pv 9) aj (fun _ _=>rfl)) (ae (pv 8) af))) af)))))))) aS))))))))
  (ap (az (pv 2))))))),?_⟩
 got_up;refine⟨l,b,hs,sn,rfl,ay.of hL,hl,hA,hin,nd,fun H1 s1=>?_⟩;ke_read;rintro bk H2 ⟨f2,a2,s2,-⟩;ke_read;rintro p3 H3 ⟨f3,a3,s3,-⟩;ke_read;rintro ld H4 ⟨f4,a4,s4,-⟩;ke_read;have sz:(1000001:Nat)<sizeLine:=by decide
 have hL1:=s1 _ _ hL;have hL2:=s2 _ _ hL1;have hL3:=s3 _ _ hL2;have hbk3:=s3 _ _ a2;have fb:H bk=none:=s1.free f2;have fd:H ld=none:=(s1.trans (s2.trans s3)).free f4;have nbd:bk≠ld:=fun z=>by rw[z,f4]at hbk3;cases hbk3
 have nlb:l≠bk:=fun z=>by rw[z,fb]at hL;cases hL
 have nld:l≠ld:=fun z=>by rw[z,fd]at hL;cases hL
 refine⟨yF T.C_Half T.C_Open l b bk ld H (tk n sn hs),
  ⟨_,[.ref p3],[⟨n,sn,hs⟩],[],[],none,none,none,none,none,none,rfl,s1.trans (s2.trans (s3.trans s4)),s4 _ _ hbk3,.nil,a4,.cons ⟨p3,b,l,rfl,s4 _ _ a3,hA.keep (s1.trans (s2.trans (s3.trans s4))),s4 _ _ hL3,nld,nlb,hl⟩ .nil,?_,?_,rfl⟩,?_⟩
 ·intro d hd;rw[dS]at hd;subst hd;exact hf
 ·show[]++(tk n sn hs++[])=_;rw[gg,lW]
 intro m σ H5 hI;refine yF.elim hI (fun bs o4 o5 o6 o7 o8 o9 s5 hb5 hR5 hd5=>?_) (fun r6 b6 l6 dn dsn dhs xs ds bs rs o4 o5 o6 o7 o8 o9 s5 hb5 hR5 hd5 hr6 hA6 hl6 nl1 nl2 dO hD5 hF0 hF eR eRl xl bl=>?_)
 ·ke_read;refine Lr (ay.of hd5) ?_;ke_read;exact q bk H5 bs s5 fb hb5 hR5
 ·ke_read;refine Lr (ay.of hd5) ?_;refine cW (by simp) ?_;refine⟨_,fun σ' H' h=>h,?_⟩;have szb:bs.length<sizeLine:=lX (by omega) sz;have szx:(xs.reverse).length<sizeLine:=by rw[pM];exact lX (by omega) sz
  have szx1:(xs.reverse++[V.ref 0]).length<sizeLine:=by rw[dm,pM];exact lX (show xs.length+1≤1000001 by omega) sz
  ke_read;refine Cm (ys:=xs.reverse) (y:=.ref r6) hd5 fun H6 p6=>?_;have k6:=bN.put hd5 p6;have b6':eT ld bk H5 H6:=eT.put1 p6;have s6:ah H H6:=p6.same s5 fd;have hb6:H6 bk=some (.lst bs):=by rw[p6.else_ bk nbd];exact hb5
  have hr6':=k6 _ _ (by intro ys z;cases z) hr6;have hA6':=hA6.nl k6;have hl6':=b6' _ _ nl1 nl2 hl6;have hd6:=p6.at_;have hD6:=hD5.keep k6 b6';have hR6:=hR5.nl k6;ke_read;refine⟨l6,b6,dhs,dsn,rfl,ay.of hl6',dO,hA6',fun r7 H7 s7 f7 a7=>?_⟩;ke_read;rintro p8 H8 ⟨f8,a8,s8,-⟩;have s68:=s7.trans s8;have hb8:=s68 _ _ hb6;ke_read;intro H9 p9;have k9:=bN.put hb8 p9;have b9:eT ld bk H8 H9:=eT.put2 p9;have hd9:H9 ld=some (.lst xs.reverse):=by rw[p9.else_ ld (fun z=>nbd z.symm)];exact s68 _ _ hd6
  have a7':=k9 _ _ (by intro ys z;cases z) (s8 _ _ a7);have a8':=k9 _ _ (by intro ys z;cases z) a8;have hA9:=(hA6'.keep s68).nl k9;have hl9:=b9 _ _ nl1 nl2 (s68 _ _ hl6');have hD9:=(hD6.keep (bN.of s68) (eT.of s68)).keep k9 b9;have hR9:bJ T.C_Half T.C_Open H9 (bs++[.ref p8]) (rs++[(dsn,aV (am dsn) dhs)]):=((hR6.nl (bN.of s68)).nl k9).snoc ⟨p8,b6,r7,rfl,a8',hA9,a7'⟩;have hb9:=p9.at_;have s9:ah H H9:=p9.same (s6.trans s68) fb;ke_read;rintro p10 H10 ⟨f10,a10,s10,-⟩;refine tW (by kqd_sub) (by kqd_sub) (qv _) (by k_go) ?_;rw[UW];ke_read;refine cG (fun c=>?_) (fun c=>?_)
  ·obtain⟨hc,hf1,hf2⟩:=hF0 c;have e1:tk (dn+1) dsn dhs=(dsn,aV (am dsn) dhs)::(tk dn (cx dsn) (dhs.filter (am dsn))++tk dn (cU dsn) (dhs.filter (am dsn))):=by
    show _::(if aV (am dsn) dhs=.din then _ else[])=_;rw[if_pos c]
   have hl10:=s10 _ _ hl9;ke_read;refine Cr (AU (am dsn)) (fun z=>z) (ay.of hl10) (by rw[bo];exact mw (by omega)) ?_ ?_ ?_
   ·intro z hz H1' s1' Q' hQ;obtain⟨k,_,rfl⟩:=gP.mp hz;have hA':=(hA9.keep s10).keep s1';ke_read
    first|done|exact hQ
   ·intro z hz _ H1' s1' Q' hQ;ke_read
    first|done|exact hQ
   intro r11 H11 s11 f11 a11;rw[OK,G7]at a11;have hA11:=(hA9.keep s10).keep s11;ke_read;refine J0 (by kcf_all) hc fun r12 p12 q12 H12 s12 a12 aL aU=>?_;have s912:=s10.trans (s11.trans s12);have hd12:=s912 _ _ hd9;have hb12:=s912 _ _ hb9;have a11':=s12 _ _ a11;have nls:r11≠ld:=fun z=>by rw[z,s10 _ _ hd9]at f11;cases f11
   have nbs:r11≠bk:=fun z=>by rw[z,s10 _ _ hb9]at f11;cases f11
   ke_read;rintro p13 H13 ⟨f13,a13,s13,-⟩;have hd13:=s13 _ _ hd12;ke_read;intro H14 p14;have k14:=bN.put hd13 p14;have b14:eT ld bk H13 H14:=eT.put1 p14;have a12':=k14 _ _ (by intro ys z;cases z) (s13 _ _ a12);have hd14:=p14.at_;have szx2:(xs.reverse++[V.ref p13]).length<sizeLine:=by rw[dm]at szx1⊢;exact szx1
   ke_read;rintro p15 H15 ⟨f15,a15,s15,-⟩;have hd15:=s15 _ _ hd14;ke_read;intro H16 p16;have k16:=bN.put hd15 p16;have b16:eT ld bk H15 H16:=eT.put1 p16;have s16:ah H H16:=p16.same ((p14.same (s9.trans (s912.trans s13)) fd).trans s15) fd;have kA:bN H12 H16:=((bN.of s13).trans k14).trans ((bN.of s15).trans k16);have bA:eT ld bk H12 H16:=fun b o h1 h2 h=>b16 _ _ h1 h2 (s15 _ _ (b14 _ _ h1 h2 (s13 _ _ h)));have kB:bN H9 H16:=(bN.of s912).trans kA;have bB:eT ld bk H9 H16:=fun b o h1 h2 h=>bA _ _ h1 h2 (s912 _ _ h);have hb16:H16 bk=some (.lst (bs++[.ref p8])):=by rw[p16.else_ bk nbd];exact s15 _ _ (by rw[p14.else_ bk nbd];exact s13 _ _ hb12)
   have fl:(dhs.filter (am dsn)).length≤900:=cB (kK _ _) dO;have a13':=k16 _ _ (by intro ys z;cases z) (s15 _ _ (k14 _ _ (by intro ys z;cases z) a13));have a15':=k16 _ _ (by intro ys z;cases z) a15
   try ke_read
   refine⟨(fc (⟨dn,cx dsn,dhs.filter (am dsn)⟩::⟨dn,cU dsn,dhs.filter (am dsn)⟩::ds)).length,?_,.ref p15::.ref p13::xs,_,_,_,_,_,_,_,_,_,rfl,s16,hb16,hR9.nl kB,?_,
    .cons ⟨p15,p12,r11,rfl,a15',aL.nl kA,bA _ _ nls nbs a11',nls,nbs,fl⟩ (.cons ⟨p13,q12,r11,rfl,a13',aU.nl kA,bA _ _ nls nbs a11',nls,nbs,fl⟩ (hD9.keep kB bB)),?_,?_,rfl⟩
   ·show _<(tk (dn+1) dsn dhs++fc ds).length;rw[e1];show(tk dn _ _++(tk dn _ _++fc ds)).length<_;simp only[dm,bI];omega
   ·rw[p16.at_,ni,ni]
   ·intro d hd;rcases bu.mp hd with e|hd
    ·subst e;exact hf1
    rcases bu.mp hd with e|hd
    ·subst e;exact hf2
    exact hF d hd
   ·rw[←eR];show(rs++[(dsn,aV (am dsn) dhs)])++(tk dn _ _++(tk dn _ _++fc ds))=rs++(tk (dn+1) dsn dhs++fc ds);rw[e1];simp only[jP,vm,lW]
  ·have e1:tk (dn+1) dsn dhs=[(dsn,aV (am dsn) dhs)]:=by
    show _::(if aV (am dsn) dhs=.din then _ else[])=_;rw[if_neg c]
   ke_read;refine⟨(fc ds).length,?_,xs,ds,_,_,_,_,_,_,_,_,rfl,s9.trans s10,s10 _ _ hb9,hR9.nl (bN.of s10),s10 _ _ hd9,hD9.keep (bN.of s10) (eT.of s10),hF,?_,rfl⟩
   ·show _<(tk (dn+1) dsn dhs++fc ds).length;rw[e1,dm];show _<1+_;omega
   ·rw[←eR];show(rs++[(dsn,aV (am dsn) dhs)])++fc ds=rs++(tk (dn+1) dsn dhs++fc ds);rw[e1,jP]
theorem M3{fs:List Int}:jd fs=.din↔2≤fs.length:=by
 rcases fs with _|⟨x,_|⟨y,bO⟩⟩
 ·simp[jd]
 ·simp[jd]
 ·simp[jd]
theorem B6{p:Int→Bool}{hs:List Int}(nd:hs.Nodup)(h:aV p hs=.din):∃x y,x≠y∧p x=true∧p y=true∧x∈hs∧y∈hs:=by
 unfold aV at h;have nf:(hs.filter p).Nodup:=nd.filter _;rcases hf:hs.filter p with _|⟨x,_|⟨y,bO⟩⟩
 ·rw[hf]at h;cases h
 ·rw[hf]at h;cases h
 ·have hx:x∈hs.filter p:=by rw[hf];simp
  have hy:y∈hs.filter p:=by rw[hf];simp
  rw[hf]at nf;refine⟨x,y,fun e=>?_,(eQ.mp hx).2,(eQ.mp hy).2,(eQ.mp hx).1,(eQ.mp hy).1⟩;subst e;simp at nf
theorem uN:∀(n:Nat) (low b:Int) (hs:List Int),hs.Nodup→0≤b→b<n→dQ n (.half low b) hs
 | 0,low,b,hs,nd,b0,b1=>by omega
 |n+1,low,b,hs,nd,b0,b1=>fun hd=>by
  have c:1≤b:=by
   by_cases z:1≤b
   ·exact z
   ·exfalso;have:b=0:=by omega
    subst this;obtain⟨x,y,ne,hx,hy,_,_⟩:=B6 nd hd;have p0:pw 0=1:=rfl;have hx':=of_decide_eq_true hx;have hy':=of_decide_eq_true hy;omega
  exact⟨c,uN n low (b-1) _ (nd.filter _) (by omega) (by omega),uN n _ (b-1) _ (nd.filter _) (by omega) (by omega)⟩
def Ok:Sn→Prop
 |.half _ b=>0≤b
 |.opn low=>nP low
theorem VY{s:Sn}(ok:Ok s)(hc:jl s){x:Int}(hx:am s x=true):am (cU s) x=!am (cx s) x:=by
 cases s with
 |half low b=>
  have hc':1≤b:=hc;have e:=lc hc';have hx':=of_decide_eq_true hx;have p:=fZ (b-1);show decide (low+1*pw (b-1)≤x∧x<low+1*pw (b-1)+pw (b-1))=!decide (low≤x∧x<low+pw (b-1));by_cases z:x<low+pw (b-1)
  ·rw[decide_eq_false (by omega),decide_eq_true (by omega)];rfl
  ·rw[decide_eq_true (by omega),decide_eq_false (by omega)];rfl
 |opn low=>
  have hx':low≤x:=of_decide_eq_true hx;have p0:pw 0=1:=rfl;rcases ok with e|⟨k,k0,e⟩
  ·subst e;rw[qS,qT];show decide (1≤x)=!decide (0≤x∧x<0+pw 0);by_cases z:x<1
   ·rw[decide_eq_false (by omega),decide_eq_true (by omega)];rfl
   ·rw[decide_eq_true (by omega),decide_eq_false (by omega)];rfl
  ·subst e;rw[qJ k0,rh];show decide (2*pw k≤x)=!decide (pw k≤x∧x<pw k+pw k);by_cases z:x<2*pw k
   ·rw[decide_eq_false (by omega),decide_eq_true (by omega)];rfl
   ·rw[decide_eq_true (by omega),decide_eq_false (by omega)];rfl
theorem Hx{s:Sn}(ok:Ok s)(hc:jl s){x:Int}(hx:am (cx s) x=true):am s x=true:=by
 cases s with
 |half low b=>
  have hc':1≤b:=hc;have e:=lc hc';have hx':=of_decide_eq_true hx;have p:=fZ (b-1);exact decide_eq_true (by omega)
 |opn low=>
  have p0:pw 0=1:=rfl;rcases ok with e|⟨k,k0,e⟩
  ·subst e;rw[qS]at hx;have hx':=of_decide_eq_true hx;exact decide_eq_true hx'.1
  ·subst e;rw[qJ k0]at hx;have hx':=of_decide_eq_true hx;exact decide_eq_true hx'.1
theorem Li{s:Sn}(ok:Ok s)(hc:jl s){x:Int}(hx:am (cU s) x=true):am s x=true:=by
 cases s with
 |half low b=>
  have hc':1≤b:=hc;have e:=lc hc';have hx':=of_decide_eq_true hx;have p:=fZ (b-1);exact decide_eq_true (by omega)
 |opn low=>
  have p0:pw 0=1:=rfl;rcases ok with e|⟨k,k0,e⟩
  ·subst e;rw[qT]at hx;have hx':(1:Int)≤x:=of_decide_eq_true hx;exact decide_eq_true (by omega)
  ·subst e;rw[rh]at hx;have hx':2*pw k≤x:=of_decide_eq_true hx;have:=fZ k;exact decide_eq_true (by omega)
theorem uq{s:Sn}(ok:Ok s)(hc:jl s):Ok (cx s):=by
 cases s with
 |half low b=>
  have hc':1≤b:=hc;show 0≤b-1;omega
 |opn low=>
  rcases ok with e|⟨k,k0,e⟩
  ·subst e;rw[qS];exact vi _
  ·subst e;rw[qJ k0];exact k0
theorem sK{s:Sn}(ok:Ok s)(hc:jl s):Ok (cU s):=by
 cases s with
 |half low b=>
  have hc':1≤b:=hc;show 0≤b-1;omega
 |opn low=>
  rcases ok with e|⟨k,k0,e⟩
  ·subst e;rw[qT];exact .inr ⟨0,by decide,rfl⟩
  ·subst e;rw[rh];exact .inr ⟨k+1,by omega,by rw[lc (show 1≤k+1 by omega),show k+1-1=k by omega]⟩
theorem GH{p q:Int→Bool}:∀{fs:List Int},(∀x∈fs,q x=!p x)→(fs.filter p).length+(fs.filter q).length=fs.length
 |[],_=>rfl
 |x::r,h=>by
  have ih:=GH (p:=p) (q:=q) (fs:=r) fun y hy=>h y (.tail _ hy);have hx:=h x (.head _);rw[gN,gN,hx];cases p x<;>simp<;>omega
theorem yX:∀(n:Nat) (s:Sn) (hs:List Int),Ok s→dQ n s hs→(tk n s hs).length≤1+2*(n*(hs.filter (am s)).length)
 | 0,_,_,_,f=>f.elim
 |n+1,s,hs,ok,f=>by
  show((_:Sn×Hd)::(if aV (am s) hs=.din then _ else[])).length≤_;by_cases hd:aV (am s) hs=.din
  ·rw[if_pos hd,bI,dm];obtain⟨hc,f1,f2⟩:=f hd;have i1:=yX n _ _ (uq ok hc) f1;have i2:=yX n _ _ (sK ok hc) f2;have pl:=GH (p:=am (cx s)) (q:=am (cU s)) (fs:=hs.filter (am s)) fun x hx=>VY ok hc (eQ.mp hx).2;have h2:=M3.mp hd;generalize (tk n (cx s) (hs.filter (am s))).length=t1 at i1⊢;generalize (tk n (cU s) (hs.filter (am s))).length=t2 at i2⊢;generalize (Ow (am (cx s)) (hs.filter (am s))).length=a at i1 pl;generalize (Ow (am (cU s)) (hs.filter (am s))).length=b at i2 pl;generalize (hs.filter (am s)).length=c at pl h2⊢;have e:n*a+n*b=n*c:=by rw[←Nat.mul_add,pl]
   have e2:(n+1)*c=n*c+c:=by rw[Nat.add_mul,Nat.one_mul]
   omega
  ·rw[if_neg hd];show 1≤_;omega
theorem NE{B:Int}(hB:B≤800):∀(n:Nat) (k:Int) (hs:List Int),hs.Nodup→(∀h∈hs,h<pw B)→0≤k→k≤B→2*B+2-k≤n→dQ n (.opn (pw k)) hs
 | 0,k,hs,nd,hb,k0,k1,hn=>by omega
 |n+1,k,hs,nd,hb,k0,k1,hn=>fun hd=>by
  have c:k<B:=by
   by_cases z:k<B
   ·exact z
   ·exfalso;have:k=B:=by omega
    subst this;obtain⟨x,y,ne,hx,hy,mx,my⟩:=B6 nd hd;have hx':pw k≤x:=of_decide_eq_true hx;have:=hb x mx;omega
  refine⟨?_,?_,?_⟩
  ·show pw k≤2^800;exact oK (show k≤800 by omega)
  ·rw[qJ k0];exact uN n _ _ _ (nd.filter _) k0 (by omega)
  ·rw[rh];have e:2*pw k=pw (k+1):=by rw[lc (show 1≤k+1 by omega),show k+1-1=k by omega]
   rw[e];exact NE hB n (k+1) _ (nd.filter _) (fun h hh=>hb h (eQ.mp hh).1) (by omega) (by omega) (by omega)
theorem QY{B:Int}(h0:0≤B)(hB:B≤800){n:Nat}{hs:List Int}(nd:hs.Nodup)(hb:∀h∈hs,h<pw B)(hn:2*B+3≤n):dQ n (.opn 0) hs:=by
 cases n with
 |zero=>omega
 |succ n=>
  intro _;refine⟨?_,?_,?_⟩
  ·show(0:Int)≤2^800
   decide
  ·rw[qS];exact uN n _ _ _ (nd.filter _) (by decide) (by omega)
  ·rw[qT];exact NE hB n 0 _ (nd.filter _) (fun h hh=>hb h (eQ.mp hh).1) (by decide) h0 (by omega)
def DL:Sn×Hd→Bool
 |(_,.word _)=>true
 |_=>false
def NF:Sn×Hd→Int
 |(_,.word n)=>n
 |_=>0
def lu(rs:List (Sn×Hd)):List Int:=(rs.filter DL).map NF
theorem Wt{d:Hd}:∃k:Str,(dD d)[0]?=some (.str k)∧cw (dD d) 0=some (.str k)∧decide (k="word")=DL (.opn 0,d):=by
 cases d with
 |hush=>exact⟨"hush",rfl,rfl,by k_go⟩
 |word n=>exact⟨"word",rfl,rfl,decide_eq_true rfl⟩
 |din=>exact⟨"din",rfl,rfl,by k_go⟩
def VS(K:aq)(C CO:Addr):Sp:=fun vs H Q _=>∃(l:Addr) (xs:List V) (rs:List (Sn×Hd)),vs=[.ref l]∧ay K H l xs∧bJ C CO H xs rs∧xs.length<sizeLine∧∀(r:Addr) (H':Hp),ah H H'→H r=none→H' r=some (.lst ((lu rs).map V.int))→Q (.ref r) H'
theorem Ul(T:Tx w K mg):aM P w K mg base ba 1 T.f_words T.d_words ["book"] (VS K T.C_Half T.C_Open):=by
 refine T.zm.F.ok Uv ?_ ?_;kj_on
 ·obtain⟨l,xs,rs,rfl,_⟩:=h;rfl
 obtain⟨l,xs,rs,rfl,hS,hR,hz,q⟩:=h;refine⟨_,(ap (az (qu (oN:=["book"]) (osc:=aB yi) (x:="row") (fr:=[]) (ix:=[]) (by refine⟨rfl,?_,?_,rfl,?_,?_,rfl,?_,?_⟩<;>decide +kernel) rfl rfl rfl (kc (K:=K) rfl (pv 0)) (fun _ _ _ _ _=>(ss (aO br (aI (bR (K:=K) rfl) (aI (bR (K:=K) rfl) (pv 0) aj (fun _ _=>rfl)) aj (fun _ _=>rfl)) ai (aD _)))) (fun _ _ _ _ _=>(aI (bR (K:=K) rfl) (aI (bR (K:=K) rfl) (pv 0) aj (fun _ _=>rfl)) aj (fun _ _=>rfl)))))),?_⟩;got_up;refine IC DL (fun r=>V.int (NF r)) hS hR.len hz ?_ ?_ ?_
 ·rintro i z ⟨s,d⟩ ez er H1 s1 Q' hQ;obtain⟨s',d',er',r,b,h,rfl,r1,r2,r3⟩:=hR.get ez;rw[er]at er';injection er' with er';injection er' with es ed;subst es ed;have r1:=s1 _ _ r1;have r3:=s1 _ _ r3;obtain⟨k,_,ek,ew⟩:=Wt (d:=d);have hQ':Q' (decide (k="word")) H1:=by rw[ew];cases d<;>exact hQ
  ke_read
  first|done|exact hQ'
 ·rintro i z ⟨s,d⟩ ez er hp H1 s1 Q' hQ;obtain⟨s',d',er',r,b,h,rfl,r1,r2,r3⟩:=hR.get ez;rw[er]at er';injection er' with er';injection er' with es ed;subst es ed;have r1:=s1 _ _ r1;have r3:=s1 _ _ r3;cases d with
  |hush=>cases hp
  |din=>cases hp
  |word n=>
   have r3:H1 h=some (.tup [.str "word",.int n]):=r3;ke_read
   first|done|exact hQ
 ·intro r H1 s1 f1 a1;refine q r H1 s1 f1 ?_;rw[a1];unfold lu;rw[jo];rfl
theorem Dv{n:Nat}{s:Sn}{hs:List Int}(hd:aV (am s) hs=.din):tk (n+1) s hs=(s,.din)::(tk n (cx s) (hs.filter (am s))++tk n (cU s) (hs.filter (am s))):=by
 show(s,aV (am s) hs)::(if aV (am s) hs=.din then _ else[])=_;rw[if_pos hd,hd]
theorem EW{n:Nat}{s:Sn}{hs:List Int}(hd:¬aV (am s) hs=.din):tk (n+1) s hs=[(s,aV (am s) hs)]:=by
 show(s,aV (am s) hs)::(if aV (am s) hs=.din then _ else[])=_;rw[if_neg hd]
theorem wf:∀(n:Nat) (s:Sn) (hs:List Int),Ok s→dQ n s hs→∀r∈tk n s hs,∀x,am r.1 x=true→am s x=true
 | 0,_,_,_,f,_,_,_,_=>f.elim
 |n+1,s,hs,ok,f,r,hr,x,hx=>by
  by_cases hd:aV (am s) hs=.din
  ·rw[Dv hd]at hr;obtain⟨hc,f1,f2⟩:=f hd;rcases bu.mp hr with e|hm
   ·subst e;exact hx
   ·rcases jQ.mp hm with hm|hm
    ·exact Hx ok hc (wf n _ _ (uq ok hc) f1 r hm x hx)
    ·exact Li ok hc (wf n _ _ (sK ok hc) f2 r hm x hx)
  ·rw[EW hd,dS]at hr;subst hr;exact hx
theorem BM:∀(n:Nat) (s:Sn) (hs:List Int),Ok s→dQ n s hs→∀r∈tk n s hs,r.2=aV (am r.1) hs
 | 0,_,_,_,f,_,_=>f.elim
 |n+1,s,hs,ok,f,r,hr=>by
  have key:∀(s':Sn),(∀x,am r.1 x=true→am s' x=true)→(∀x,am s' x=true→am s x=true)→r.2=aV (am r.1) (hs.filter (am s))→r.2=aV (am r.1) hs:=fun s' h1 h2 e=>by
   rw[e];unfold aV;rw[Ox];refine congrArg jd (Aa fun x _=>?_);cases hx:am r.1 x
   ·rfl
   ·rw[h2 x (h1 x hx)];rfl
  by_cases hd:aV (am s) hs=.din
  ·rw[Dv hd]at hr;obtain⟨hc,f1,f2⟩:=f hd;rcases bu.mp hr with e|hm
   ·subst e;exact hd.symm
   ·rcases jQ.mp hm with hm|hm
    ·exact key _ (wf n _ _ (uq ok hc) f1 r hm) (fun x=>Hx ok hc) (BM n _ _ (uq ok hc) f1 r hm)
    ·exact key _ (wf n _ _ (sK ok hc) f2 r hm) (fun x=>Li ok hc) (BM n _ _ (sK ok hc) f2 r hm)
  ·rw[EW hd,dS]at hr;subst hr;rfl
def qA(B:Int):Sn→Prop
 |.half low b=>low+pw b≤2*B
 |.opn low=>low≤2*B
theorem DW:∀(n:Nat) (s:Sn) (hs:List Int) (B:Int),Ok s→dQ n s hs→qA B s→(∀h∈hs,h<B)→1≤B→∀r∈tk n s hs,qA B r.1
 | 0,_,_,_,_,f,_,_,_,_,_=>f.elim
 |n+1,s,hs,B,ok,f,hb,hh,B1,r,hr=>by
  by_cases hd:aV (am s) hs=.din
  ·rw[Dv hd]at hr;obtain⟨hc,f1,f2⟩:=f hd;have hf:∀h∈hs.filter (am s),h<B:=fun h z=>hh h (eQ.mp z).1;have hlu:qA B (cx s)∧qA B (cU s):=by
    obtain⟨x,hx⟩:∃x,x∈hs.filter (am s):=by
     have:=M3.mp hd;cases hf':hs.filter (am s)with
     |nil=>rw[hf']at this;simp at this
     |cons x r=>exact⟨x,.head _⟩
    have hxB:=hf x hx;have hxs:=(eQ.mp hx).2;cases s with
    |half low b=>
     have e:=lc (show 1≤b from hc);have p:=fZ (b-1);have hb':low+pw b≤2*B:=hb;exact⟨(show low+pw (b-1)≤2*B by omega),(show low+1*pw (b-1)+pw (b-1)≤2*B by omega)⟩
    |opn low=>
     have hl:low≤x:=of_decide_eq_true hxs;have p0:pw 0=1:=rfl;rcases ok with e|⟨k,k0,e⟩
     ·subst e;rw[qS,qT];exact⟨(show 0+pw 0≤2*B by omega),(show 1≤2*B by omega)⟩
     ·subst e;rw[qJ k0,rh];exact⟨(show pw k+pw k≤2*B by omega),(show 2*pw k≤2*B by omega)⟩
   rcases bu.mp hr with e|hr
   ·subst e;exact hb
   ·rcases jQ.mp hr with hr|hr
    ·exact DW n _ _ B (uq ok hc) f1 hlu.1 hf B1 r hr
    ·exact DW n _ _ B (sK ok hc) f2 hlu.2 hf B1 r hr
  ·rw[EW hd,dS]at hr;subst hr;exact hb
def iM(rs:List (Sn×Hd))(i:Nat):Bool:=match i with
 |k+2=>(match rs[k]? with|some r=>decide (r.2=.din)|none=>false)&&(match rs[k+1]? with|some r=>decide (r.2=.hush)|none=>false)
 |_=>false
theorem EE{d:Hd}:decide (dD d=[.str "hush"])=decide (d=.hush):=by
 rw[show([.str "hush"]:List V)=dD .hush from rfl];exact decide_eq_decide.mpr Bv
theorem Ms{d:Hd}:decide (dD d=[.str "din"])=decide (d=.din):=by
 rw[show([.str "din"]:List V)=dD .din from rfl];exact decide_eq_decide.mpr Bv
theorem bJ.at_{C CO:Addr}{H:Hp}{xs:List V}{rs:List (Sn×Hd)}(h:bJ C CO H xs rs){i:Nat}(hi:i<xs.length):∃x s d,xs[i]?=some x∧rs[i]?=some (s,d)∧gq C CO H x s d:=by
 obtain⟨s,d,e,r⟩:=h.get (cL hi);exact⟨_,s,d,cL hi,e,r⟩
def aaD(C CO:Addr):Sp:=fun vs H Q _=>∃(lb:Addr) (xs:List V) (rs:List (Sn×Hd)) (i:Nat),vs=[.ref lb,.int (i:Int)]∧H lb=some (.lst xs)∧bJ C CO H xs rs∧i<xs.length∧∀H',ah H H'→Q (.bl (iM rs i)) H'
theorem Ur(T:Tx w K mg):aM P w K mg base ba 1 T.f_is_sure T.d_is_sure ["book","place"] (aaD T.C_Half T.C_Open):=by
 refine T.zE.F.ok Yr ?_ ?_;kj_on
 ·obtain⟨lb,xs,rs,i,rfl,_⟩:=h;rfl
 obtain⟨lb,xs,rs,i,rfl,hb,hR,hi,q⟩:=h;refine⟨_,(ap (az (nO (eg sy (pv 1) aj (aD _)) (nO (eg (pG (K:=K) rfl hr.units) (aI (bR (K:=K) rfl) (aI (ck (K:=K) rfl) (pv 0) (be kh (pv 1) aj) (fun _ _=>rfl)) aj (fun _ _=>rfl)) (cK (ae ai af)) (aD _)) (oE (eg (pG (K:=K) rfl hr.units) (aI (bR (K:=K) rfl) (aI (ck (K:=K) rfl) (pv 0) (be kh (pv 1) aj) (fun _ _=>rfl)) aj (fun _ _=>rfl)) (cK (ae ai af)) (aD _))))))),?_⟩;got_up;rcases i with _|_|k
 ·have c:¬((0:Nat):Int)≥2:=by omega
  ke_read;exact q _ (ah.refl _)
 ·have c:¬((0+1:Nat):Int)≥2:=by omega
  ke_read;exact q _ (ah.refl _)
 ·have c:((k+1+1:Nat):Int)≥2:=by omega
  obtain⟨x1,s1,d1,e1,g1,r1,b1,t1,rfl,h1,_,h1'⟩:=hR.at_ (show k<xs.length by omega);obtain⟨x2,s2,d2,e2,g2,r2,b2,t2,rfl,h2,_,h2'⟩:=hR.at_ (show k+1<xs.length by omega);have i1:cw xs (((k+1+1:Nat):Int)-2)=some (.ref r1):=by rw[show((k+1+1:Nat):Int)-2=(k:Int)by omega];exact ox e1
  have i2:cw xs (((k+1+1:Nat):Int)-1)=some (.ref r2):=by rw[show((k+1+1:Nat):Int)-1=((k+1:Nat):Int)by omega];exact ox e2
  have es:iM rs (k+1+1)=(decide (d1=.din)&&decide (d2=.hush)):=by
   show((match rs[k]? with|some r=>decide (r.2=.din)|none=>false)&&(match rs[k+1]? with|some r=>decide (r.2=.hush)|none=>false))=_;rw[g1,g2]
  ke_read;rintro p3 H3 ⟨f3,a3,u3,-⟩;refine tW (by kqd_sub) (by kqd_sub) (qv _) (by k_go) ?_;rw[Ms];have hb3:=u3 _ _ hb;have h23:=u3 _ _ h2;have h23':=u3 _ _ h2';by_cases z:d1=.din
  ·rw[decide_eq_true z]at es⊢;rw[pK]at es;ke_read;rintro p4 H4 ⟨f4,a4,u4,-⟩;refine tW (by kqd_sub) (by kqd_sub) (qv _) (by k_go) ?_;rw[EE,←es];ke_read;exact q _ (u3.trans u4)
  ·rw[decide_eq_false z]at es⊢;rw[pJ]at es;rw[es]at q;ke_read;exact q _ u3
def sC:Option Hd→Option Hd→List (Sn×Hd)→List (Sn×Hd)
 |_,_,[]=>[]
 |a,b,r::t=>(if a=some .din∧b=some .hush then[]else[r])++sC b (some r.2) t
def da:Option Hd→Option Hd→List (Sn×Hd)→Option Hd×Option Hd
 |a,b,[]=>(a,b)
 |_,b,r::t=>da b (some r.2) t
theorem HS:∀(A B:List (Sn×Hd)) (a b:Option Hd),sC a b (A++B)=sC a b A++sC (da a b A).1 (da a b A).2 B
 |[],_,_,_=>rfl
 |r::t,B,a,b=>by
  show _++sC b (some r.2) (t++B)=(_++sC b (some r.2) t)++_;rw[HS t B,jP];rfl
theorem sP:∀(A B:List (Sn×Hd)) (a b:Option Hd),da a b (A++B)=da (da a b A).1 (da a b A).2 B
 |[],_,_,_=>rfl
 |r::t,B,a,b=>sP t B b (some r.2)
theorem V6(A:List (Sn×Hd))(r:Sn×Hd)(t:List (Sn×Hd)):iM (A++r::t) A.length=decide ((da none none A).1=some .din∧(da none none A).2=some .hush):=by
 rcases Fv A with rfl|⟨A1,y,rfl⟩
 ·rfl
 ·rw[Fq];rcases Fv A1 with rfl|⟨A2,x,rfl⟩
  ·show false=decide ((none:Option Hd)=some .din∧some y.2=some .hush);rw[decide_eq_false (fun z=>nomatch z.1)]
  ·rw[Fq];have e:((A2++[x])++[y]).length=A2.length+2:=by simp
   have e1:(A2++[x]++[y]++r::t)[A2.length]?=some x:=by
    rw[jP,jP,iY (bv _),FH];rfl
   have e2:(A2++[x]++[y]++r::t)[A2.length+1]?=some y:=by
    rw[jP,jP,iY (by omega),show A2.length+1-A2.length=1 by omega];rfl
   rw[e,sP,sP];show((match(A2++[x]++[y]++r::t)[A2.length]? with|some r=>decide (r.2=.din)|none=>false)&&(match(A2++[x]++[y]++r::t)[A2.length+1]? with|some r=>decide (r.2=.hush)|none=>false))=decide (some x.2=some .din∧some y.2=some .hush);rw[e1,e2,←NZ];exact decide_eq_decide.mpr ⟨fun z=>⟨congrArg some z.1,congrArg some z.2⟩,fun z=>⟨cP z.1,cP z.2⟩⟩
def uX(g:List (Sn×Hd)):List (Sn×Hd):=((fT g.length).filter fun i=>!iM g i).filterMap fun i=>g[i]?
theorem LR:∀(B A:List (Sn×Hd)),((fT B.length).filter fun i=>!iM (A++B) (A.length+i)).filterMap (fun i=>(A++B)[A.length+i]?)=sC (da none none A).1 (da none none A).2 B
 |[],_=>rfl
 |r::t,A=>by
  have ih:=LR t (A++[r]);rw[jP]at ih;have el:(A++[r]).length=A.length+1:=by simp
  rw[el,sP]at ih;rw[bI,OP,gN,List.filter_map,OS,V6];have er:(A++r::t)[A.length]?=some r:=by rw[iY (bv _),FH];rfl
  have e2:(((fT t.length).filter ((fun i=>!iM (A++r::t) (A.length+i))∘Ao)).map Ao).filterMap (fun i=>(A++r::t)[A.length+i]?)=sC (da none none A).2 (some r.2) t:=by
   rw[Fx];refine Eq.trans ?_ ih;have f1:((fun i=>!iM (A++r::t) (A.length+i))∘Ao)=fun i=>!iM (A++([r]++t)) (A.length+1+i):=by
    funext i
    show(!iM (A++r::t) (A.length+(i+1)))=!iM (A++r::t) (A.length+1+i);rw[show A.length+(i+1)=A.length+1+i by omega]
   have f2:((fun i=>(A++r::t)[A.length+i]?)∘Ao)=fun i=>(A++([r]++t))[A.length+1+i]?:=by
    funext i
    show(A++r::t)[A.length+(i+1)]?=(A++r::t)[A.length+1+i]?;rw[show A.length+(i+1)=A.length+1+i by omega]
   rw[f1,f2]
  show _=(if(da none none A).1=some .din∧(da none none A).2=some .hush then[]else[r])++sC (da none none A).2 (some r.2) t;by_cases c:(da none none A).1=some .din∧(da none none A).2=some .hush
  ·rw[decide_eq_true c,if_pos c,Bool.not_true,if_neg bK];exact e2
  ·rw[decide_eq_false c,if_neg c,Bool.not_false,if_pos rfl,rD,OS,er];show r::_=[r]++_;rw[e2];rfl
theorem Ta(g:List (Sn×Hd)):uX g=sC none none g:=by
 have:=LR g [];simp only[lW,Ah,Nat.zero_add]at this;exact this
def st:Nat→Bool→Sn→List Int→List (Sn×Hd)
 | 0,_,_,_=>[]
 |n+1,passed,s,hs=>(if passed=true then[]else[(s,aV (am s) hs)]) ++
  (if aV (am s) hs=.din then st n false (cx s) (hs.filter (am s))++st n (decide (aV (am (cx s)) (hs.filter (am s))=.hush)) (cU s) (hs.filter (am s))else[])
theorem Bt:∀(n:Nat) (s:Sn) (hs:List Int) (a b:Option Hd),dQ n s hs→
  (aV (am s) hs≠.din→da a b (tk n s hs)=(b,some (aV (am s) hs)))∧(aV (am s) hs=.din→(da a b (tk n s hs)).1≠some .din∧(da a b (tk n s hs)).2≠some .din)
 | 0,_,_,_,_,f=>f.elim
 |n+1,s,hs,a,b,f=>by
  have e:tk (n+1) s hs=(s,aV (am s) hs)::(if aV (am s) hs=.din then tk n (cx s) (hs.filter (am s))++tk n (cU s) (hs.filter (am s))else[]):=rfl;refine⟨fun hd=>?_,fun hd=>?_⟩
  ·rw[e,if_neg hd];rfl
  ·obtain⟨_,f1,f2⟩:=f hd;have i1:=Bt n _ _ b (some .din) f1;rw[e,if_pos hd];show(da b (some (aV (am s) hs)) (_++_)).1≠_∧(da b (some (aV (am s) hs)) (_++_)).2≠_;rw[hd,sP];have y1:(da b (some .din) (tk n (cx s) (hs.filter (am s)))).2≠some .din:=by
    by_cases z:aV (am (cx s)) (hs.filter (am s))=.din
    ·exact(i1.2 z).2
    ·rw[i1.1 z];exact fun q=>z (cP q)
   have i2:=Bt n _ _ (da b (some .din) (tk n (cx s) (hs.filter (am s)))).1 (da b (some .din) (tk n (cx s) (hs.filter (am s)))).2 f2;by_cases z:aV (am (cU s)) (hs.filter (am s))=.din
   ·exact i2.2 z
   ·rw[i2.1 z];exact⟨y1,fun q=>z (cP q)⟩
theorem E4:∀(n:Nat) (s:Sn) (hs:List Int) (a b:Option Hd),dQ n s hs→sC a b (tk n s hs)=st n (decide (a=some .din∧b=some .hush)) s hs
 | 0,_,_,_,_,f=>f.elim
 |n+1,s,hs,a,b,f=>by
  show(if a=some .din∧b=some .hush then[]else[(s,aV (am s) hs)])++sC b (some (aV (am s) hs)) (if aV (am s) hs=.din then tk n (cx s) (hs.filter (am s))++tk n (cU s) (hs.filter (am s))else[]) =
   (if decide (a=some .din∧b=some .hush)=true then[]else[(s,aV (am s) hs)])++(if aV (am s) hs=.din then st n false (cx s) (hs.filter (am s))++st n (decide (aV (am (cx s)) (hs.filter (am s))=.hush)) (cU s) (hs.filter (am s))else[])
  have e1:(if a=some .din∧b=some .hush then[]else[(s,aV (am s) hs)])=(if decide (a=some Hd.din∧b=some Hd.hush)=true then[]else[(s,aV (am s) hs)]):=by
   by_cases c:a=some .din∧b=some .hush
   ·rw[if_pos c,if_pos (decide_eq_true c)]
   ·rw[if_neg c,if_neg (by rw[decide_eq_false c];decide)]
  rw[e1]
  congr 1
  by_cases hd:aV (am s) hs=.din
  ·obtain⟨_,f1,f2⟩:=f hd;rw[if_pos hd,if_pos hd,hd,HS,E4 n _ _ _ _ f1,E4 n _ _ _ _ f2];have i1:=Bt n _ _ b (some .din) f1;have g1:decide (b=some Hd.din∧some Hd.din=some Hd.hush)=false:=decide_eq_false (fun z=>nomatch z.2);have g2:decide ((da b (some .din) (tk n (cx s) (hs.filter (am s)))).1=some .din∧(da b (some .din) (tk n (cx s) (hs.filter (am s)))).2=some .hush)=decide (aV (am (cx s)) (hs.filter (am s))=.hush):=by
    by_cases z:aV (am (cx s)) (hs.filter (am s))=.din
    ·rw[decide_eq_false (fun q=>(i1.2 z).1 q.1),z];rfl
    ·rw[i1.1 z];exact decide_eq_decide.mpr ⟨fun q=>cP q.2,fun q=>⟨rfl,congrArg some q⟩⟩
   rw[g1,g2]
  ·rw[if_neg hd,if_neg hd];rfl
theorem D5{n:Nat}{s:Sn}{hs:List Int}(f:dQ n s hs):uX (tk n s hs)=st n false s hs:=by
 rw[Ta,E4 n s hs none none f];rfl
theorem bJ.pick{C CO:Addr}{H:Hp}{xs:List V}{rs:List (Sn×Hd)}(h:bJ C CO H xs rs):∀is:List Nat,(∀i∈is,i<xs.length)→bJ C CO H (is.map fun i=>match(xs.zip rs)[i]? with|some x=>x.1|none=>V.non) (is.filterMap fun i=>rs[i]?)
 |[],_=>.nil
 |i::is,hi=>by
  have hlt:=hi i (.head _);obtain⟨s,d,e,r⟩:=h.get (cL hlt);have ez:(xs.zip rs)[i]?=some (xs[i],(s,d)):=by rw[FA];exact⟨cL hlt,e⟩
  rw[eD,rD,e,ez];exact .cons r (h.pick is fun j hj=>hi j (.tail _ hj))
def SL(C CO:Addr):Sp:=fun vs H Q _=>∃(l b:Addr) (hs:List Int) (s:Sn) (n:Nat),vs=[.ref l,.ref b]∧H l=some (.lst (hs.map V.int))∧hs.length≤900∧bg C CO H b s∧(∀h∈hs,am s h=true)∧hs.Nodup∧
 dQ n s hs∧(tk n s hs).length≤1000000∧∀(r:Addr) (H':Hp) (ys:List V),ah H H'→H r=none→H' r=some (.lst ys)→bJ C CO H' ys (st n false s hs)→Q (.ref r) H'
theorem WX(T:Tx w K mg):aM P w K mg base ba 7 T.f_short_talk T.d_short_talk ["hands","top"] (SL T.C_Half T.C_Open):=by
 refine T.xU.F.ok Gp ?_ ?_;kj_on
 ·obtain⟨l,b,hs,s,n,rfl,_⟩:=h;rfl
 obtain⟨l,b,hs,sn,n,rfl,hL,hl,hA,hin,nd,hf,hz,q⟩:=h;refine⟨_,(ao (aW (i:=2) Gp.nd rfl (by z_go) (aX (BC T) (hr.mono (by decide)) rfl T.jZ.m T.jZ.F.kp T.jZ.b .nil aT (ae (pv 0) (ae (pv 1) af))))
  (ap (az (HQ (oN:=["hands","top","book"]) (osc:=aB zq) (ow:=["place","row"]) (fr:=["book"]) (ix:=[2]) (by refine⟨rfl,?_,?_,?_,?_,?_,rfl,?_,?_⟩<;>decide +kernel) rfl rfl rfl (KG (K:=K) rfl rfl T.ML (ae (pv 2) af)) (fun _ _ _ _ _=>(ss (fk (cy (aX (Ur T) (hr.mono (by decide)) rfl T.zE.m T.zE.F.kp T.zE.b .nil aT (ae (pv 2) (ae (pv 0) af))))))) (fun _ _ _ _ _=>(pv 1)) (fun _ _ _ _ _=>(KS (K:=K) (i:=0) (j:=1) rfl rfl (by k_go) rfl rfl (by k_go) (by k_go))))))),?_⟩
 got_up;refine⟨l,b,hs,sn,n,rfl,hL,hl,hA,hin,nd,hf,hz,fun r2 H2 xs s2 f2 a2 hR2=>?_⟩;have xl:=hR2.len;have sz:(1000001:Nat)<sizeLine:=by decide
 have zl:(xs.zip (tk n sn hs)).length=xs.length:=by rw[FC];omega
 have fst:(xs.zip (tk n sn hs)).map (·.1)=xs:=OJ (Aj xl);ke_read;refine Md ?_;refine Kk ?_;ke_read;refine⟨r2,rfl,⟨xs,ay.of a2⟩,?_⟩;refine S5 (ps:=xs.zip (tk n sn hs)) (fun i _=>!iM (tk n sn hs) i) (by rw[fst];exact ay.of a2) (by rw[zl];exact lX (by omega) sz) ?_ ?_
 ·intro i z r t H3 ez s3 ht;have hi:i<xs.length:=by rw[←zl];exact(gO.mp ez).1
  refine⟨[some (.int (i:Int)),some z],rfl,fun Q' hQ=>Hy ht hQ,fun Q' hQ=>?_,fun H4 s4 Q' hQ=>?_⟩
  ·ke_read;refine⟨r2,xs,tk n sn hs,i,rfl,s3 _ _ a2,hR2.nl (bN.of s3),hi,fun H4 s4=>?_⟩;ke_read
   first|done|exact hQ _ s4
  ·ke_read
   first|done|exact hQ
 intro l5 H5 s5 f5 a5;refine q l5 H5 _ (s2.trans s5) (s2.free f5) a5 ?_;rw[←D5 hf,zl];have hp:=(hR2.nl (bN.of s5)).pick ((fT xs.length).filter fun i=>!iM (tk n sn hs) i) fun i hi=>rF.mp (eQ.mp hi).1;unfold uX;rw[←xl];rw[Aa (q:=fun i=>!iM (tk n sn hs) i) fun i hi=>by
  rw[rF]at hi;rw[cL (by rw[zl];exact hi)]]
 refine(congrArg (fun ys=>bJ T.C_Half T.C_Open H5 ys _) (Ai fun i hi=>?_)).mp hp;have hi':i<(xs.zip (tk n sn hs)).length:=by rw[zl];exact rF.mp (eQ.mp hi).1
 rw[cL hi']
def BO(rs:List (Sn×Hd)):List (Sn×Hd):=rs.filter fun r=>!decide (r.2=.din)
theorem bJ.pair{C CO:Addr}{H:Hp}{xs:List V}{rs:List (Sn×Hd)}(h:bJ C CO H xs rs):∀{z:V} {r:Sn×Hd},(z,r)∈xs.zip rs→r∈rs∧gq C CO H z r.1 r.2:=by
 induction h with
 |nil=>intro z r e;cases e
 |cons a _ ih=>
  intro z r e;rcases bu.mp e with e|e
  ·injection e with e1 e2;subst e1 e2;exact⟨.head _,a⟩
  ·exact⟨.tail _ (ih e).1,(ih e).2⟩
theorem bJ.fst{C CO:Addr}{H:Hp}{xs:List V}{rs:List (Sn×Hd)}(h:bJ C CO H xs rs):(xs.zip rs).map (·.1)=xs:=OJ (Aj h.len)
theorem bJ.filt{C CO:Addr}{H:Hp}{xs:List V}{rs:List (Sn×Hd)}(h:bJ C CO H xs rs):bJ C CO H (((xs.zip rs).filter fun x=>!decide (x.2.2=.din)).map fun x=>x.1) (BO rs):=by
 induction h with
 |nil=>exact .nil
 | @cons x s d xs rs a _ ih=>
  unfold BO at ih⊢;rw[List.zip_cons_cons,gN,gN];show bJ C CO H (OH _ (if(!decide (d=.din))=true then _ else _)) (if(!decide (d=.din))=true then _ else _);by_cases c:d=.din
  ·rw[decide_eq_true c];exact ih
  ·rw[decide_eq_false c];exact .cons a ih
def WM(C CO:Addr):Sp:=fun vs H Q _=>∃(l:Addr) (hs:List Int) (ak:Int) (n:Nat),vs=[.ref l,.int ak]∧H l=some (.lst (hs.map V.int))∧hs.length≤900∧0≤ak∧ak≤200∧(∀h∈hs,am (.half 0 ak) h=true)∧hs.Nodup∧
 dQ n (.half 0 ak) hs∧(tk n (.half 0 ak) hs).length≤1000000∧∀(r:Addr) (H':Hp) (xs:List V),ah H H'→H r=none→H' r=some (.lst xs)→bJ C CO H' xs (BO (tk n (.half 0 ak) hs))→Q (.ref r) H'
theorem abr(T:Tx w K mg):aM P w K mg base ba 7 T.f_least_paper T.d_least_paper ["hands","width"] (WM T.C_Half T.C_Open):=by
 refine T.wN.F.ok abC ?_ ?_;kj_on
 ·obtain⟨l,hs,ak,n,rfl,_⟩:=h;rfl
 obtain⟨l,hs,ak,n,rfl,hL,hl,w0,w1,hin,nd,hf,hz,q⟩:=h;refine⟨_,(ap (az (qu (oN:=["hands","width"]) (osc:=aB yH) (x:="row") (fr:=[]) (ix:=[]) (by refine⟨rfl,?_,?_,rfl,?_,?_,rfl,?_,?_⟩<;>decide +kernel) rfl rfl rfl (kc (K:=K) rfl (aX (BC T) (hr.mono (by decide)) rfl T.jZ.m T.jZ.F.kp T.jZ.b .nil aT (ae (pv 0) (ae (aX (yN T) (hr.mono (by decide)) rfl T.iR.m T.iR.F.kp T.iR.b .nil aT (ae (pv 1) af)) af)))) (fun _ _ _ _ _=>(ss (aO (M7 (K:=K) rfl hr.units) (aI (bR (K:=K) rfl) (pv 0) aj (fun _ _=>rfl)) (cK (ae ai af)) (aD _)))) (fun _ _ _ _ _=>(pv 0))))),?_⟩;got_up;refine⟨_,rfl,.inr ⟨ak,rfl,w0,by omega,fun b1 H1 s1 f1 hB1=>?_⟩⟩;ke_read;refine⟨l,b1,hs,.half 0 ak,n,rfl,s1 _ _ hL,hl,hB1,hin,nd,hf,hz,fun r2 H2 xs s2 f2 a2 hR2=>?_⟩;have a2':ay K H2 r2 ((xs.zip (tk n (.half 0 ak) hs)).map (·.1)):=by rw[hR2.fst];exact ay.of a2
 have zl:(xs.zip (tk n (.half 0 ak) hs)).length<sizeLine:=by
  rw[FC];have sz:(1000001:Nat)<sizeLine:=by decide
  exact lX (by omega) sz
 ke_read;refine aay (ps:=xs.zip (tk n (.half 0 ak) hs)) (fun r:Sn×Hd=>!decide (r.2=.din)) (fun z _=>z) a2' zl ?_ ?_ ?_
 ·intro z rr hm H3 s3 Q' hQ;obtain⟨_,rw1,bw,hw,rfl,w1,w2,w3⟩:=hR2.pair hm;have w1:=s3 _ _ w1;have w3:=s3 _ _ w3;ke_read;rintro p4 H4 ⟨f4,a4,s4,-⟩;refine T8 (by kqd_sub) (by kqd_sub) (qv _) (by k_go) ?_;rw[Ms];ke_read;exact hQ _ s4
 ·intro z rr hm c H3 s3 Q' hQ;ke_read;exact hQ _ (ah.refl _)
 intro r6 H6 s6 f6 a6;have s06:=s1.trans (s2.trans s6);exact q r6 H6 _ s06 ((s1.trans s2).free f6) a6 ((hR2.nl (bN.of s6)).filt)
theorem VU:∀a b:Nat,(a|||b)=(a ^^^ b)+(a&&&b):=by
 intro a
 induction a using O5 with
 |_ a ih=>
  intro b;by_cases ha:a=0
  ·subst ha;simp
  ·have h:=ih (a/2) (by omega) (b/2);have d1:(a|||b)/2=(a/2)|||(b/2):=Nat.or_div_two
   have d2:(a ^^^ b)/2=(a/2) ^^^ (b/2):=Nat.xor_div_two;have d3:(a&&&b)/2=(a/2)&&&(b/2):=Nat.and_div_two;have m1:(a|||b)%2=(a ^^^ b)%2+(a&&&b)%2:=by
    have t1:(a|||b)%2=(a%2)|||(b%2):=Nat.or_mod_two_pow (n:=1)
    have t2:(a ^^^ b)%2=(a%2) ^^^ (b%2):=Nat.xor_mod_two_pow (n:=1);have t3:(a&&&b)%2=(a%2)&&&(b%2):=Nat.and_mod_two_pow (n:=1);rw[t1,t2,t3];rcases O0 a with x|x<;>rcases O0 b with y|y<;>rw[x,y]<;>rfl
   omega
theorem ZK(a b:Nat):a ^^^ b=0↔a=b:=by
 constructor
 ·intro h;refine Nat.eq_of_testBit_eq fun i=>?_;have t:=Nat.testBit_xor a b i;rw[h,Nat.zero_testBit]at t;revert t;cases a.testBit i<;>cases b.testBit i<;>simp
 ·rintro rfl;exact O9 a
theorem G8(a b n:Nat):a >>> n=b >>> n↔a ^^^ b<2^n:=by
 have h:(a ^^^ b) >>> n=a >>> n ^^^ b >>> n:=Nat.shiftRight_xor_distrib;rw[←ZK,←h,O4,Nat.div_eq_zero_iff];have:=Nat.two_pow_pos n;constructor
 ·rintro(h|h)
  ·omega
  ·exact h
 ·exact vx
def Z0:Sp:=fun vs H Q _=>∃one other ak:Int,vs=[.int one,.int other,.int ak]∧Q (.int (ak-(cV (gc one other):Nat))) H
theorem Vy(T:Tx w K mg):aM P w K mg base ba 1 T.f_common_bits T.d_common_bits ["one","other","width"] (Z0):=by
 refine T.w8.F.ok aaV ?_ ?_;kj_on
 ·obtain⟨one,other,ak,rfl,_⟩:=h;rfl
 obtain⟨one,other,ak,rfl,q⟩:=h;refine⟨_,(ap (az (be kh (pv 2) (tQ Pd Fl Pe LD (be Sz (pv 0) (pv 1)))))),?_⟩;got_up
 first|done|exact q|exact⟨rfl,_,rfl,rfl,_,_,rfl,rfl,q⟩
theorem vU(a b:Nat):gc (a:Int) (b:Int)=((a ^^^ b:Nat):Int):=by
 unfold gc;rw[Qu,Nz];have:=VU a b;omega
theorem aa4(n:Nat):(n<2^cV (n:Int))∧(0<cV (n:Int)→¬n<2^(cV (n:Int)-1)):=by
 unfold cV;by_cases h:n=0
 ·subst h;simp
 ·have hz:¬((n:Int)==0)=true:=by simp;omega
  rw[if_neg hz,Oo];have h1:=OY (n:=n);have h2:=OW h;refine⟨h1,fun _=>?_⟩;rw[Nat.add_sub_cancel];omega
theorem acK{x y:Int}(hx:0≤x)(hy:0≤y):gc x y=gc y x:=by
 obtain⟨a,rfl⟩:=kJ hx;obtain⟨b,rfl⟩:=kJ hy;rw[vU,vU,Nat.xor_comm]
theorem zf(a n:Nat):(a:Int)/pw (n:Int)=((a >>> n:Nat):Int):=by
 rw[uS (by omega),mZ,O4];omega
theorem Yc{one other ak:Int}(w0:0≤ak)(x0:0≤one)(x1:one<pw ak)(y0:0≤other)(y1:other<pw ak):
  cV (gc other one)=cV (gc one other)∧((cV (gc one other):Nat):Int)≤ak∧
  one/pw ((cV (gc one other):Nat):Int)=other/pw ((cV (gc one other):Nat):Int)∧
  (0<((cV (gc one other):Nat):Int)→¬one/pw (((cV (gc one other):Nat):Int)-1)=other/pw (((cV (gc one other):Nat):Int)-1)):=by
 rw[acK y0 x0];obtain⟨a,rfl⟩:=kJ x0;obtain⟨b,rfl⟩:=kJ y0;rw[vU];obtain⟨h1,h2⟩:=aa4 (a ^^^ b);generalize hn:cV (((a ^^^ b:Nat)):Int)=n at h1 h2⊢;refine⟨rfl,?_,?_,fun hp=>?_⟩
 ·rw[uS w0]at x1 y1;have hx:a ^^^ b<2^ak.toNat:=Nat.xor_lt_two_pow (by omega) (by omega);by_cases hc:n≤ak.toNat
  ·omega
  ·have hle:2^ak.toNat≤2^(n-1):=O2 (by decide) (by omega);exact absurd (dq hx hle) (h2 (by omega))
 ·rw[zf,zf,(G8 a b n).mpr h1]
 ·have hp':0<n:=by omega
  rw[show((n:Int)-1)=((n-1:Nat):Int)by omega,zf,zf];intro h;exact h2 hp' ((G8 a b (n-1)).mp (by omega))
theorem S8(ns:List Int):j6 (ns.map V.int) (some 1) none=(ns.drop 1).map V.int:=by
 unfold j6;rw[show(some (1:Int))=some ((1:Nat):Int)from rfl,HT.BU,HT.Rc,←OI,←OL,bo];refine congrArg (OH V.int) ?_;cases ns with
 |nil=>rfl
 |cons a r=>
  rw[bI,show min 1 (r.length+1)=1 by omega,List.drop_succ_cons,Fu,pP (by omega)]
def qj(ak x y:Int):Int:=ak-(cV (gc x y):Nat)
def la(ak:Int)(ns:List Int):List Int:=pQ (qj ak) ns (ns.drop 1)
theorem TQ(ak:Int)(ns:List Int):(la ak ns).length≤ns.length:=by
 unfold la;rw[OG];omega
def Z1(K:aq):Sp:=fun vs H Q _=>∃(l:Addr) (ns:List Int) (ak:Int),vs=[.ref l,.int ak]∧ay K H l (ns.map V.int)∧ns.length≤900∧∀(r:Addr) (H':Hp),ah H H'→H r=none→H' r=some (.lst ((la ak ns).map V.int))→Q (.ref r) H'
theorem W9(T:Tx w K mg):aM P w K mg base ba 2 T.f_neighbours_common T.d_neighbours_common ["in_order","width"] (Z1 K):=by
 refine T.yY.F.ok aaP ?_ ?_;kj_on
 ·obtain⟨l,ns,ak,rfl,_⟩:=h;rfl
 obtain⟨l,ns,ak,rfl,hS,hl,q⟩:=h;refine⟨_,(ap (az (HQ (oN:=["in_order","width"]) (osc:=aB y8) (ow:=["one","other"]) (fr:=["width"]) (ix:=[1]) (by refine⟨rfl,?_,?_,?_,?_,?_,rfl,?_,?_⟩<;>decide +kernel) rfl rfl rfl (VZ (K:=K) rfl rfl T.aae (ae (pv 0) (ae (lj (KQ (K:=K) rfl) (pv 0) (kj aj) mU) af))) (fun _ _ _ _ _=>qm) (fun _ _ _ _ _=>(aX (Vy T) (hr.mono (by decide)) rfl T.w8.m T.w8.F.kp T.w8.b .nil aT (ae (pv 0) (ae (pv 1) (ae (pv 2) af))))) (fun _ _ _ _ _=>(KS (K:=K) (i:=0) (j:=1) rfl rfl (by k_go) rfl rfl (by k_go) (by k_go)))))),?_⟩;got_up;refine Md ?_;ke_read;rw[S8];rintro p1 H1 ⟨f1,a1,s1,-⟩;have hS1:=s1.seq hS;ke_read;refine⟨l,p1,rfl,⟨_,hS1⟩,⟨_,ay.of a1⟩,?_⟩;refine Ui (qj ak) hS1 (ay.of a1) (mw (by omega)) (fun x y p H' sm hp _=>⟨[some (.int x),some (.int y)],rfl,fun Q' hQ=>?_,fun Q' hQ=>?_⟩) (fun r H' sm fr hr=>q r H' (s1.trans sm) (s1.free fr) hr)
 ·exact Hy hp hQ
 ·show sH _ _ _ _ [some (.int x),some (.int y),some (.int ak)] H' Q';ke_read;exact⟨x,y,ak,rfl,hQ⟩
def iO:Int→List Int→Int
 |_,[]=>0
 |b,x::r=>(if 0>x-b then 0 else x-b)+iO x r
def Tc(K:aq):Sp:=fun vs H Q _=>∃(l:Addr) (ns:List Int),vs=[.ref l]∧ay K H l (ns.map V.int)∧Q (.int (iO (-1) ns)) H
theorem QZ(T:Tx w K mg):aM P w K mg base ba 1 T.f_dins_by_common T.d_dins_by_common ["common"] (Tc K):=by
 refine T.zw.F.ok qN ?_ ?_;kj_on
 ·obtain⟨l,ns,rfl,_⟩:=h;rfl
 obtain⟨l,ns,rfl,hS,q⟩:=h;refine⟨_,(ao (aW (i:=1) qN.nd rfl (by z_go) aj)
  (ao (aW (i:=2) qN.nd rfl (by z_go) (mK mo aj))
  (ao (uJ rJ rfl (kc (K:=K) rfl (pv 0)) (kW (i:=3) qN.nd rfl (by z_go))
  (ao (TF (i:=1) qN.nd rfl (by z_go) (bP (Rr rfl) rfl T.Q0 ZQ (ae (be kh (pv 3) (pv 2)) (ae aj af))) ZO)
  (ap (aW (i:=2) qN.nd rfl (by z_go) (pv 3)))))
  (ap (az (pv 1)))))),?_⟩
 got_up;refine DU (K:=K) (a:=l) (xs:=ns.map V.int) (fun i σ H3=>∃(count before:Int) (o:Option V),σ=[some (.ref l),some (.int count),some (.int before),o]∧H3=H∧count+iO before (ns.drop i)=iO (-1) ns)
  ⟨0,-1,none,rfl,rfl,by rw[Fu,zZ]⟩ (fun i σ H3 _ ⟨_,_,_,_,e,_⟩=>by rw[e];exact hS) ?_ ?_
 ·rintro i x σ H3 hi ⟨count,before,o,rfl,rfl,hc⟩;have hi':i<ns.length:=by
   have:=(gO.mp hi).1
   rwa [bo]at this
  have hx:x=.int ns[i]:=by
   rw[iC,cL hi']at hi;injection hi with hi;exact hi.symm
  subst hx;rw[z8 hi']at hc;replace hc:count+((if 0>ns[i]-before then 0 else ns[i]-before)+iO ns[i] (ns.drop (i+1)))=iO (-1) ns:=hc;ke_read;refine RM rfl ?_;ke_read;refine RF ?_;ke_read;exact⟨_,_,_,rfl,rfl,by omega⟩
 ·rintro σ H3 ⟨count,before,o,rfl,rfl,hc⟩;rw[bo,List.drop_length]at hc;replace hc:count+0=iO (-1) ns:=hc;have e:count=iO (-1) ns:=by omega
  subst e;ke_read
  first|done|exact q
theorem Um{ak x y:Int}(w0:0≤ak)(x0:0≤x)(x1:x<pw ak)(y0:0≤y)(y1:y<pw ak)(ne:x≠y):0≤qj ak x y∧qj ak x y<ak:=by
 obtain⟨_,b1,b2,_⟩:=Yc w0 x0 x1 y0 y1;unfold qj;have:¬((cV (gc x y):Nat):Int)=0:=fun z=>by
  rw[z]at b2;have p0:pw 0=1:=rfl;rw[p0,Og,Og]at b2;exact ne b2
 omega
def xQ(W:Nat)(hs:List Int)(d:Int):Prop:=∃ns:List Int,ns.Perm hs∧ns.Pairwise (·≤·)∧d=iO (-1) (la (W:Int) ns)
def Qz(K:aq):Sp:=fun vs H Q _=>∃(l:Addr) (hs:List Int) (W:Nat),vs=[.ref l,.int (W:Int)]∧ay K H l (hs.map V.int)∧hs.length<64∧W≤200∧iw (.half 0 (W:Int)) hs∧
 ∀d H',ah H H'→xQ W hs d→Q (.int d) H'
theorem Zw(T:Tx w K mg):aM P w K mg base ba 6 T.f_dins T.d_dins ["hands","width"] (Qz K):=by
 refine T.we.F.ok YX ?_ ?_;kj_on
 ·obtain⟨l,hs,W,rfl,_⟩:=h;rfl
 obtain⟨l,hs,W,rfl,hS,hl,w1,og,q⟩:=h;refine⟨_,(ao (dB (aX (Dt T) (hr.mono (by decide)) rfl T.iU.m T.iU.F.kp T.iU.b .nil iJ (ae (pv 0) (ae (aX (yN T) (hr.mono (by decide)) rfl T.iR.m T.iR.F.kp T.iR.b .nil aT (ae (pv 1) af)) af))))
  (ap (az (aX (QZ T) (hr.mono (by decide)) rfl T.zw.m T.zw.F.kp T.zw.b .nil aT (ae (aX (W9 T) (hr.mono (by decide)) rfl T.yY.m T.yY.F.kp T.yY.b .nil aT (ae (bP (Vg (K:=K) rfl) rfl T.aaT Wg (ae (pv 0) af)) (ae (pv 1) af))) af))))),?_⟩
 got_up;refine⟨_,rfl,.inr ⟨(W:Int),rfl,by omega,by omega,fun b1 H1 s1 f1 hB1=>?_⟩⟩;have hS1:=s1.seq hS;ke_read;refine⟨l,b1,hs,.half 0 (W:Int),rfl,hS1,by omega,hB1,og.1,og.2,fun H2 s2=>?_⟩;have hS2:=s2.seq hS1;ke_read;refine Uc hS2 hl fun ns p3 H3 pm pw3 nw3=>?_;have a3:=nw3.at_;have s3:=nw3.same;ke_read;refine⟨p3,ns,(W:Int),rfl,ay.of a3,by rw[pm.length_eq];omega,fun r4 H4 s4 f4 a4=>?_⟩;ke_read;refine⟨r4,_,rfl,ay.of a4,?_⟩;exact q _ H4 (by ke_reads) ⟨ns,pm,pw3,rfl⟩
def abJ(K:aq):Sp:=fun vs H Q _=>∃(l:Addr) (hs:List Int) (W:Nat),vs=[.ref l,.int (W:Int)]∧ay K H l (hs.map V.int)∧hs.length<64∧W≤200∧iw (.half 0 (W:Int)) hs∧
 ∀d H',ah H H'→xQ W hs d→Q (.int (2*d+1)) H'
theorem QN(T:Tx w K mg):aM P w K mg base ba 7 T.f_turns T.d_turns ["hands","width"] (abJ K):=by
 refine T.wy.F.ok VB ?_ ?_;kj_on
 ·obtain⟨l,hs,W,rfl,_⟩:=h;rfl
 obtain⟨l,hs,W,rfl,hS,hl,w1,og,q⟩:=h;refine⟨_,(ap (az (be mj (be Z6 aj (aX (Zw T) (hr.mono (by decide)) rfl T.we.m T.we.F.kp T.we.b .nil aT (ae (pv 0) (ae (pv 1) af)))) aj))),?_⟩;got_up;refine⟨l,hs,W,rfl,hS,hl,w1,og,fun d H1 s1 hd=>?_⟩;have cg:NA 2 d:=.inr ⟨by decide,by decide⟩;ke_read;exact q d H1 s1 hd
def cr(sd:Bool)(s:Sn):Sn:=if sd=true then cU s else cx s
def ik(sd:Bool)(s:Sn):Sn:=if sd=true then cx s else cU s
def sk(sd:Bool)(hs:List Int):Nat→Sn→List (Sn×Hd)
 | 0,_=>[]
 |n+1,s=>(cr sd s,aV (am (cr sd s)) hs)::(match aV (am (cr sd s)) hs with
  |.word _=>[]
  |.hush=>sk sd hs n (ik sd s)
  |.din=>sk sd hs n (cr sd s))
def gT(sd:Bool)(hs:List Int):Nat→Sn→Int
 | 0,_=>0
 |n+1,s=>match aV (am (cr sd s)) hs with
  |.word k=>k
  |.hush=>gT sd hs n (ik sd s)
  |.din=>gT sd hs n (cr sd s)
def jc(sd:Bool)(hs:List Int)(n:Nat)(s:Sn):List (Sn×Hd):=(s,aV (am s) hs)::(if aV (am s) hs=.din then sk sd hs n s else[])
theorem A4(sd:Bool)(hs:List Int):∀(n:Nat) (s:Sn),(sk sd hs n s).length≤n
 | 0,_=>bv _
 |n+1,s=>by
  have h1:=A4 sd hs n (ik sd s);have h2:=A4 sd hs n (cr sd s);show((_:Sn×Hd)::(match aV (am (cr sd s)) hs with | .word _=>[] | .hush=>_ | .din=>_)).length≤_;rw[bI];split
  ·exact O6 (fe _)
  ·omega
  ·omega
theorem M0(sd:Bool)(hs:List Int)(n:Nat)(s:Sn):(jc sd hs n s).length≤n+1:=by
 have h:=A4 sd hs n s;unfold jc;rw[bI];split
 ·omega
 ·exact O6 (fe _)
theorem Ee{fs:List Int}:jd fs=.hush↔fs=[]:=by
 rcases fs with _|⟨x,_|⟨y,bO⟩⟩<;>simp[jd]
theorem JC{fs:List Int}{k:Int}:jd fs=.word k↔fs=[k]:=by
 rcases fs with _|⟨x,_|⟨y,bO⟩⟩<;>simp[jd]
theorem qi(sd:Bool)(low b:Int):cr sd (.half low b)=.half (if sd=true then low+1*pw (b-1)else low) (b-1):=by
 cases sd<;>rfl
theorem qL(sd:Bool)(low b:Int):ik sd (.half low b)=.half (if sd=true then low else low+1*pw (b-1)) (b-1):=by
 cases sd<;>rfl
theorem D4{sd:Bool}{low b x:Int}(hb:1≤b):am (.half low b) x=(am (cr sd (.half low b)) x||am (ik sd (.half low b)) x):=by
 have e:=lc hb;have p:=fZ (b-1);have key:(decide (low≤x∧x<low+pw b))=(decide (low≤x∧x<low+pw (b-1))||decide (low+1*pw (b-1)≤x∧x<low+1*pw (b-1)+pw (b-1))):=by
  rw[←Bool.decide_or];exact decide_eq_decide.mpr (by omega)
 cases sd
 ·exact key
 ·rw[show am (.half low b) x=decide (low≤x∧x<low+pw b)from rfl,key,Bool.or_comm];rfl
theorem Lf{sd:Bool}{low b:Int}{hs:List Int}(hb:1≤b)(h:hs.filter (am (cr sd (.half low b)))=[]):hs.filter (am (ik sd (.half low b)))=hs.filter (am (.half low b)):=by
 refine Aa fun x hx=>?_;have hn:am (cr sd (.half low b)) x=false:=by
  rw[List.filter_eq_nil_iff]at h;exact N0.mpr (h x hx)
 rw[D4 (sd:=sd) hb,hn,E8]
theorem acj{sd:Bool}{low b:Int}{hs:List Int}(hb:1≤b):(hs.filter (am (.half low b))).filter (am (cr sd (.half low b)))=hs.filter (am (cr sd (.half low b))):=by
 rw[Ox];refine Aa fun x hx=>?_;rw[D4 (sd:=sd) hb];cases am (cr sd (.half low b)) x<;>simp
theorem BP{low b:Int}{hs:List Int}(nd:hs.Nodup)(b0:0≤b)(h:aV (am (.half low b)) hs=.din):1≤b:=by
 by_cases z:1≤b
 ·exact z
 ·exfalso;have:b=0:=by omega
  subst this;obtain⟨x,y,ne,hx,hy,_,_⟩:=B6 nd h;have p0:pw 0=1:=rfl;have hx':=of_decide_eq_true hx;have hy':=of_decide_eq_true hy;omega
def tY(sd:Bool)(a b:Int):Prop:=if sd=true then b≤a else a≤b
theorem Gv{sd:Bool}{low b x y:Int}(hx:am (cr sd (.half low b)) x=true)(hy:am (ik sd (.half low b)) y=true):tY sd x y:=by
 have p:=fZ (b-1);cases sd
 ·have h':low≤x∧x<low+pw (b-1):=of_decide_eq_true hx;have h2:low+1*pw (b-1)≤y∧y<low+1*pw (b-1)+pw (b-1):=of_decide_eq_true hy;show x≤y;omega
 ·have h':low+1*pw (b-1)≤x∧x<low+1*pw (b-1)+pw (b-1):=of_decide_eq_true hx;have h2:low≤y∧y<low+pw (b-1):=of_decide_eq_true hy;show y≤x;omega
theorem Et(sd:Bool){hs:List Int}(nd:hs.Nodup):∀(n:Nat) (low b:Int),0≤b→b≤n→aV (am (.half low b)) hs=.din→
  gT sd hs n (.half low b)∈hs.filter (am (.half low b))∧∀x∈hs.filter (am (.half low b)),tY sd (gT sd hs n (.half low b)) x
 | 0,low,b,b0,b1,hd=>by have:=BP nd b0 hd;omega
 |n+1,low,b,b0,b1,hd=>by
  have hb:=BP nd b0 hd;show(match aV (am (cr sd (.half low b))) hs with | .word k=>k | .hush=>gT sd hs n (ik sd (.half low b)) | .din=>gT sd hs n (cr sd (.half low b)))∈_∧∀x∈_,tY sd (match aV (am (cr sd (.half low b))) hs with | .word k=>k | .hush=>gT sd hs n (ik sd (.half low b)) | .din=>gT sd hs n (cr sd (.half low b))) x;have inS:∀{x:Int},x∈hs.filter (am (cr sd (.half low b)))→x∈hs.filter (am (.half low b)):=fun{x} hx=>by
   rw[←acj hb]at hx;exact(eQ.mp hx).1
  have alt:∀{x:Int},x∈hs.filter (am (.half low b))→x∈hs.filter (am (cr sd (.half low b)))∨am (ik sd (.half low b)) x=true:=fun{x} hx=>by
   obtain⟨h1,h2⟩:=eQ.mp hx;rw[D4 (sd:=sd) hb,zO]at h2;rcases h2 with h2|h2
   ·exact .inl (eQ.mpr ⟨h1,h2⟩)
   ·exact .inr h2
  rcases hh:aV (am (cr sd (.half low b))) hs with _|k|_
  ·have hf:=Lf hb (Ee.mp hh);have hd':aV (am (ik sd (.half low b))) hs=.din:=by unfold aV;rw[hf];exact hd
   have ih:=Et sd nd n (if sd=true then low else low+1*pw (b-1)) (b-1) (by omega) (by omega) (by rw[←qL];exact hd');rw[←qL,hf]at ih;exact ih
  ·have hk:=JC.mp hh;have mk:k∈hs.filter (am (cr sd (.half low b))):=by rw[hk];exact .head _
   refine⟨inS mk,fun x hx=>?_⟩;show tY sd k x;rcases alt hx with h|h
   ·rw[hk,dS]at h;subst h;cases sd<;>exact vi _
   ·exact Gv (eQ.mp mk).2 h
  ·have ih:=Et sd nd n (if sd=true then low+1*pw (b-1)else low) (b-1) (by omega) (by omega) (by rw[←qi];exact hh);rw[←qi]at ih;refine⟨inS ih.1,fun x hx=>?_⟩;rcases alt hx with h|h
   ·exact ih.2 x h
   ·exact Gv (eQ.mp ih.1).2 h
def iy(sd:Bool)(hs:List Int)(n:Nat)(s:Sn):V:=
 match aV (am s) hs with
 |.hush=>.non
 |.word k=>.int k
 |.din=>.int (gT sd hs n s)
theorem Tz(sd:Bool){hs:List Int}(nd:hs.Nodup){n:Nat}{low b:Int}(b0:0≤b)(b1:b≤n)(hin:∀h∈hs,am (.half low b) h=true)(ne:hs≠[]):∃m:Int,iy sd hs n (.half low b)=.int m∧m∈hs∧∀x∈hs,tY sd m x:=by
 have ef:hs.filter (am (.half low b))=hs:=vn.mpr hin;unfold iy;rcases hh:aV (am (.half low b)) hs with _|k|_
 ·exact absurd (ef▸Ee.mp hh) ne
 ·have hk:=JC.mp hh;rw[ef]at hk;subst hk;refine⟨k,rfl,.head _,fun x hx=>?_⟩;rw[dS]at hx;subst hx;cases sd<;>exact vi _
 ·have h:=Et sd nd n low b b0 b1 hh;rw[ef]at h;exact⟨_,rfl,h⟩
def qr(sd:Bool):Int:=if sd=true then 1 else 0
abbrev zn(C CO l bk:Addr)(ak:Int)(sd:Bool)(hs:List Int)(H:Hp):Nat→List (Option V)→Hp→Prop:=fun m σ H7=>∃(n:Nat) (low b:Int) (d:Hd) (bs:List V) (rs:List (Sn×Hd)) (b7 a7:Addr) (o6 o7:Option V),σ=[some (.ref l),some (.int ak),some (.int (qr sd)),some (.ref b7),some (.ref a7),some (.ref bk),o6,o7]∧ah H H7∧
  H7 bk=some (.lst bs)∧bJ C CO H7 bs rs∧H7 a7=some (.tup (dD d))∧rs.length+n≤900∧m=n∧
  ((∃k,d=.word k∧rs=jc sd hs ak.toNat (.half 0 ak)∧iy sd hs ak.toNat (.half 0 ak)=.int k)∨
   ((∀k,d≠.word k)∧bg C CO H7 b7 (.half low b)∧0≤b∧b≤n∧aV (am (.half low b)) hs=.din∧rs++sk sd hs n (.half low b)=jc sd hs ak.toNat (.half 0 ak)∧iy sd hs ak.toNat (.half 0 ak)=.int (gT sd hs n (.half low b))))
@[elab_as_elim] theorem zn.elim {C CO l bk:Addr} {ak:Int} {sd:Bool} {hs:List Int} {H H7:Hp} {m:Nat} {σ : List (Option V)} {G:Nat→List (Option V)→Prop} (h:zn C CO l bk ak sd hs H m σ H7)
  (k1:∀(bs:List V) (rs:List (Sn×Hd)) (b7 a7:Addr) (o6 o7:Option V) (k:Int) (m:Nat),ah H H7→H7 bk=some (.lst bs)→bJ C CO H7 bs rs→H7 a7=some (.tup [.str "word",.int k])→rs.length+m≤900→rs=jc sd hs ak.toNat (.half 0 ak)→iy sd hs ak.toNat (.half 0 ak)=.int k→
   G m [some (.ref l),some (.int ak),some (.int (qr sd)),some (.ref b7),some (.ref a7),some (.ref bk),o6,o7])
  (k2:∀(m:Nat) (low b:Int) (d:Hd) (bs:List V) (rs:List (Sn×Hd)) (b7 a7:Addr) (o6 o7:Option V),ah H H7→H7 bk=some (.lst bs)→bJ C CO H7 bs rs→H7 a7=some (.tup (dD d))→rs.length+m≤900→(∀k,d≠.word k)→bg C CO H7 b7 (.half low b)→0≤b→b≤(m:Int)→
   aV (am (.half low b)) hs=.din→rs++sk sd hs m (.half low b)=jc sd hs ak.toNat (.half 0 ak)→iy sd hs ak.toNat (.half 0 ak)=.int (gT sd hs m (.half low b))→
   G m [some (.ref l),some (.int ak),some (.int (qr sd)),some (.ref b7),some (.ref a7),some (.ref bk),o6,o7]):G m σ:=by
 obtain⟨n,low,b,d,bs,rs,b7,a7,o6,o7,rfl,s7,hb7,hR7,ha7,hn,rfl,alt⟩:=h;rcases alt with⟨k,rfl,eR,eV⟩|⟨nw,hB7,b0,bn,hd,eR,eV⟩
 ·exact k1 bs rs b7 a7 o6 o7 k m s7 hb7 hR7 ha7 hn eR eV
 ·exact k2 m low b d bs rs b7 a7 o6 o7 s7 hb7 hR7 ha7 hn nw hB7 b0 bn hd eR eV
def aax(C CO:Addr):Sp:=fun vs H Q _=>∃(l:Addr) (hs:List Int) (ak:Int) (sd:Bool),vs=[.ref l,.int ak,.int (qr sd)]∧H l=some (.lst (hs.map V.int))∧hs.length≤900∧0≤ak∧ak≤200∧hs.Nodup∧(∀h∈hs,0≤h∧h<pw ak)∧
 ∀(r bk:Addr) (H':Hp) (xs:List V),ah H H'→H r=none→H bk=none→H' r=some (.tup [iy sd hs ak.toNat (.half 0 ak),.ref bk])→H' bk=some (.lst xs)→bJ C CO H' xs (jc sd hs ak.toNat (.half 0 ak))→Q (.ref r) H'
theorem Kc(T:Tx w K mg):aM P w K mg base ba 6 T.f_seek T.d_seek ["hands","width","side"] (aax T.C_Half T.C_Open):=by
 refine T.nZ.F.ok mH ?_ ?_;kj_on
 ·obtain⟨l,hs,ak,sd,rfl,_⟩:=h;rfl
 obtain⟨l,hs,ak,sd,rfl,hL,hl,w0,w1,nd,rg,q⟩:=h;have hin:∀h∈hs,am (.half 0 ak) h=true:=fun h hh=>decide_eq_true (by have:=rg h hh;omega);refine⟨_,(ao (aW (i:=3) mH.nd rfl (by z_go) (aX (yN T) (hr.mono (by decide)) rfl T.iR.m T.iR.F.kp T.iR.b .nil aT (ae (pv 1) af)))
  (ao (dB (aX (Dt T) (hr.mono (by decide)) rfl T.iU.m T.iU.F.kp T.iU.b .nil iJ (ae (pv 0) (ae (pv 3) af))))
  (ao (aW (i:=4) mH.nd rfl (by z_go) (aX (CW T) (hr.mono (by decide)) rfl T.j8.m T.j8.F.kp T.j8.b .nil aT (ae (pv 0) (ae (pv 3) af))))
  (ao (aW (i:=5) mH.nd rfl (by z_go) (bQ (ae (cK (ae (pv 3) (ae (pv 4) af))) af)))
  (ao (aQ (aO (pG (K:=K) rfl hr.units) (pv 4) (cK (ae ai af)) (aD _)) (ap (az (cK (ae ie (ae (pv 5) af))))) aS)
  (ao (Hr rJ (aO lG (aI (bR (K:=K) rfl) (pv 4) aj (fun _ _=>rfl)) ai (aD _)) (ao (aW (i:=6) mH.nd rfl (by z_go) (zD (P:=P) (w:=w) (K:=K) (mg:=mg) (base:=base) (k:=5) (CX:=ba) (E:=E0) rfl rfl rfl rfl rfl (pv 3) (hr.mono (by decide)) aT))
  (ao (aW (i:=7) mH.nd rfl (by z_go) (aI (bR (K:=K) rfl) (pv 6) (pv 2) (fun _ _=>rfl)))
  (ao (aW (i:=4) mH.nd rfl (by z_go) (aX (CW T) (hr.mono (by decide)) rfl T.j8.m T.j8.F.kp T.j8.b .nil aT (ae (pv 0) (ae (pv 7) af))))
  (ao (dB ((c8 ff gz gQ fP (pv 5) (ae (cK (ae (pv 7) (ae (pv 4) af))) af))))
  (ap (aW (i:=3) mH.nd rfl (by z_go) (xx (aO (pG (K:=K) rfl hr.units) (pv 4) (cK (ae ai af)) (aD _)) (aI (bR (K:=K) rfl) (pv 6) (be kh aj (pv 2)) (fun _ _=>rfl)) (pv 7)))))))))
  (ap (az (cK (ae (aI (bR (K:=K) rfl) (pv 4) aj (fun _ _=>rfl)) (ae (pv 5) af))))))))))),?_⟩
 got_up;refine⟨.int ak,rfl,.inr ⟨ak,rfl,w0,by omega,fun b1 H1 s1 f1 hB1=>?_⟩⟩;ke_read;refine⟨l,b1,hs,.half 0 ak,rfl,ay.of (s1 _ _ hL),hl,hB1,hin,nd,fun H2 s2=>?_⟩;have hL2:=s2 _ _ (s1 _ _ hL);have hB2:=hB1.keep s2;ke_read;refine⟨l,b1,hs,.half 0 ak,rfl,ay.of hL2,hl,hB2,fun a3 H3 s3 f3 h3=>?_⟩;ke_read;rintro p4 H4 ⟨f4,a4,s4,-⟩;ke_read;rintro bk H5 ⟨f5,a5,s5,-⟩;ke_read;rintro p6 H6 ⟨f6,a6,s6,-⟩;have s06:ah H H6:=s1.trans (s2.trans (s3.trans (s4.trans (s5.trans s6))));have fb:H bk=none:=(s1.trans (s2.trans (s3.trans s4))).free f5;have hB6:bg T.C_Half T.C_Open H6 b1 (.half 0 ak):=hB2.keep (s3.trans (s4.trans (s5.trans s6)));have h36:=(s4.trans (s5.trans s6)) _ _ h3;have hb6:=s6 _ _ a5;have hR6:bJ T.C_Half T.C_Open H6 [.ref p4] [(.half 0 ak,aV (am (.half 0 ak)) hs)]:=.cons ⟨p4,b1,a3,rfl,(s5.trans s6) _ _ a4,hB6,h36⟩ .nil;have hL6:=s06 _ _ hL;refine tW (by kqd_sub) (by kqd_sub) (qv _) (by k_go) ?_;rw[EE];ke_read;refine cG (fun c=>?_) (fun c=>?_)
 ·ke_read;rintro r7 H7 ⟨f7,a7,s7,-⟩;ke_read;refine q r7 bk H7 [.ref p4] (s06.trans s7) (s06.free f7) fb ?_ (s7 _ _ hb6) ?_
  ·rw[a7];unfold iy;rw[c]
  ·unfold jc;rw[if_neg (by rw[c];exact fun z=>nomatch z)];exact hR6.nl (bN.of s7)
 ke_read;refine⟨zn T.C_Half T.C_Open l bk ak sd hs H,
  ⟨_,ak.toNat,0,ak,aV (am (.half 0 ak)) hs,[.ref p4],_,b1,a3,none,none,rfl,s06,hb6,hR6,h36,(by show 1+_≤900;omega),rfl,?_⟩,?_⟩
 ·rcases hh:aV (am (.half 0 ak)) hs with _|k|_
  ·exact absurd hh c
  ·refine .inl ⟨k,rfl,?_,?_⟩
   ·unfold jc;rw[hh,if_neg (fun z=>nomatch z)]
   ·unfold iy;rw[hh]
  ·refine .inr ⟨fun k z=>(nomatch z),hB6,w0,by omega,(by first|exact hh|rfl),?_,?_⟩
   ·unfold jc;rw[hh,if_pos rfl];rfl
   ·unfold iy;rw[hh]
 intro m σ H7 hI;refine zn.elim hI (fun bs rs b7 a7 o6 o7 k m s7 hb7 hR7 ha7 hn eR eV=>?_) (fun m low b d bs rs b7 a7 o6 o7 s7 hb7 hR7 ha7 hn nw hB7 b0 bn hd eR eV=>?_)
 ·ke_read;rintro r8 H8 ⟨f8,a8,s8,-⟩;ke_read;subst eR;exact q r8 bk H8 bs (s7.trans s8) (s7.free f8) fb (by rw[a8,eV]) (s8 _ _ hb7) (hR7.nl (bN.of s8))
 ·have hb1:=BP nd b0 hd;have hbl:=hR7.len;have szb:bs.length<sizeLine:=mw (by omega);have hL7:=s7 _ _ hL;cases m with
  |zero=>omega
  |succ n=>
  have go:¬(("hush" : Str)="word")∧¬(("din" : Str)="word"):=⟨by k_go,by k_go⟩;obtain⟨x0,ex0,hx0⟩:∃x:Str,cw (dD d) 0=some (.str x)∧¬x="word":=by
   cases d with
   |hush=>exact⟨"hush",rfl,go.1⟩
   |word k=>exact absurd rfl (nw k)
   |din=>exact⟨"din",rfl,go.2⟩
  ke_read;refine⟨_,fun σ' H' h=>h,?_⟩;ke_read;refine J0 hB7 (show jl (.half low b)from hb1) fun r8 p8 q8 H8 s8 a8 aL aU=>?_;have hb8:=s8 _ _ hb7;have hL8:=s8 _ _ hL7;obtain⟨pn,pf,en,ef,aN,aF⟩:∃pn pf:Addr,cw [V.ref p8,V.ref q8] (qr sd)=some (V.ref pn)∧cw [V.ref p8,V.ref q8] (1-qr sd)=some (V.ref pf)∧bg T.C_Half T.C_Open H8 pn (cr sd (.half low b))∧bg T.C_Half T.C_Open H8 pf (ik sd (.half low b)):=by
   cases sd
   ·exact⟨p8,q8,rfl,rfl,aL,aU⟩
   ·exact⟨q8,p8,rfl,rfl,aU,aL⟩
  ke_read;refine⟨l,pn,hs,cr sd (.half low b),rfl,ay.of hL8,hl,aN,fun a9 H9 s9 f9 h9=>?_⟩;ke_read;rintro p10 H10 ⟨f10,a10,s10,-⟩;have hb10:=(s9.trans s10) _ _ hb8;ke_read;intro H11 p11;have k11:=bN.put hb10 p11;have s11:ah H H11:=p11.same (s7.trans (s8.trans (s9.trans s10))) fb;have k711:bN H8 H11:=(bN.of (s9.trans s10)).trans k11;have aN11:=aN.nl k711;have aF11:=aF.nl k711;have h9':=k11 _ _ (by intro ys z;cases z) (s10 _ _ h9);have a10':=k11 _ _ (by intro ys z;cases z) a10;have a8':=k711 _ _ (by intro ys z;cases z) a8;have hR11:bJ T.C_Half T.C_Open H11 (bs++[.ref p10]) (rs++[(cr sd (.half low b),aV (am (cr sd (.half low b))) hs)]):=((hR7.nl (bN.of s8)).nl k711).snoc ⟨p10,pn,a9,rfl,a10',aN11,h9'⟩;have hb11:=p11.at_;ke_read;rintro p12 H12 ⟨f12,a12,s12,-⟩;refine tW (by kqd_sub) (by kqd_sub) (qv _) (by k_go) ?_;rw[EE];have s112:=s11.trans s12;have hb12:=s12 _ _ hb11;have hR12:=hR11.nl (bN.of s12);have h912:=s12 _ _ h9';have a812:=s12 _ _ a8';have hrl:(rs++[(cr sd (.half low b),aV (am (cr sd (.half low b))) hs)]).length+n≤900:=by rw[dm];show rs.length+1+n≤900;omega
  have eS:sk sd hs (n+1) (.half low b)=(cr sd (.half low b),aV (am (cr sd (.half low b))) hs)::(match aV (am (cr sd (.half low b))) hs with | .word _=>[] | .hush=>sk sd hs n (ik sd (.half low b)) | .din=>sk sd hs n (cr sd (.half low b))):=rfl;have eW:gT sd hs (n+1) (.half low b)=(match aV (am (cr sd (.half low b))) hs with | .word k=>k | .hush=>gT sd hs n (ik sd (.half low b)) | .din=>gT sd hs n (cr sd (.half low b))):=rfl;ke_read;refine cG (fun c1=>?_) (fun c1=>?_)
  ·ke_read;rw[c1]at h912 hR12 hrl eS eW;have hf:=Lf hb1 (Ee.mp c1);refine⟨n,pS n,n,if sd=true then low else low+1*pw (b-1),b-1,.hush,_,_,pf,a9,_,_,rfl,s112,hb12,hR12,h912,hrl,rfl,.inr ⟨fun k z=>(nomatch z),?_,by omega,by omega,?_,?_,?_⟩⟩
   ·rw[←qL];exact aF11.keep s12
   ·rw[←qL];unfold aV;rw[hf];exact hd
   ·rw[←qL,←eR,eS,jP];rfl
   ·rw[←qL,eV,eW]
  ·ke_read;rcases hh:aV (am (cr sd (.half low b))) hs with _|k|_
   ·exact absurd hh c1
   ·rw[hh]at h912 hR12 hrl eS eW;refine⟨n,pS n,n,low,b,.word k,_,_,pn,a9,_,_,rfl,s112,hb12,hR12,h912,hrl,rfl,.inl ⟨k,rfl,?_,?_⟩⟩
    ·rw[←eR,eS]
    ·rw[eV,eW]
   ·rw[hh]at h912 hR12 hrl eS eW;refine⟨n,pS n,n,if sd=true then low+1*pw (b-1)else low,b-1,.din,_,_,pn,a9,_,_,rfl,s112,hb12,hR12,h912,hrl,rfl,.inr ⟨fun k z=>(nomatch z),?_,by omega,by omega,?_,?_,?_⟩⟩
    ·rw[←qi];exact aN11.keep s12
    ·rw[←qi];exact hh
    ·rw[←qi,←eR,eS,jP];rfl
    ·rw[←qi,eV,eW]
def UF(C CO:Addr):Sp:=fun vs H Q _=>∃(l:Addr) (hs:List Int) (ak:Int),vs=[.ref l,.int ak]∧H l=some (.lst (hs.map V.int))∧hs.length≤900∧0≤ak∧ak≤200∧hs.Nodup∧(∀h∈hs,0≤h∧h<pw ak)∧
 ∀(r bk:Addr) (H':Hp) (xs:List V),ah H H'→H r=none→H bk=none→H' r=some (.tup [iy false hs ak.toNat (.half 0 ak),.ref bk])→H' bk=some (.lst xs)→bJ C CO H' xs (jc false hs ak.toNat (.half 0 ak))→Q (.ref r) H'
theorem TV(T:Tx w K mg):aM P w K mg base ba 7 T.f_least T.d_least ["hands","width"] (UF T.C_Half T.C_Open):=by
 refine T.zH.F.ok Va ?_ ?_;kj_on
 ·obtain⟨l,hs,ak,rfl,_⟩:=h;rfl
 obtain⟨l,hs,ak,rfl,hL,hl,w0,w1,nd,rg,q⟩:=h;refine⟨_,(ap (az (aX (Kc T) (hr.mono (by decide)) rfl T.nZ.m T.nZ.F.kp T.nZ.b .nil aT (ae (pv 0) (ae (pv 1) (ae aj af)))))),?_⟩;got_up;exact⟨l,hs,ak,false,rfl,hL,hl,w0,w1,nd,rg,q⟩
def aaQ(C CO:Addr):Sp:=fun vs H Q _=>∃(l:Addr) (hs:List Int) (ak:Int),vs=[.ref l,.int ak]∧H l=some (.lst (hs.map V.int))∧hs.length≤900∧0≤ak∧ak≤200∧hs.Nodup∧(∀h∈hs,0≤h∧h<pw ak)∧
 ∀(r bk:Addr) (H':Hp) (xs:List V),ah H H'→H r=none→H bk=none→H' r=some (.tup [iy true hs ak.toNat (.half 0 ak),.ref bk])→H' bk=some (.lst xs)→bJ C CO H' xs (jc true hs ak.toNat (.half 0 ak))→Q (.ref r) H'
theorem aa5(T:Tx w K mg):aM P w K mg base ba 7 T.f_greatest T.d_greatest ["hands","width"] (aaQ T.C_Half T.C_Open):=by
 refine T.xL.F.ok UB ?_ ?_;kj_on
 ·obtain⟨l,hs,ak,rfl,_⟩:=h;rfl
 obtain⟨l,hs,ak,rfl,hL,hl,w0,w1,nd,rg,q⟩:=h;refine⟨_,(ap (az (aX (Kc T) (hr.mono (by decide)) rfl T.nZ.m T.nZ.F.kp T.nZ.b .nil aT (ae (pv 0) (ae (pv 1) (ae aj af)))))),?_⟩;got_up;exact⟨l,hs,ak,true,rfl,hL,hl,w0,w1,nd,rg,q⟩
def fF:Hd→Int
 |.hush=>0
 |.word _=>1
 |.din=>2
def gX:Sn→Int
 |.half _ b=>if b=0 then 1 else 2
 |.opn _=>2
structure Cl where
 s:Sn
 m:Int
 f:Bool
def oS(C CO:Addr)(H:Hp)(x:V)(c:Cl):Prop:=∃r b,x=.ref r∧H r=some (.tup [.ref b,.int c.m,.bl c.f])∧bg C CO H b c.s
theorem oS.nl{C CO:Addr}{H H':Hp}{x:V}{c:Cl}(k:bN H H'):oS C CO H x c→oS C CO H' x c:=by
 rintro⟨r,b,e,h1,h2⟩;exact⟨r,b,e,k _ _ (by intro ys z;cases z) h1,h2.nl k⟩
inductive jf(C CO:Addr)(H:Hp):List V→List Cl→Prop
 |nil:jf C CO H [] []
 |cons {x:V} {c:Cl} {xs:List V} {cs:List Cl} (h:oS C CO H x c) (t:jf C CO H xs cs):jf C CO H (x::xs) (c::cs)
theorem jf.nl{C CO:Addr}{H H':Hp}(k:bN H H'){xs:List V}{cs:List Cl}(h:jf C CO H xs cs):jf C CO H' xs cs:=by
 induction h with
 |nil=>exact .nil
 |cons a _ ih=>exact .cons (a.nl k) ih
theorem jf.len{C CO:Addr}{H:Hp}{xs:List V}{cs:List Cl}(h:jf C CO H xs cs):xs.length=cs.length:=by
 induction h with
 |nil=>rfl
 |cons a _ ih=>rw[bI,bI,ih]
def Ve:Hd→Bool
 |.word _=>true
 |_=>false
theorem Lb{d:Hd}:∃k:Str,cw (dD d) 0=some (.str k)∧iZ k [(("hush" : Str),(0:Int)),("word",1),("din",2)]=some (fF d)∧decide (k="word")=Ve d:=by
 cases d with
 |hush=>exact⟨"hush",rfl,by k_go,by k_go⟩
 |word n=>exact⟨"word",rfl,(by show iZ ("word" : Str) [(("hush" : Str),(0:Int)),("word",1),("din",2)]=some 1;decide +kernel),decide_eq_true rfl⟩
 |din=>exact⟨"din",rfl,by k_go,by k_go⟩
def RB(C CO:Addr):Sp:=fun vs H Q _=>∃(b:Addr) (s:Sn),vs=[.ref b]∧bg C CO H b s∧Q (.int (gX s)) H
theorem Mv(T:Tx w K mg):aM P w K mg base ba 1 T.f_room T.d_room ["span"] (RB T.C_Half T.C_Open):=by
 refine T.oy.F.ok Sm ?_ ?_;kj_on
 ·obtain⟨b,s,rfl,_⟩:=h;rfl
 obtain⟨b,s,rfl,hA,q⟩:=h;refine⟨_,(ao (aQ (PW.pt (lD (cy (bP (lL (K:=K) rfl) rfl T.fN fD (ae (pv 0) (ae (dC (v:=.ref T.C_Half) rfl T.lP rfl) af)))) (kQ (aO br (cn (K:=K) rfl (pv 0) rfl) aj (aD _))))) (ap (az aj)) aS)
  (ap (az aj))),?_⟩
 got_up;cases s with
 |opn low=>
  obtain⟨dx,h1⟩:=bX.ob hA;refine iS (c:=.ref T.C_Half) rfl (T.ty_Open h1) T.Cp ?_;ke_read;all_goals exact q
 |half low bits=>
  obtain⟨dx,h1⟩:=bx.ob hA;refine iS (c:=.ref T.C_Half) rfl (T.ty_Half h1) T.C4 ?_;ke_read;refine⟨b,T.C_Half,dx,_,_,rfl,h1,T.dA,T.iG,jj _ _,?_⟩;ke_read;refine cG (fun c=>?_) (fun c=>?_)
  ·have e:gX (.half low bits)=1:=if_pos c;rw[e]at q;ke_read;all_goals exact q
  ·have e:gX (.half low bits)=2:=if_neg c;rw[e]at q;ke_read;all_goals exact q
def tq(s:Sn):Hd→Bool
 |.word n=>am s n
 |_=>true
def jL(c:Cl)(s:Sn)(d:Hd):Bool:=decide (s=c.s)&&(tq c.s d&&(decide (c.m≤fF d)&&decide (fF d≤gX c.s)))
theorem Sq{c:Cl}{s:Sn}{d:Hd}:jL c s d=true↔s=c.s∧tq c.s d=true∧c.m≤fF d∧fF d≤gX c.s:=by
 unfold jL;rw[gb,gb,gb,decide_eq_true_eq,decide_eq_true_eq,decide_eq_true_eq]
def abz(C CO:Addr):Sp:=fun vs H Q _=>∃(x y:V) (c:Cl) (s:Sn) (d:Hd),vs=[x,y]∧gq C CO H x s d∧oS C CO H y c∧Q (.bl (jL c s d)) H
theorem Ua(T:Tx w K mg):aM P w K mg base ba 2 T.f_can_answer T.d_can_answer ["row","call"] (abz T.C_Half T.C_Open):=by
 refine T.yI.F.ok Es ?_ ?_;kj_on
 ·obtain⟨x,y,c,s,d,rfl,_⟩:=h;rfl
 obtain⟨x,y,c,s,d,rfl,⟨r1,b1,t1,rfl,h1,hb1,h1'⟩,⟨r2,b2,rfl,h2,hb2⟩,q⟩:=h;obtain⟨kd,ek,lk,wk⟩:=Lb (d:=d);refine⟨_,(ao (aW (i:=2) Es.nd rfl (by z_go) (aI (bR (K:=K) rfl) (pv 1) aj (fun _ _=>rfl)))
  (ao (aQ (fk (cy (uc (P:=P) (w:=w) (K:=K) (mg:=mg) (base:=base) (k:=1) (CX:=ba) (E:=E0) rfl rfl rfl rfl rfl (aI (bR (K:=K) rfl) (pv 0) aj (fun _ _=>rfl)) (hr.mono (by decide)) aT (ae (pv 2) af)))) (ap (az gh)) aS)
  (ao (aW (i:=3) Es.nd rfl (by z_go) (aI (bR (K:=K) rfl) (aI (bR (K:=K) rfl) (pv 0) aj (fun _ _=>rfl)) aj (fun _ _=>rfl)))
  (ao (gI (aQ (PW.pt (lD (aO br (pv 3) ai (aD _)) (kQ (fk (cy (uc (P:=P) (w:=w) (K:=K) (mg:=mg) (base:=base) (k:=1) (CX:=ba) (E:=E0) rfl rfl rfl rfl rfl (pv 2) (hr.mono (by decide)) aT (ae (aI (bR (K:=K) rfl) (aI (bR (K:=K) rfl) (pv 0) aj (fun _ _=>rfl)) aj (fun _ _=>rfl)) af))))))) (ap (az gh)) aS))
  (ap (az (T7 Ej Ej (aI (bR (K:=K) rfl) (pv 1) aj (fun _ _=>rfl)) (aI (Jg (K:=K) (w:=w) rfl rfl T.JA) (dC (v:=.ref T.a_SURE_HANDS) rfl T.Ke rfl) (pv 3) (fun _ _=>rfl)) (aX (Mv T) (hr.mono (by decide)) rfl T.oy.m T.oy.F.kp T.oy.b .nil aT (ae (pv 2) af))))))))),?_⟩
 got_up;refine C9 (fun e=>?_) (fun e=>?_)
 rotate_left
 ·have z:jL c s d=false:=by unfold jL;rw[decide_eq_false e];rfl
  rw[z]at q;ke_read;all_goals exact q
 subst e;have ez:jL c c.s d=(tq c.s d&&(decide (c.m≤fF d)&&decide (fF d≤gX c.s))):=by unfold jL;rw[decide_eq_true rfl,pK]
 rw[ez]at q;ke_read;refine abl [some (.ref r1),some (.ref r2),some (.ref b2),some (.str kd)] (fun H'=>H'=H∧tq c.s d=true) ?_ ?_
 ·ke_read;rw[wk];cases d with
  |word n=>
   have e1:cw (dD (.word n)) 1=some (.int n):=rfl;refine cW rfl ?_;ke_read;cases hn:am c.s n with
   |true=>
    ke_read;exact⟨rfl,rfl,hn⟩
   |false=>
    have z:tq c.s (.word n)=false:=hn;rw[z]at q;ke_read;all_goals exact q
  |hush=>
   refine dX (by decide) ?_;ke_read;exact⟨rfl,rfl,rfl⟩
  |din=>
   refine dX (by decide) ?_;ke_read;exact⟨rfl,rfl,rfl⟩
 ·rintro H' ⟨rfl,hw⟩;rw[hw,pK]at q;ke_read;refine⟨kd,_,rfl,rfl,lk,?_⟩;by_cases m1:c.m≤fF d
  ·rw[decide_eq_true m1,pK]at q;ke_read;refine⟨b2,c.s,rfl,hb2,?_⟩;ke_read
   first|done|exact q
  ·rw[decide_eq_false m1,pJ]at q;ke_read
   first|done|exact q
def sN(v:Int):List Cl→List Cl
 |[]=>[]
 |u::r=>⟨u.s,2-v,false⟩::r
def kt(c:Cl)(d:Hd)(cs:List Cl):List Cl:=
 if d=.din then⟨cx c.s,2-gX (cU c.s),true⟩::⟨cU c.s,0,false⟩::(if c.f=true then sN (fF d) cs else cs)else(if c.f=true then sN (fF d) cs else cs)
def cZ(ld:Addr)(H H':Hp):Prop:=∀b o,b≠ld→H b=some o→H' b=some o
theorem cZ.of{ld:Addr}{H H':Hp}(s:ah H H'):cZ ld H H':=fun b o _ h=>s b o h
theorem cZ.put{ld:Addr}{H H':Hp}{o:HO}(p:cT H ld o H'):cZ ld H H':=fun b u h1 h=>by rw[p.else_ b h1];exact h
theorem cZ.trans{ld:Addr}{H H1 H2:Hp}(s:cZ ld H H1)(t:cZ ld H1 H2):cZ ld H H2:=fun b o n h=>t b o n (s b o n h)
theorem cZ.nl{ld:Addr}{H H':Hp}{ys:List V}(b:cZ ld H H')(hl:H ld=some (.lst ys)):bN H H':=fun x o n h=>b x o (fun z=>by rw[z,hl]at h;injection h with h;exact n ys h.symm) h
def aal(C CO:Addr):Sp:=fun vs H Q _=>∃(x y:V) (ld:Addr) (c:Cl) (d:Hd) (xs:List V) (cs:List Cl),vs=[x,y,.ref ld]∧gq C CO H x c.s d∧oS C CO H y c∧H ld=some (.lst xs.reverse)∧jf C CO H xs cs∧(c.f=true→cs≠[])∧(d=.din→jl c.s)∧xs.length≤1000000∧
 ∀(H':Hp) (xs':List V),cZ ld H H'→H' ld=some (.lst xs'.reverse)→jf C CO H' xs' (kt c d cs)→Q .non H'
theorem WH(T:Tx w K mg):aM P w K mg base ba 6 T.f_follow T.d_follow ["row","call","due"] (aal T.C_Half T.C_Open):=by
 refine T.wK.F.ok xr ?_ ?_;kj_on
 ·obtain⟨x,y,ld,c,d,xs,cs,rfl,_⟩:=h;rfl
 obtain⟨x,y,ld,c,d,xs,cs,rfl,⟨r1,b1,t1,rfl,h1,hb1,h1'⟩,⟨r2,b2,rfl,h2,hb2⟩,hd,hC,hf,hh,hz,q⟩:=h;obtain⟨kd,ek,lk,wk⟩:=Lb (d:=d);refine⟨_,(ao (aW (i:=3) xr.nd rfl (by z_go) (aI (Jg (K:=K) (w:=w) rfl rfl T.JA) (dC (v:=.ref T.a_SURE_HANDS) rfl T.Ke rfl) (aI (bR (K:=K) rfl) (aI (bR (K:=K) rfl) (pv 0) aj (fun _ _=>rfl)) aj (fun _ _=>rfl)) (fun _ _=>rfl)))
  (ao (gI (aQ (cy (aI (bR (K:=K) rfl) (pv 1) aj (fun _ _=>rfl))) (ao (aW (i:=4) xr.nd rfl (by z_go) (aI (bR (K:=K) rfl) ((tQ ff zP FM CF (pv 2))) aj (fun _ _=>rfl)))
  (ap (dB ((c8 ff gz gQ fP (pv 2) (ae (cK (ae (pv 4) (ae (be kh aj (pv 3)) (ae gh af)))) af)))))) aS))
  (ap (aQ (aO br (pv 3) aj (aD _)) (ao (aW (i:=5) xr.nd rfl (by z_go) (zD (P:=P) (w:=w) (K:=K) (mg:=mg) (base:=base) (k:=5) (CX:=ba) (E:=E0) rfl rfl rfl rfl rfl (aI (bR (K:=K) rfl) (pv 1) aj (fun _ _=>rfl)) (hr.mono (by decide)) aT))
  (ao (dB ((c8 ff gz gQ fP (pv 2) (ae (cK (ae (aI (bR (K:=K) rfl) (pv 5) aj (fun _ _=>rfl)) (ae aj (ae gh af)))) af))))
  (ap (dB ((c8 ff gz gQ fP (pv 2) (ae (cK (ae (aI (bR (K:=K) rfl) (pv 5) aj (fun _ _=>rfl)) (ae (be kh aj (aX (Mv T) (hr.mono (by decide)) rfl T.oy.m T.oy.F.kp T.oy.b .nil aT (ae (aI (bR (K:=K) rfl) (pv 5) aj (fun _ _=>rfl)) af))) (ae gh af)))) af))))))) aS)))),?_⟩
 got_up;refine⟨kd,_,rfl,rfl,lk,?_⟩;ke_read;refine bY (fun σ' H'=>∃(o4:Option V) (xs1:List V),σ'=[some (.ref r1),some (.ref r2),some (.ref ld),some (.int (fF d)),o4,none]∧cZ ld H H'∧H' ld=some (.lst xs1.reverse)∧jf T.C_Half T.C_Open H' xs1 (if c.f=true then sN (fF d) cs else cs)∧xs1.length≤1000000) ?_ ?_
 ·cases ef:c.f with
  |false=>
   rw[ef]at h2;ke_read;exact⟨_,xs,rfl,cZ.of (ah.refl _),hd,by rw[if_neg bK];exact hC,hz⟩
  |true=>
   rw[ef]at h2;cases hC with
   |nil=>exact absurd rfl (hf ef)
   | @cons x0 c0 xs cs h0 hC=>
    obtain⟨r0,b0,rfl,hr0,hb0⟩:=h0;ke_read;refine Cm (ys:=xs.reverse) (y:=.ref r0) (by rw[hd,ni]) fun H3 p3=>?_;have k3:cZ ld H H3:=cZ.put p3;have n3:=k3.nl hd;have hr3:=n3 _ _ (by intro ys z;cases z) hr0;have hb3:=hb0.nl n3;have hd3:=p3.at_;ke_read;rintro p4 H4 ⟨f4,a4,s4,-⟩;have hd4:=s4 _ _ hd3;rw[bI]at hz;have sz:xs.reverse.length<sizeLine:=lX (show xs.reverse.length≤1000000 by rw[pM];omega) (by decide);ke_read;intro H5 p5;have k5:cZ ld H4 H5:=cZ.put p5;have k:cZ ld H3 H5:=(cZ.of s4).trans k5;ke_read;refine⟨_,.ref p4::xs,rfl,k3.trans k,by rw[p5.at_,ni],?_,by rw[bI];omega⟩;rw[if_pos rfl];exact .cons ⟨p4,b0,rfl,(k5.nl hd4) _ _ (by intro ys z;cases z) a4,hb3.nl (k.nl hd3)⟩ (hC.nl (n3.trans (k.nl hd3)))
 ·rintro σ' H3 ⟨o4,xs1,rfl,k3,hd3,hC3,hz3⟩;have n3:=k3.nl hd;have h23:=n3 _ _ (by intro ys z;cases z) h2;have hb3:=hb2.nl n3;ke_read;refine cG (fun e=>?_) (fun e=>?_)
  ·have ed:d=.din:=by
    cases d with
    |hush=>exact absurd e (by decide)
    |word n=>exact absurd e (show¬(1:Int)=2 by decide)
    |din=>rfl
   subst ed;have hc:=hh rfl;have sz:(1000001:Nat)<sizeLine:=by decide
   ke_read;refine⟨rfl,hb3,hc,fun r4 u1 u2 H4 s4 ar a1 a2=>?_⟩;have hd4:=s4 _ _ hd3;ke_read;rintro p5 H5 ⟨f5,a5,s5,-⟩;have hd5:=s5 _ _ hd4;have z5:xs1.reverse.length<sizeLine:=lX (by rw[pM];omega) sz;ke_read;intro H6 p6;have k6:cZ ld H5 H6:=cZ.put p6;have n6:=k6.nl hd5;have hd6:=p6.at_;have ar6:=n6 _ _ (by intro ys z;cases z) (s5 _ _ ar);have a5':=n6 _ _ (by intro ys z;cases z) a5;have a16:=(a1.nl (bN.of s5)).nl n6;have a26:=(a2.nl (bN.of s5)).nl n6;ke_read;refine⟨u2,cU c.s,rfl,a26,?_⟩;ke_read;rintro p7 H7 ⟨f7,a7,s7,-⟩;have hd7:=s7 _ _ hd6;have z7:(xs1.reverse++[V.ref p5]).length<sizeLine:=lX (show(xs1.reverse++[V.ref p5]).length≤1000001 by rw[dm,pM];show _+1≤_;omega) sz;ke_read;intro H8 p8;have k8:cZ ld H7 H8:=cZ.put p8;have n8:=k8.nl hd7;have kY:=(bN.of s7).trans n8;have kk:cZ ld H3 H8:=(cZ.of (s4.trans s5)).trans (k6.trans ((cZ.of s7).trans k8));ke_read;refine q H8 (.ref p7::.ref p5::xs1) (k3.trans kk) (by rw[p8.at_,ni,ni]) ?_;unfold kt;rw[if_pos rfl];exact .cons ⟨p7,u1,rfl,n8 _ _ (by intro ys z;cases z) a7,a16.nl kY⟩ (.cons ⟨p5,u2,rfl,kY _ _ (by intro ys z;cases z) a5',a26.nl kY⟩ (hC3.nl (kk.nl hd3)))
  ·have ed:d≠.din:=fun z=>by rw[z]at e;exact e rfl
   ke_read;exact q H3 xs1 k3 hd3 (by unfold kt;rw[if_neg ed];exact hC3)
def jA:List Cl→List (Sn×Hd)→Nat→Option Nat
 |[],[],_=>none
 |_::_,[],i=>some i
 |[],_::_,i=>some i
 |c::cs,r::t,i=>if jL c r.1 r.2=true then jA (kt c r.2 cs) t (i+1)else some i
theorem Hi(s:Sn):1≤gX s:=by
 cases s with
 |half l b=>show 1≤(if b=0 then 1 else 2);split<;>omega
 |opn l=>show(1:Int)≤2;decide
theorem Ug:∀d:Hd,0≤fF d∧fF d≤2
 |.hush=>by decide
 |.word _=>by show(0:Int)≤1∧(1:Int)≤2;decide
 |.din=>by decide
theorem X9{s:Sn}(b0:∀l b,s=.half l b→0≤b)(r:2≤gX s)(h:∀l,s=.opn l→l≤2^800):jl s:=by
 cases s with
 |half l b=>
  have:=b0 l b rfl;have r':2≤(if b=0 then(1:Int)else 2):=r;show 1≤b;by_cases z:b=0
  ·rw[if_pos z]at r';omega
  ·omega
 |opn l=>exact h l rfl
theorem XD(v:Int)(cs:List Cl):(sN v cs).length=cs.length:=by cases cs<;>rfl
theorem acz(c:Cl)(d:Hd)(cs:List Cl):(kt c d cs).length≤cs.length+2:=by
 unfold kt;have k:(if c.f=true then sN (fF d) cs else cs).length=cs.length:=by
  split
  ·exact XD _ _
  ·rfl
 split
 ·rw[bI,bI,k];omega
 ·rw[k];omega
inductive jD:List Cl→Prop
 |nil:jD []
 |one {c:Cl} {r:List Cl} (f:c.f=false) (m0:0≤c.m) (m:c.m≤gX c.s) (z:∀u∈r,u.m=0∧u.f=false):jD (c::r)
 |two {c u:Cl} {r:List Cl} (f:c.f=true) (m:c.m=2-gX u.s) (z:∀v∈u::r,v.m=0∧v.f=false):jD (c::u::r)
theorem jD.next{c:Cl}{cs:List Cl}(h:jD (c::cs)):c.f=true→cs≠[]:=by
 cases h with
 |one f _ _ _=>intro z;rw[f]at z;cases z
 |two=>intro _ z;cases z
theorem jD.push{c:Cl}{r:List Cl}(z:∀u∈r,u.m=0∧u.f=false):jD (⟨cx c.s,2-gX (cU c.s),true⟩::⟨cU c.s,0,false⟩::r):=
 .two rfl rfl fun v hv=>(bu.mp hv).elim (fun e=>e▸⟨rfl,rfl⟩) (z v)
theorem jD.follow{c:Cl}{d:Hd}{cs:List Cl}(h:jD (c::cs))(hm:c.m≤fF d):jD (kt c d cs):=by
 unfold kt;cases h with
 |one f m0 m z=>
  rw[f,if_neg bK];split
  ·exact .push z
  ·cases cs with
   |nil=>exact .nil
   |cons u r=>
    have hu:=z u (.head _);have:=Hi u.s;exact .one hu.2 (by omega) (by omega) fun v hv=>z v (.tail _ hv)
 | @two _ u r f m z=>
  rw[f,if_pos rfl];have zr:∀v∈r,v.m=0∧v.f=false:=fun v hv=>z v (.tail _ hv);have sl:=Ug d;split
  ·rename_i e;subst e;exact .push fun v hv=>(bu.mp hv).elim (fun e=>e▸⟨rfl,rfl⟩) (zr v)
  ·exact .one rfl (by show 0≤2-fF d;omega) (by show 2-fF d≤gX u.s;omega) zr
def M1:Option Nat→V
 |none=>.non
 |some i=>.int (i:Int)
theorem bg.b0{C CO a:Addr}{H:Hp}{s:Sn}(h:bg C CO H a s):∀l b,s=.half l b→0≤b:=by
 rintro l b rfl;exact bx.b0 h
theorem V2{l:Int}(h:l≤2^700):l≤2^800:=by omega
def Zq(C CO f:Addr):Sp:=fun vs H Q _=>∃(lb b:Addr) (xs:List V) (rs:List (Sn×Hd)) (s:Sn),vs=[.ref lb,.ref b,.ref f]∧H lb=some (.lst xs)∧bJ C CO H xs rs∧bg C CO H b s∧(∀r∈rs,mD r.1≤2^700)∧rs.length≤200000∧
 ∀H':Hp,ah H H'→Q (M1 (jA [⟨s,0,false⟩] rs 0)) H'
theorem S9(T:Tx w K mg):aM P w K mg base ba 7 T.f_cut_by T.d_cut_by ["book","top","step"] (Zq T.C_Half T.C_Open T.f_follow):=by
 refine T.wQ.F.ok uB ?_ ?_;kj_on
 ·obtain⟨lb,b,xs,rs,s,rfl,_⟩:=h;rfl
 obtain⟨lb,b,xs,rs,sn,rfl,hb,hR,hA,hbd,rz,q⟩:=h;have xl:=hR.len;refine⟨_,(ao (aW (i:=3) uB.nd rfl (by z_go) (bQ (ae (cK (ae (pv 1) (ae aj (ae gh af)))) af)))
  (ao (uJ rJ rfl (KG (K:=K) rfl rfl T.ML (ae (pv 0) af)) (ZF (K:=K) rfl rfl (yO (kW (i:=4) uB.nd rfl (by z_go)) (yO (kW (i:=5) uB.nd rfl (by z_go)) Nl)))
  (ao (aQ (aO br (bP (fS (K:=K) rfl) rfl T.dJ dF (ae (pv 3) af)) aj (aD _)) (ap (az (pv 4))) aS)
  (ao (aW (i:=6) uB.nd rfl (by z_go) ((tQ ff zP FM CF (pv 3))))
  (ao (aQ (fk (cy (aX (Ua T) (hr.mono (by decide)) rfl T.yI.m T.yI.F.kp T.yI.b .nil aT (ae (pv 5) (ae (pv 6) af))))) (ap (az (pv 4))) aS)
  (ap (dB (Xm (WH T) (hr.mono (by decide)) (pv 2) T.wK.F.kp T.wK.b .nil aT (ae (pv 5) (ae (pv 6) (ae (pv 3) af))))))))))
  (ao (aQ (aO oq (bP (fS (K:=K) rfl) rfl T.dJ dF (ae (pv 3) af)) aj (aD _)) (ap (az (bP (fS (K:=K) rfl) rfl T.dJ dF (ae (pv 0) af)))) aS)
  (ap (az ie))))),?_⟩
 got_up;rintro p1 H1 ⟨f1,a1,s1,-⟩;ke_read;rintro ld H2 ⟨f2,a2,s2,-⟩;have fl:H ld=none:=s1.free f2;ke_read;refine Kk ?_;ke_read;refine⟨lb,rfl,⟨xs,ay.of (s2 _ _ (s1 _ _ hb))⟩,?_⟩
 try ke_read
 refine Zk (K:=K) (a:=lb) (xs:=xs) (fun i σ H3=>∃(zs:List V) (cs:List Cl) (o4 o5 o6:Option V),σ=[some (.ref lb),some (.ref b),some (.ref T.f_follow),some (.ref ld),o4,o5,o6]∧ah H H3∧H3 ld=some (.lst zs.reverse)∧jf T.C_Half T.C_Open H3 zs cs∧jD cs∧cs.length≤1+3*i∧jA [⟨sn,0,false⟩] rs 0=jA cs (rs.drop i) i)
  ⟨[.ref p1],[⟨sn,0,false⟩],none,none,none,rfl,s1.trans s2,a2,.cons ⟨p1,b,rfl,s2 _ _ a1,(hA.nl (bN.of (s1.trans s2)))⟩ .nil,.one rfl (vi _) (by have:=Hi sn;show 0≤gX sn;omega) (fun u hu=>nomatch hu),bv _,rfl⟩ (fun i σ H3 _ ⟨_,_,_,_,_,_,s3,_⟩=>ay.of (s3 _ _ hb)) ?_ ?_
 ·rintro i x p σ H3 H4 hi ⟨zs,cs,o4,o5,o6,rfl,s3,hd3,hC3,hP,cl,eR⟩ nw4;obtain⟨sr,dr,er,hx⟩:=hR.get hi;have a4:=nw4.at_;have s34:=nw4.same;have hx4:=hx.nl (bN.of (s3.trans s34));have hd4:=s34 _ _ hd3;have hC4:=hC3.nl (bN.of s34);have s4:ah H H4:=s3.trans s34;have ir:i<rs.length:=by
   have:=(gO.mp hi).1;omega
  have zl:=hC4.len;have ed:rs.drop i=(sr,dr)::rs.drop (i+1):=by
   rw[z8 ir];rw[cL ir]at er;rw[cP er]
  rw[ed]at eR;have sb:mD sr≤2^700:=hbd (sr,dr) (fw er);ke_read;rw[pM];cases hC4 with
  |nil=>
   have q':=q H4 s4;rw[eR]at q';refine cW (by decide) ?_;ke_read;all_goals exact q'
  | @cons x0 c0 zs cs h0 hC4=>
   rw[bI]at cl;rw[bI,bI]at zl;refine dX (by rw[bI];simp<;>omega) ?_;obtain⟨r0,b0,rfl,hr0,hb0⟩:=h0;ke_read;refine Cm (ys:=zs.reverse) (y:=.ref r0) (by rw[hd4,ni]) fun H5 p5=>?_;have k5:cZ ld H4 H5:=cZ.put p5;have n5:=k5.nl hd4;have hx5:=hx4.nl n5;have hc5:oS T.C_Half T.C_Open H5 (.ref r0) c0:=⟨r0,b0,rfl,n5 _ _ (by intro ys z;cases z) hr0,hb0.nl n5⟩;have hC5:=hC4.nl n5;have hd5:=p5.at_;have s5:ah H H5:=fun b o h=>k5 b o (fun z=>by rw[z,fl]at h;cases h) (s4 b o h);have eR':jA [⟨sn,0,false⟩] rs 0=if jL c0 sr dr=true then jA (kt c0 dr cs) (rs.drop (i+1)) (i+1)else some i:=eR;ke_read;refine⟨x,.ref r0,c0,sr,dr,rfl,hx5,hc5,?_⟩;cases ca:jL c0 sr dr with
   |false=>
    rw[ca,if_neg bK]at eR';have q':=q H5 s5;rw[eR']at q';ke_read;all_goals exact q'
   |true=>
    rw[ca,if_pos rfl]at eR';obtain⟨e1,hw,m1,m2⟩:=Sq.mp ca;subst e1;have dh:dr=.din→jl c0.s:=fun z=>by
     subst z;exact X9 hb0.b0 m2 fun l z=>V2 (by rw[z]at sb;exact sb)
    have hP':=hP.follow m1;have nf:=hP.next;ke_read;refine Yj rfl ?_;ke_read;refine⟨x,.ref r0,ld,c0,dr,zs,cs,rfl,hx5,hc5,hd5,hC5,nf,dh,by omega,fun H6 zs' k6 hd6 hC6=>?_⟩;ke_read;have fl6:=acz c0 dr cs;refine⟨zs',_,_,_,_,rfl,fun b o h=>k6 b o (fun z=>by rw[z,fl]at h;cases h) (s5 b o h),hd6,hC6,hP',by omega,eR'⟩
 ·rintro σ H3 ⟨zs,cs,o4,o5,o6,rfl,s3,hd3,hC3,hP,cl,eR⟩;have zl:=hC3.len;rw[List.drop_of_length_le (by omega)]at eR;have q':=q H3 s3;have hb3:=s3 _ _ hb;ke_read;rw[pM];cases cs with
  |nil=>
   rw[eR]at q';have z0:zs.length=0:=zl;refine dX (by rw[z0];decide) ?_;ke_read;all_goals exact q'
  |cons c cs=>
   rw[eR]at q';rw[bI]at zl;refine cW (by rw[zl];simp<;>omega) ?_;ke_read;all_goals exact q'
def RK(C CO:Addr):Sp:=fun vs H Q _=>∃(lb b:Addr) (xs:List V) (rs:List (Sn×Hd)) (s:Sn),vs=[.ref lb,.ref b]∧H lb=some (.lst xs)∧bJ C CO H xs rs∧bg C CO H b s∧(∀r∈rs,mD r.1≤2^700)∧rs.length≤200000∧
 ∀H':Hp,ah H H'→Q (M1 (jA [⟨s,0,false⟩] rs 0)) H'
theorem VJ(T:Tx w K mg):aM P w K mg base ba 8 T.f_cut T.d_cut ["book","top"] (RK T.C_Half T.C_Open):=by
 refine T.zi.F.ok VM ?_ ?_;kj_on
 ·obtain⟨lb,b,xs,rs,s,rfl,_⟩:=h;rfl
 obtain⟨lb,b,xs,rs,sn,rfl,hb,hR,hA,hbd,rz,q⟩:=h;refine⟨_,(ap (az (aX (S9 T) (hr.mono (by decide)) rfl T.wQ.m T.wQ.F.kp T.wQ.b .nil aT (ae (pv 0) (ae (pv 1) (ae (dC (v:=.ref T.f_follow) rfl T.wK.m rfl) af)))))),?_⟩;got_up;refine⟨lb,b,xs,rs,sn,rfl,hb,hR,hA,hbd,rz,fun H1 s1=>?_⟩;ke_read;exact q H1 s1
theorem Zz(x:String):b8 (AB x)=true:=by
 unfold b8;rw[Str.ofString_eq_toList,NV];intro i hi;simp only[dM,bo]at hi;simp only[OA,List.getElem_map,decide_eq_true_eq];have:=(x.toList[i]).valid;rcases this with h|h
 ·have:(x.toList[i]).toNat<0xd800:=h;omega
 ·exact h.2
theorem kR{x y:Str}(hx:b8 x=true)(hy:b8 y=true):b8 (x++y)=true:=by
 unfold b8 at *;rw[gB,Array.all_append,hx,hy];rfl
open Builtin Builtin.Str in
theorem DE{u v y:Str}{c:Nat}(hy:y=⟨#[c]⟩)(hu:c∉u.cps.toList):cY (u++y++v) y=(u,y,v):=by
 have ex:(u++y++v).cps.toList=u.cps.toList++c::v.cps.toList:=by
  rw[gB,gM,gB,gM,hy];simp
 have lb:y.length=1:=by rw[hy];rfl
 have cb:y.cps.toList=[c]:=by rw[hy]
 generalize hx:u++y++v=x at ex;have xl:x.length=u.length+1+v.length:=by
  show x.cps.size=u.cps.size+1+v.cps.size;rw[←jM,ex,dm,bI,jM,jM];omega
 have at_:∀i,subAt x y i=true↔x.cps.toList[i]?=some c:=fun i=>by
  rw[rO,lb,cb];exact PD
 have hat:subAt x y u.length=true:=(at_ _).mpr (by
  rw[ex,iY (by rw[jM];exact bv _),jM];show(c::v.cps.toList)[u.cps.size-u.cps.size]?=_;rw[FH];rfl)
 have hno:∀i,i<u.length→¬subAt x y i=true:=fun i hi cc=>by
  have c':=(at_ i).mp cc;rw[ex,rE (by rw[jM];exact hi)]at c';exact hu (fw c')
 rcases PB x y 1 (bv _)with⟨_,hn⟩|⟨i,r,e,ha,hk⟩
 ·exact absurd ⟨by rw[lb,xl];omega,hat⟩ (hn u.length)
 ·have ei:i=u.length:=by
   rcases Nat.lt_trichotomy i u.length with cc|cc|cc
   ·exact absurd ha.2 (hno i cc)
   ·exact cc
   ·exact absurd ⟨by rw[lb,xl];omega,hat⟩ (hk u.length cc)
  subst ei;unfold cY;rw[e];have ul:u.length=u.cps.toList.length:=jM.symm;have vl:v.length=v.cps.toList.length:=jM.symm;refine Pc ?_ (Pc rfl ?_)
  ·refine iV ?_;show(strSub x 0 u.length).cps.toList=_;rw[F2,ex,Fu,Nat.sub_zero,ul,List.take_left'];rfl
  ·refine iV ?_;show(strSub x (u.length+y.length) x.length).cps.toList=_;rw[F2,ex,lb,ul,List.drop_append,Ou (pR _),lW,show u.cps.toList.length+1-u.cps.toList.length=1 by omega];show(v.cps.toList).take _=_;exact pP (by rw[←vl];omega)
open Builtin Builtin.Str in
theorem RT{x y:Str}{c:Nat}(hy:y=⟨#[c]⟩)(hn:c∉x.cps.toList):cY x y=(x,("" : Str),("" : Str)):=by
 have lb:y.length=1:=by rw[hy];rfl
 have cb:y.cps.toList=[c]:=by rw[hy]
 rcases PB x y 1 (bv _)with⟨e,_⟩|⟨i,r,_,ha,_⟩
 ·unfold cY;rw[e];rfl
 ·have h:=ha.2;rw[rO,lb,cb]at h;exact absurd (fw (PD.mp h)) hn
theorem abd(z:Str){y:Str}{c:Nat}(hy:y=⟨#[c]⟩):(c∉z.cps.toList∧cY z y=(z,("" : Str),("" : Str)))∨∃u v:Str,c∉u.cps.toList∧z=u++y++v∧cY z y=(u,y,v):=by
 by_cases h:c∈z.cps.toList
 ·obtain⟨a,b,e,ha⟩:=List.eq_append_cons_of_mem h;have ez:z=(⟨a.toArray⟩:Str)++y++⟨b.toArray⟩:=by
   refine iV ?_;rw[gB,gM,gB,gM,hy,e];simp
  exact .inr ⟨⟨a.toArray⟩,⟨b.toArray⟩,by simpa using ha,ez,by rw[ez];exact DE hy (by simpa using ha)⟩
 ·exact .inl ⟨h,RT hy h⟩
def gH:List Str:=["open","talk","short","turns","least","greatest","paper"]
theorem DV:∀t∈gH,32∉t.cps.toList:=by
 intro t ht;have h:gH.all (fun t=>!t.cps.toList.contains 32)=true:=by k_go
 have:=gf.mp h t ht;intro c;rw[List.contains_iff_mem.mpr c]at this;cases this
theorem qH(u v:Str):32∈(u++(" " : Str)++v).cps.toList:=by
 rw[gB,gM,gB,gM,jH];simp
theorem abQ:∀t∈gH,b8 t=true:=by
 intro t ht;have h:gH.all b8=true:=by k_go
 exact gf.mp h t ht
theorem LL{z:Str}(h:(z.cps.all (· < 128))=true):b8 z=true:=by
 unfold b8;rw[NV]at h⊢;intro i hi;have:=of_decide_eq_true (h i hi);exact decide_eq_true (by omega)
def eX(z x:Str)(v:V):Prop:=(x∈gH∧z=x∧v=.non)∨(∃t:Str,x="check"∧z=("check" : Str)++(" " : Str)++t∧v=.str t)∨
 (∃n:Int,x="line"∧z=("line" : Str)++(" " : Str)++aJ n∧0≤n∧n≤200∧v=.int n)∨(∃n:Int,(x="come"∨x="go")∧z=x++(" " : Str)++aJ n∧0≤n∧n<10^60∧v=.int n)
theorem xC{u v u' v':Str}(hu:32∉u.cps.toList)(hu':32∉u'.cps.toList)(e:u++(" " : Str)++v=u'++(" " : Str)++v'):u=u'∧v=v':=by
 have a:=DE (v:=v) jH hu;rw[e,DE (v:=v') jH hu']at a;injection a with a1 a2;injection a2 with _ a2;exact⟨a1.symm,a2.symm⟩
theorem CQ:32∉("check" : Str).cps.toList:=by k_go
theorem BF:32∉("line" : Str).cps.toList:=by k_go
theorem Da:32∉("come" : Str).cps.toList:=by k_go
theorem A0:32∉("go" : Str).cps.toList:=by k_go
theorem mP{u v x:Str}{a:V}(hu:32∉u.cps.toList)(h:eX (u++(" " : Str)++v) x a):x=u∧((u="check"∧a=.str v)∨(u="line"∧∃n:Int,v=aJ n∧0≤n∧n≤200∧a=.int n)∨((u="come"∨u="go")∧∃n:Int,v=aJ n∧0≤n∧n<10^60∧a=.int n)):=by
 rcases h with⟨h1,h2,_⟩|⟨t,rfl,e,rfl⟩|⟨n,rfl,e,n0,n1,rfl⟩|⟨n,hx,e,n0,n1,rfl⟩
 ·exact absurd (h2▸qH u v) (DV x h1)
 ·obtain⟨rfl,rfl⟩:=xC hu CQ e;exact⟨rfl,.inl ⟨rfl,rfl⟩⟩
 ·obtain⟨rfl,rfl⟩:=xC hu BF e;exact⟨rfl,.inr (.inl ⟨rfl,n,rfl,n0,n1,rfl⟩)⟩
 ·obtain⟨rfl,rfl⟩:=xC hu (by rcases hx with rfl|rfl;exact Da;exact A0) e;exact⟨rfl,.inr (.inr ⟨hx,n,rfl,n0,n1,rfl⟩)⟩
theorem GZ{z x:Str}{a:V}(hz:32∉z.cps.toList)(h:eX z x a):z∈gH:=by
 rcases h with⟨h1,rfl,_⟩|⟨t,_,rfl,_⟩|⟨n,_,rfl,_⟩|⟨n,_,rfl,_⟩
 ·exact h1
 ·exact absurd (qH _ _) hz
 ·exact absurd (qH _ _) hz
 ·exact absurd (qH _ _) hz
def gi(H:Hp)(v:V):Prop:=v=.non∨(∃i:Int,v=.int i)∨(∃b:Bool,v=.bl b)∨∃a,v=.ref a∧((∃xs,H a=some (.lst xs))∨(∃xs,H a=some (.tup xs))∨H a=some (.dK []))
def UL(CN:Addr):Sp:=fun vs H Q E=>∃v:V,vs=[v]∧((gi H v∧∀k H',ah H H'→E (.ref CN) k H')∨∃z:Str,v=.str z∧(z.cps.all (· < 128))=true∧z.length≤900000∧(∀x v,eX z x v→∀(r:Addr) (H':Hp),ah H H'→H r=none→H' r=some (.tup [.str x,v])→Q (.ref r) H')∧((¬∃x v,eX z x v)→∀k H',ah H H'→E (.ref CN) k H'))
theorem SN(T:Tx w K mg):aM P w K mg base (aC P w) 3 T.f_read_order T.d_read_order ["order"] (UL T.C_NoOrder):=by
 refine T.zK.F.okE rY ?_ ?_;kj_on
 ·obtain⟨v,rfl,_⟩:=h;rfl
 obtain⟨v,rfl,h⟩:=h;have bn:((" " : Str).length==0)=false:=by k_go
 refine⟨_,(ao (aQ (fk (cy (bP (lL (K:=K) rfl) rfl T.fN fD (ae (pv 0) (ae (rj (v:=.ty "str") rfl T.gU gW rfl) af))))) (ap (gv T.zc rfl T.wc (ae ai af))) aS)
  (ao (aQ (aO (KY (K:=K) rfl hr.units) (pv 0) (dC (v:=.ref T.a_ALONE) rfl T.SE rfl) (by with_unfolding_all rfl)) (ap (az (cK (ae (pv 0) (ae ie af))))) aS)
  (ao (aW (i:=1) rY.nd rfl (by z_go) (c8 jS Oc PySem.F.type_str_partition Rk (pv 0) (ae ai af)))
  (ao (aW (i:=2) rY.nd rfl (by z_go) (aI (bR (K:=K) rfl) (pv 1) aj (fun _ _=>rfl)))
  (ao (aW (i:=3) rY.nd rfl (by z_go) (aI (bR (K:=K) rfl) (pv 1) aj (fun _ _=>rfl)))
  (ao (aQ (PW.pt (lD (aO br (pv 2) ai (aD _)) (kQ (aO br (aI (bR (K:=K) rfl) (pv 1) aj (fun _ _=>rfl)) ai (aD _))))) (ap (az (cK (ae (pv 2) (ae (pv 3) af))))) aS)
  (ao (EN (P:=P) (w:=w) rfl rfl rfl ⟨rfl,rfl⟩ (fun G pn xe hp=>(ao (aQ (aO br (pv 2) ai (aD _)) (ap (az (cK (ae (pv 2) (ae (ip (NU T) (hr.mono (by decide)) rfl T.oR.m T.oR.F.kp T.oR.b .nil hp (ae (pv 3) af)) af))))) aS)
  (ap (aQ (PW.pt (fg (aO br (pv 2) ai (aD _)) (fW (aO br (pv 2) ai (aD _))))) (ap (az (cK (ae (pv 2) (ae (ip (yq T) (hr.mono (by decide)) rfl T.iP.m T.iP.F.kp T.iP.b .nil hp (ae (pv 3) af)) af))))) aS))))
  (Jq (fun e=>(dC (v:=.ref T.C_NoText) rfl T.lF rfl)) (JL (i:=4) rY.nd rfl rfl T.zc rfl T.wc (fun e=>(ae ai af))) LK))
  (ap (gv T.zc rfl T.wc (ae ai af)))))))))),?_⟩
 got_up;rcases h with⟨nv,q'⟩|⟨z,rfl,ha,hl,q,q'⟩
 ·rcases nv with rfl|⟨i,rfl⟩|⟨b,rfl⟩|⟨a,rfl,⟨xs,hx⟩|⟨xs,hx⟩|hx⟩
  ·refine iS (c:=.ty "str") rfl .non T.Jy ?_;ke_read;exact q' none H (ah.refl _)
  ·ke_read;exact q' none H (ah.refl _)
  ·refine iS (c:=.ty "str") rfl (.bl b) T.Dh ?_;ke_read;exact q' none H (ah.refl _)
  ·ke_read;exact q' none H (ah.refl _)
  ·refine iS (c:=.ty "str") rfl (.tup hx) T.De ?_;ke_read;exact q' none H (ah.refl _)
  ·refine iS (c:=.ty "str") rfl (.dK hx) T.NK ?_;ke_read;exact q' none H (ah.refl _)
 ke_read;refine LI T.SA.at_ (LL ha) abQ ?_;by_cases hz:z∈gH
 ·rw[show decide (z∈(["open","talk","short","turns","least","greatest","paper"]:List Str))=true from decide_eq_true hz];ke_read;rintro p1 H1 ⟨f1,a1,s1,-⟩;ke_read;exact q z .non (.inl ⟨hz,rfl,rfl⟩) p1 H1 s1 f1 a1
 rw[show decide (z∈(["open","talk","short","turns","least","greatest","paper"]:List Str))=false from decide_eq_false hz];ke_read;refine⟨rfl,?_⟩;ke_read;refine⟨z," ",rfl,rfl,bn,by omega,fun p1 H1 nw1=>?_⟩;rcases abd z jH with⟨no,pt⟩|⟨u,v,hu,rfl,pt⟩
 ·rw[pt]at nw1;replace nw1:bS H p1 (.tup [.str z,.str "",.str ""]) H1:=nw1;obtain⟨f1,a1,s1,-⟩:=nw1;have bad:∀{H':Hp} {k:Option Addr},ah H1 H'→E (.ref T.C_NoOrder) k H':=fun{H' k} sm=>q' (fun⟨x,v,h⟩=>hz (GZ no h)) k H' (s1.trans sm);clear q q';have ea:(("" : Str).cps.all (· < 128))=true:=by k_go
  have el:("" : Str).length≤900100:=by k_go
  have e0:¬("" : Str)=" ":=by k_go
  have n1:¬("check" : Str)="line":=by k_go
  have n2:¬("check" : Str)="come":=by k_go
  have n3:¬("check" : Str)="go":=by k_go
  have n4:¬("come" : Str)="line":=by k_go
  have n5:¬("go" : Str)="line":=by k_go
  have n6:¬("go" : Str)="come":=by k_go
  ke_read;by_cases hc:z="check"
  ·subst hc;refine cW (decide_eq_true rfl) ?_;ke_read;refine yu ?_;ke_read;exact bad (ah.refl _)
  refine dX (decide_eq_false hc) ?_;ke_read;refine yu ?_;by_cases h1:z="line"
  ·subst h1;ke_read;refine⟨_,rfl,ea,el,fun n n0 _ e=>absurd e.symm (uv n0),fun _ H2 s2=>?_⟩;refine lI ?_;ke_read;refine gr T.qe ?_;refine cW rfl ?_;refine mR T.hZ fun er=>?_;ke_read;exact bad s2
  by_cases h2:z="come"
  ·subst h2;ke_read;refine⟨_,rfl,ea,el,fun n n0 _ e=>absurd e.symm (uv n0),fun _ H2 s2=>?_⟩;refine lI ?_;ke_read;refine gr T.qe ?_;refine cW rfl ?_;refine mR T.hZ fun er=>?_;ke_read;exact bad s2
  by_cases h3:z="go"
  ·subst h3;ke_read;refine⟨_,rfl,ea,el,fun n n0 _ e=>absurd e.symm (uv n0),fun _ H2 s2=>?_⟩;refine lI ?_;ke_read;refine gr T.qe ?_;refine cW rfl ?_;refine mR T.hZ fun er=>?_;ke_read;exact bad s2
  ke_read;exact bad (ah.refl _)
 ·rw[pt]at nw1;replace nw1:bS H p1 (.tup [.str u,.str " ",.str v]) H1:=nw1;obtain⟨f1,a1,s1,-⟩:=nw1;obtain⟨ua,va⟩:(u.cps.all (· < 128))=true∧(v.cps.all (· < 128))=true:=⟨(oQ (oQ ha).1).1,(oQ ha).2⟩;have vl:v.length≤900100:=by rw[cO]at hl;omega
  have good:∀a,eX (u++(" " : Str)++v) u a→∀(r:Addr) (H2 H3:Hp),ah H1 H2→H2 r=none→ah H2 H3→H3 r=some (.tup [.str u,a])→Q (.ref r) H3:=fun a ho r H2 H3 s2 f3 s3 e=>q u a ho r H3 (s1.trans (s2.trans s3)) ((s1.trans s2).free f3) e;have bad:∀{H':Hp} {k:Option Addr},ah H1 H'→(∀x a,eX (u++(" " : Str)++v) x a→False)→E (.ref T.C_NoOrder) k H':=fun{H' k} sm no=>q' (fun⟨x,a,h⟩=>no x a h) k H' (s1.trans sm);clear q q';have n1:¬("check" : Str)="line":=by k_go
  have n4:¬("come" : Str)="line":=by k_go
  have n5:¬("go" : Str)="line":=by k_go
  have n6:¬("go" : Str)="come":=by k_go
  have n7:¬("line" : Str)="check":=by k_go
  have n8:¬("come" : Str)="check":=by k_go
  have n9:¬("go" : Str)="check":=by k_go
  ke_read;by_cases hc:u="check"
  ·subst hc;refine cW (decide_eq_true rfl) ?_;ke_read;rintro p2 H2 ⟨f2,a2,s2,-⟩;ke_read;exact good _ (.inr (.inl ⟨v,rfl,rfl,rfl⟩)) p2 H1 H2 (ah.refl _) f2 s2 a2
  refine dX (decide_eq_false hc) ?_;ke_read;refine yu ?_;by_cases h1:u="line"
  ·subst h1;ke_read;refine⟨v,rfl,va,vl,fun n n0 b1 e H2 s2=>?_,fun nb H2 s2=>?_⟩
   ·ke_read;rintro p3 H3 ⟨f3,a3,s3,-⟩;ke_read;exact good _ (.inr (.inr (.inl ⟨n,rfl,by rw[e],n0,b1,rfl⟩))) p3 H2 H3 s2 f3 s3 a3
   ·refine lI ?_;ke_read;refine gr T.qe ?_;refine cW rfl ?_;refine mR T.hZ fun er=>?_;ke_read;refine bad s2 fun x a ho=>?_;rcases(mP hu ho).2 with⟨c,_⟩|⟨_,n,e,n0,b1,_⟩|⟨c,_⟩
    ·exact n7 c
    ·exact nb ⟨n,n0,b1,e⟩
    ·rcases c with c|c
     ·exact n4 c.symm
     ·exact n5 c.symm
  by_cases h2:u="come"
  ·subst h2;ke_read;refine⟨v,rfl,va,vl,fun n n0 b1 e H2 s2=>?_,fun nb H2 s2=>?_⟩
   ·ke_read;rintro p3 H3 ⟨f3,a3,s3,-⟩;ke_read;exact good _ (.inr (.inr (.inr ⟨n,.inl rfl,by rw[e],n0,b1,rfl⟩))) p3 H2 H3 s2 f3 s3 a3
   ·refine lI ?_;ke_read;refine gr T.qe ?_;refine cW rfl ?_;refine mR T.hZ fun er=>?_;ke_read;refine bad s2 fun x a ho=>?_;rcases(mP hu ho).2 with⟨c,_⟩|⟨c,_⟩|⟨_,n,e,n0,b1,_⟩
    ·exact n8 c
    ·exact n4 c
    ·exact nb ⟨n,n0,b1,e⟩
  by_cases h3:u="go"
  ·subst h3;ke_read;refine⟨v,rfl,va,vl,fun n n0 b1 e H2 s2=>?_,fun nb H2 s2=>?_⟩
   ·ke_read;rintro p3 H3 ⟨f3,a3,s3,-⟩;ke_read;exact good _ (.inr (.inr (.inr ⟨n,.inr rfl,by rw[e],n0,b1,rfl⟩))) p3 H2 H3 s2 f3 s3 a3
   ·refine lI ?_;ke_read;refine gr T.qe ?_;refine cW rfl ?_;refine mR T.hZ fun er=>?_;ke_read;refine bad s2 fun x a ho=>?_;rcases(mP hu ho).2 with⟨c,_⟩|⟨c,_⟩|⟨_,n,e,n0,b1,_⟩
    ·exact n9 c
    ·exact n5 c
    ·exact nb ⟨n,n0,b1,e⟩
  ke_read;refine bad (ah.refl _) fun x a ho=>?_;rcases(mP hu ho).2 with⟨c,_⟩|⟨c,_⟩|⟨c,_⟩
  ·exact hc c
  ·exact h1 c
  ·rcases c with c|c
   ·exact h2 c
   ·exact h3 c
theorem ab2:∀(rs:List (Sn×Hd)) (cs:List Cl) (i k:Nat),jA cs rs i=some k→k≤i+rs.length:=by
 intro rs
 induction rs with
 |nil=>
  intro cs i k h;cases cs with
  |nil=>cases h
  |cons c t=>injection h with h;simp;omega
 |cons r t ih=>
  intro cs i k h;cases cs with
  |nil=>injection h with h;simp;omega
  |cons c u=>
   have h':(if jL c r.1 r.2=true then jA (kt c r.2 u) t (i+1)else some i)=some k:=h;rw[bI];split at h'
   ·have:=ih _ _ _ h';omega
   ·injection h' with h';omega
def MN(s:Sn)(rs:List (Sn×Hd)):Str:=match jA [⟨s,0,false⟩] rs 0 with
 |some k=>("cut at " : Str)++aJ (k:Int)
 |none=>cM " " ("right"::(lu rs).map aJ)
theorem oo(x:Str):mf++x=x:=by
 refine iV ?_;rw[gB,gM];rfl
theorem XU{rs:List (Sn×Hd)}(h:∀x∈rs,BK x.1∧BH x.2):∀n∈lu rs,0≤n∧n<10^60:=by
 intro n hn;unfold lu at hn;obtain⟨r,hr,rfl⟩:=gP.mp hn;obtain⟨hr,hw⟩:=eQ.mp hr;obtain⟨s,d⟩:=r;cases d with
 |hush=>cases hw
 |din=>cases hw
 |word m=>exact(h _ hr).2
theorem Z7(rs:List (Sn×Hd)):(lu rs).length≤rs.length:=by
 unfold lu;rw[bo];exact kK _ _
theorem Y9{ns:List Int}(h:∀n∈ns,0≤n∧n<10^60)(hl:ns.length≤190002):vj " " ("right"::ns.map aJ)=true:=by
 have p:(" " : Str).length=1:=by k_go
 have e:=Pz (sep:=" ") (texts:="right"::ns.map aJ) (B:=60) (fun y hy=>by
  rcases bu.mp hy with rfl|hy
  ·decide +kernel
  ·obtain⟨n,hn,rfl⟩:=gP.mp hy;exact gK (h n hn).1 (h n hn).2) (by rw[p,bI,bo];omega)
 unfold vj;rw[e];rfl
theorem Ze{z:Str}{rs:List (Sn×Hd)}(h:gk z rs):rs.length≤z.length+2:=by
 obtain⟨h1,e⟩:=h;cases rs with
 |nil=>exact fe _
 |cons r t=>
  have pl:=CK z "; ";rw[e]at pl⊢;rw[MJ h1,bo]at pl;exact pl
theorem aco{s:Sn}(h:BK s):mD s≤2^700:=by
 have e:(10:Int)^60≤2^700:=by k_go
 cases s with
 |half l b=>have:=h.2.2.2.1;show l≤_;omega
 |opn l=>have:=h.2.1;show l≤_;omega
def ab8(C CO CN:Addr):Sp:=fun vs H Q E=>∃(z:Str) (b:Addr) (s:Sn),vs=[.str z,.ref b]∧(z.cps.all (· < 128))=true∧z.length≤190000∧bg C CO H b s∧(∀rs,gk z rs→∀H',ah H H'→Q (.str (MN s rs)) H')∧((¬∃rs,gk z rs)→∀k H',ah H H'→E (.ref CN) k H')
theorem Uy(T:Tx w K mg):aM P w K mg base (aC P w) 9 T.f_check T.d_check ["text","top"] (ab8 T.C_Half T.C_Open T.C_NoText):=by
 refine T.xk.F.okE Cs ?_ ?_;kj_on
 ·obtain⟨z,b,s,rfl,_⟩:=h;rfl
 obtain⟨z,b,sn,rfl,ha,hl,hb,q,q'⟩:=h;refine⟨_,(ao (aW (i:=2) Cs.nd rfl (by z_go) (ip (Mb T) (hr.mono (by decide)) rfl T.oa.m T.oa.F.kp T.oa.b .nil ji (ae (pv 0) af)))
  (ao (aW (i:=3) Cs.nd rfl (by z_go) (aX (VJ T) (hr.mono (by decide)) rfl T.zi.m T.zi.F.kp T.zi.b .nil aT (ae (pv 2) (ae (pv 1) af))))
  (ao (aQ (aO L0 (pv 3) ie (aD _)) (ap (az (Nw (t5 ai (t5 (CZ (pv 3)) Mj))))) aS)
  (ap (az (c8 jS FL FN (EM (K:=K) rfl) ai (ae (be qP (bQ (ae ai af)) (qu (oN:=["text","top","book","place"]) (osc:=aB wn) (x:="number") (fr:=[]) (ix:=[]) (by refine⟨rfl,?_,?_,rfl,?_,?_,rfl,?_,?_⟩<;>decide +kernel) rfl rfl rfl (kc (K:=K) rfl (aX (Ul T) (hr.mono (by decide)) rfl T.zm.m T.zm.F.kp T.zm.b .nil aT (ae (pv 2) af))) (fun _ _ _ _ _=>qm) (fun _ _ _ _ _=>(gj jF rfl T.gU gW (ae (pv 0) af))))) af))))))),?_⟩
 got_up;refine⟨z,rfl,ha,by omega,fun rs hk l H1 xs s1 hL hR=>?_,fun hn k H1 s1=>q' hn k H1 s1⟩;have rl:=Ze hk;have q1:=q rs hk;have wl:=Z7 rs;have wb:=XU hk.1;unfold MN at q1;clear q q';ke_read;refine⟨l,b,xs,rs,sn,rfl,hL,hR,hb.keep s1,fun r hr=>aco (hk.1 r hr).1,by omega,fun H2 s2=>?_⟩;have rc:=ab2 rs [⟨sn,0,false⟩] 0;cases er:jA [⟨sn,0,false⟩] rs 0 with
 |some k=>
  rw[er]at q1;have kl:=rc k er;show qY 3 (.int (k:Int)) _ _ _;ke_read;refine Dj ?_;refine mE ?_;ke_read;refine⟨_,rfl,by rw[oo];exact cz (by k_go),?_⟩;refine mE ?_;refine uz ?_;ke_read;refine .inr ⟨(k:Int),rfl,hE (by omega) (by omega),?_⟩;have nl:=gK (n:=(k:Int)) (by omega) (by omega);have e7:("cut at " : Str).length=7:=by k_go
  refine⟨aJ (k:Int),rfl,by rw[oo,cO];exact cz (by omega),?_⟩;rw[oo];refine Ed (by rw[cO];exact cz (by omega)) ?_;exact q1 H2 (s1.trans s2)
 |none=>
  rw[er]at q1;show qY 3 .non _ _ _;ke_read;refine⟨rfl,?_⟩;ke_read;rintro p3 H3 ⟨f3,a3,s3,-⟩;have hL3:=s3 _ _ (s2 _ _ hL);have hR3:=hR.nl (bN.of (s2.trans s3));have xl:=hR.len;ke_read;refine⟨l,xs,rs,rfl,ay.of hL3,hR3,An (oJ (by omega)),fun r4 H4 s4 f4 a4=>?_⟩;ke_read;refine Cr (fun _=>true) (fun v=>match v with | .int n=>.str (aJ n)|v=>v) (ay.of a4) (by rw[bo];exact An (oJ (by omega))) ?_ ?_ ?_
  ·intro z hz H5 s5 Q' hQ;ke_read
   first|done|exact hQ
  ·intro z hz _ H5 s5 Q' hQ;obtain⟨n,hn,rfl⟩:=gP.mp hz;ke_read;exact⟨hE (wb n hn).1 (by have:=(wb n hn).2;omega),hQ⟩
  intro l5 H5 s5 f5 a5;rw[vn.mpr fun _ _=>rfl,jo]at a5;replace a5:H5 l5=some (.lst (((lu rs).map aJ).map V.str)):=by rw[a5,jo];rfl
  have a35:=s5 _ _ (s4 _ _ a3);ke_read;refine⟨oJ (by rw[bo,bo];show 1+_≤_;omega),?_⟩;rintro p6 H6 ⟨f6,a6,s6,-⟩;ke_read;refine⟨" ",p6,"right"::(lu rs).map aJ,rfl,rfl,ay.of a6,Y9 wb (by omega),?_⟩;exact q1 H6 (s1.trans (s2.trans (s3.trans (s4.trans (s5.trans s6)))))
theorem TY{fs:List Int}{n:Int}(h:jd fs=.word n):n∈fs:=by
 rcases fs with _|⟨x,_|⟨y,r⟩⟩
 ·cases h
 ·injection h with h;rw[h];exact .head _
 ·cases h
theorem aaM{p:Int→Bool}{hs:List Int}{n:Int}(h:aV p hs=.word n):n∈hs:=(eQ.mp (TY h)).1
structure qk(n:Nat)(s:Sn)(hs:List Int):Prop where
 inn:∀h∈hs,am s h=true
 nd:hs.Nodup
 few:hs.length≤60
 fine:dQ n s hs
 ok:Ok s
 bd:qA (10^60) s
 hb:∀h∈hs,0≤h∧h<10^60
 len:(tk n s hs).length≤80000
theorem QL{C CO a:Addr}{H:Hp}{s:Sn}(h:bg C CO H a s)(hb:qA (10^60) s):BW s:=by
 cases s with
 |half low b=>
  have hb':low+pw b≤2*10^60:=hb;have lo:=bx.lo h;have pp:=fZ b;have b0:=bx.b0 h;have b2:b≤200:=by
   by_cases c:b≤200
   ·exact c
   ·exfalso;have h1:pw 201≤pw b:=oK (by omega);have e:pw 201=2^201:=rfl;omega
  exact⟨b0,b2,lo,by omega⟩
 |opn low=>
  have hb':low≤2*10^60:=hb;exact⟨bX.lo h,by omega⟩
theorem AW{C CO:Addr}{H:Hp}{xs:List V}{rs:List (Sn×Hd)}{n:Nat}{s:Sn}{hs:List Int}(hR:bJ C CO H xs rs)(hm:∀r∈rs,r∈tk n s hs)(t:qk n s hs):∀x∈rs,BW x.1∧BH x.2:=by
 intro x hx;obtain⟨i,hi⟩:=Ac hx;have hl:=hR.len;have hi':i<xs.length:=by rw[hl];exact(gO.mp hi).1
 obtain⟨s',d',e',r⟩:=hR.get (cL hi');rw[hi]at e';injection e' with e';subst e';obtain⟨_,_,_,_,_,hA,_⟩:=r;have hx:=hm _ hx;refine⟨QL hA (DW n s hs _ t.ok t.fine t.bd (fun h z=>(t.hb h z).2) (by decide) _ hx),?_⟩;have ed:=BM n s hs t.ok t.fine _ hx;show BH d';replace ed:d'=aV (am s') hs:=ed;cases d' with
 |hush=>trivial
 |din=>trivial
 |word m=>exact t.hb m (aaM ed.symm)
theorem SG{n:Nat}{s:Sn}{hs:List Int}(f:dQ n s hs):∀r∈st n false s hs,r∈tk n s hs:=by
 rw[←D5 f];intro r hr;unfold uX at hr;obtain⟨i,_,e⟩:=fu.mp hr;exact fw e
theorem To{n:Nat}{s:Sn}{hs:List Int}(f:dQ n s hs):(st n false s hs).length≤(tk n s hs).length:=by
 rw[←D5 f];unfold uX;refine cB (List.length_filterMap_le _ _) (cB (kK _ _) ?_);rw[FB];exact bv _
theorem HP{W:Int}(w0:0≤W):∀(cs:List Int) (b:Int),(∀c∈cs,0≤c∧c≤W)→-1≤b→0≤iO b cs∧iO b cs≤(W+1)*cs.length
 |[],b,_,_=>⟨vi _,by show(0:Int)≤(W+1)*0;omega⟩
 |c::r,b,h,hb=>by
  have hc:=h c (.head _);have ih:=HP w0 r c (fun x hx=>h x (.tail _ hx)) (by omega);have e:(W+1)*((c::r).length:Int)=(W+1)+(W+1)*r.length:=by rw[bI];push_cast;rw[Int.mul_add,On];omega
  rw[e];show 0≤(if 0>c-b then 0 else c-b)+iO c r∧(if 0>c-b then 0 else c-b)+iO c r≤_;split<;>omega
theorem V9{W:Nat}{ns:List Int}(h:∀n∈ns,0≤n∧n<pw (W:Int)):∀c∈la (W:Int) ns,0≤c∧c≤(W:Int):=by
 intro c hc;unfold la at hc;obtain⟨i,hi⟩:=Ac hc;rw[List.getElem?_zipWith_eq_some]at hi;obtain⟨x,y,hx,hy,rfl⟩:=hi;have gx:=h x (fw hx);have gy:=h y (List.mem_of_mem_drop (fw hy));by_cases ne:x=y
 ·subst ne;obtain⟨k,rfl⟩:=kJ gx.1;unfold qj;rw[vU,O9];have:cV ((0:Nat):Int)=0:=by k_go
  rw[this];omega
 ·have:=Um (Oq W) gx.1 gx.2 gy.1 gy.2 ne;omega
theorem xQ.rg{W:Nat}{hs:List Int}{d:Int}(h:xQ W hs d)(w1:W≤200)(hl:hs.length≤120)(rg:∀n∈hs,0≤n∧n<pw (W:Int)):0≤d∧d<10^10:=by
 obtain⟨ns,p,_,rfl⟩:=h;have:=HP (W:=(W:Int)) (by omega) (la (W:Int) ns) (-1) (V9 fun n hn=>rg n (p.mem_iff.mp hn)) (by decide);have l1:=TQ (W:Int) ns;rw[p.length_eq]at l1;have l2:((la (W:Int) ns).length:Int)≤120:=by omega
 have:((W:Int)+1)*((la (W:Int) ns).length:Int)≤201*120:=Int.mul_le_mul (by omega) l2 (by omega) (by decide);omega
def Kb(v:V)(n:Nat):Str:=(match v with | .int k=>aJ k|_=>"nobody")++(" in " : Str)++aJ (n:Int)
def kg:List Str:=["talk","short","turns","least","greatest","paper"]
def Vd:Sp:=fun vs H Q _=>∃(r bk:Addr) (v:V) (xs:List V),vs=[.ref r]∧H r=some (.tup [v,.ref bk])∧H bk=some (.lst xs)∧(v=.non∨∃k:Int,v=.int k∧0≤k∧k<10^61)∧xs.length≤1000∧Q (.str (Kb v xs.length)) H
theorem LG(T:Tx w K mg):aM P w K mg base ba 1 T.f_shown_search T.d_shown_search ["found"] (Vd):=by
 refine T.oW.F.ok Dk ?_ ?_;kj_on
 ·obtain⟨r,bk,v,xs,rfl,_⟩:=h;rfl
 obtain⟨r,bk,v,xs,rfl,hr',hb,hv,hl,q⟩:=h;have lg:=hE (i:=(xs.length:Int)) (by omega) (by omega);have nl:=gK (n:=(xs.length:Int)) (by omega) (by omega);have e4:(" in " : Str).length=4:=by k_go
 refine⟨_,(ao (aW (i:=1) Dk.nd rfl (by z_go) (xx (aO zb (aI (bR (K:=K) rfl) (pv 0) aj (fun _ _=>rfl)) ie (aD _)) ai (aI (bR (K:=K) rfl) (pv 0) aj (fun _ _=>rfl))))
  (ao (aW (i:=2) Dk.nd rfl (by z_go) (bP (fS (K:=K) rfl) rfl T.dJ dF (ae (aI (bR (K:=K) rfl) (pv 0) aj (fun _ _=>rfl)) af)))
  (ap (az (Nw (t5 (CZ (pv 1)) (t5 ai (t5 (CZ (pv 2)) Mj)))))))),?_⟩
 got_up;rcases hv with rfl|⟨k,rfl,k0,k1⟩
 ·ke_read;refine Dj ?_;refine mE ?_;refine uz ?_;ke_read;refine .inl ⟨"nobody",rfl,cz (by k_go),?_⟩;refine⟨_,rfl,by rw[oo];exact cz (by k_go),?_⟩;rw[oo];refine mE ?_;ke_read;refine⟨_,rfl,cz (by k_go),?_⟩;refine mE ?_;refine uz ?_;ke_read;refine .inr ⟨(xs.length:Int),rfl,lg,?_⟩;have qz:(("nobody" : Str)++(" in " : Str)).length=10:=by k_go
  refine⟨aJ (xs.length:Int),rfl,by rw[cO];exact cz (by omega),?_⟩;refine Ed (by rw[cO];exact cz (by omega)) ?_;exact q
 ·have lk:=hE k0 (show k<2^1000 by omega);have kl:=ET k0 k1;ke_read;refine Dj ?_;refine mE ?_;refine uz ?_;ke_read;refine .inr ⟨k,rfl,lk,?_⟩;refine⟨aJ k,rfl,by rw[oo];exact cz (by omega),?_⟩;rw[oo];refine mE ?_;ke_read;refine⟨_,rfl,by rw[cO];exact cz (by omega),?_⟩;refine mE ?_;refine uz ?_;ke_read;refine .inr ⟨(xs.length:Int),rfl,lg,?_⟩;refine⟨aJ (xs.length:Int),rfl,by rw[cO,cO];exact cz (by omega),?_⟩;refine Ed (by rw[cO,cO];exact cz (by omega)) ?_;exact q
def aaS(K:aq)(C CO:Addr):Sp:=fun vs H Q _=>∃(x:Str) (l b:Addr) (hs:List Int) (s:Sn) (n:Nat),vs=[.str x,.ref l,.ref b]∧H l=some (.lst (hs.map V.int))∧bg C CO H b s∧qk n s hs∧x∈kg∧(x="talk"∨x="short"∨∃W:Nat,W≤200∧s=.half 0 (W:Int))∧∀z H',ah H H'→b8 z=true→Q (.str z) H'
theorem Kg{y:Str}(hy:b8 y=true):∀{ts:List Str},(∀t∈ts,b8 t=true)→b8 (cM y ts)=true
 |[],_=>by show b8 mf=true;decide +kernel
 |[a],h=>h a (.head _)
 |a::b::r,h=>kR (kR (h a (.head _)) hy) (Kg hy fun t ht=>h t (.tail _ ht))
theorem lK(n:Int):b8 (aJ n)=true:=Zz _
theorem Tj(r:Sn×Hd):b8 (fK r)=true:=by
 refine kR (kR ?_ (by k_go)) ?_
 ·cases r.1 with
  |half low b=>exact kR (kR (lK _) (by k_go)) (lK _)
  |opn low=>exact kR (lK _) (by k_go)
 ·cases r.2 with
  |hush=>decide +kernel
  |din=>decide +kernel
  |word n=>exact lK n
theorem Dy(rs:List (Sn×Hd)):b8 (yM rs)=true:=by
 cases rs with
 |nil=>decide +kernel
 |cons r t=>
  refine Kg (by k_go) fun x hx=>?_;obtain⟨y,_,rfl⟩:=gP.mp hx;exact Tj y
theorem IX(v:V)(n:Nat):b8 (Kb v n)=true:=by
 refine kR (kR ?_ (by k_go)) (lK _);split
 ·exact lK _
 ·decide +kernel
theorem Lz(sd:Bool){hs:List Int}{W:Nat}(nd:hs.Nodup)(w1:W≤200)(rg:∀h∈hs,0≤h∧h<pw (W:Int)):iy sd hs W (.half 0 (W:Int))=.non∨∃k:Int,iy sd hs W (.half 0 (W:Int))=.int k∧0≤k∧k<10^61:=by
 by_cases e:hs=[]
 ·subst e;exact .inl rfl
 ·obtain⟨m,h1,h2,_⟩:=Tz sd nd (n:=W) (low:=0) (b:=(W:Int)) (by omega) (by omega) (fun h hm=>decide_eq_true (by have:=rg h hm;omega)) e;have:=rg m h2;have p2:pw (W:Int)≤pw 200:=oK (by omega);have e2:pw 200=2^200:=rfl;exact .inr ⟨m,h1,this.1,by omega⟩
theorem Re(T:Tx w K mg):aM P w K mg base ba 8 T.f_answer T.d_answer ["word","hands","top"] (aaS K T.C_Half T.C_Open):=by
 refine T.yh.F.ok Q1 ?_ ?_;kj_on
 ·obtain⟨x,l,b,hs,s,n,rfl,_⟩:=h;rfl
 obtain⟨x,l,b,hs,sn,n,rfl,hl,hb,t,hx,hw,q⟩:=h;have tl:=t.len;have n1:¬("short" : Str)="talk":=by k_go
 have n2:¬("turns" : Str)="talk":=by k_go
 have n3:¬("turns" : Str)="short":=by k_go
 have n4:¬("paper" : Str)="talk":=by k_go
 have n5:¬("paper" : Str)="short":=by k_go
 have n6:¬("paper" : Str)="turns":=by k_go
 have n7:¬("least" : Str)="talk":=by k_go
 have n8:¬("least" : Str)="short":=by k_go
 have n9:¬("least" : Str)="turns":=by k_go
 have na:¬("least" : Str)="paper":=by k_go
 have nb:¬("greatest" : Str)="talk":=by k_go
 have nc:¬("greatest" : Str)="short":=by k_go
 have nd':¬("greatest" : Str)="turns":=by k_go
 have ne':¬("greatest" : Str)="paper":=by k_go
 have nf:¬("greatest" : Str)="least":=by k_go
 have few:hs.length≤900:=cB t.few (by decide);refine⟨_,(ao (aQ (aO br (pv 0) ai (aD _)) (ap (az (aX (Cq T) (hr.mono (by decide)) rfl T.ku.m T.ku.F.kp T.ku.b .nil aT (ae (aX (BC T) (hr.mono (by decide)) rfl T.jZ.m T.jZ.F.kp T.jZ.b .nil aT (ae (pv 1) (ae (pv 2) af))) af)))) aS)
  (ao (aQ (aO br (pv 0) ai (aD _)) (ap (az (aX (Cq T) (hr.mono (by decide)) rfl T.ku.m T.ku.F.kp T.ku.b .nil aT (ae (aX (WX T) (hr.mono (by decide)) rfl T.xU.m T.xU.F.kp T.xU.b .nil aT (ae (pv 1) (ae (pv 2) af))) af)))) aS)
  (ao (aQ (aO br (pv 0) ai (aD _)) (ap (az (gj jF rfl T.gU gW (ae (aX (QN T) (hr.mono (by decide)) rfl T.wy.m T.wy.F.kp T.wy.b .nil aT (ae (pv 1) (ae (cn (K:=K) rfl (pv 2) rfl) af))) af)))) aS)
  (ao (aQ (aO br (pv 0) ai (aD _)) (ap (az (aX (Cq T) (hr.mono (by decide)) rfl T.ku.m T.ku.F.kp T.ku.b .nil aT (ae (aX (abr T) (hr.mono (by decide)) rfl T.wN.m T.wN.F.kp T.wN.b .nil aT (ae (pv 1) (ae (cn (K:=K) rfl (pv 2) rfl) af))) af)))) aS)
  (ao (aQ (aO br (pv 0) ai (aD _)) (ap (az (aX (LG T) (hr.mono (by decide)) rfl T.oW.m T.oW.F.kp T.oW.b .nil aT (ae (aX (TV T) (hr.mono (by decide)) rfl T.zH.m T.zH.F.kp T.zH.b .nil aT (ae (pv 1) (ae (cn (K:=K) rfl (pv 2) rfl) af))) af)))) aS)
  (ap (az (aX (LG T) (hr.mono (by decide)) rfl T.oW.m T.oW.F.kp T.oW.b .nil aT (ae (aX (aa5 T) (hr.mono (by decide)) rfl T.xL.m T.xL.F.kp T.xL.b .nil aT (ae (pv 1) (ae (cn (K:=K) rfl (pv 2) rfl) af))) af))))))))),?_⟩
 got_up;by_cases c1:x="talk"
 ·subst c1;ke_read;refine⟨l,b,hs,sn,n,rfl,hl,few,hb,t.inn,t.nd,t.fine,by omega,fun r H1 xs s1 f1 a1 hR=>?_⟩;ke_read;refine⟨r,xs,_,rfl,a1,hR,AW hR (fun _ z=>z) t,tl,fun H2 s2=>?_⟩;exact q _ H2 (s1.trans s2) (Dy _)
 by_cases c2:x="short"
 ·subst c2;ke_read;refine⟨l,b,hs,sn,n,rfl,hl,few,hb,t.inn,t.nd,t.fine,by omega,fun r H1 xs s1 f1 a1 hR=>?_⟩;ke_read;refine⟨r,xs,_,rfl,a1,hR,AW hR (SG t.fine) t,cB (To t.fine) tl,fun H2 s2=>?_⟩;exact q _ H2 (s1.trans s2) (Dy _)
 obtain⟨W,w1,rfl⟩:∃W:Nat,W≤200∧sn=.half 0 (W:Int):=by
  rcases hw with c|c|c
  ·exact absurd c c1
  ·exact absurd c c2
  ·exact c
 have rg:∀h∈hs,0≤h∧h<pw (W:Int):=fun h hm=>by have:=of_decide_eq_true (t.inn h hm);omega
 obtain⟨dx,hob⟩:=bx.ob hb;have fld:∀{H':Hp},ah H H'→∃dx,H' b=some (.ins T.C_Half dx (oz 0 (W:Int))):=fun sm=>⟨dx,sm _ _ hob⟩;by_cases c3:x="turns"
 ·subst c3;ke_read;refine⟨b,T.C_Half,dx,_,_,rfl,hob,T.dA,T.iG,jj _ _,?_⟩;ke_read;refine⟨l,hs,W,rfl,ay.of hl,by have:=t.few;omega,w1,⟨t.inn,t.nd⟩,fun d H1 s1 hd=>?_⟩;have dr:=hd.rg w1 (cB t.few (by decide)) rg;ke_read;refine⟨hE (by omega) (by omega),?_⟩;exact q _ H1 s1 (lK _)
 by_cases c4:x="paper"
 ·subst c4;ke_read;refine⟨b,T.C_Half,dx,_,_,rfl,hob,T.dA,T.iG,jj _ _,?_⟩;ke_read;refine⟨l,hs,(W:Int),n,rfl,hl,few,by omega,by omega,t.inn,t.nd,t.fine,by omega,fun r H1 xs s1 f1 a1 hR=>?_⟩;ke_read;refine⟨r,xs,_,rfl,a1,hR,AW hR (fun r hr=>(eQ.mp hr).1) t,cB (kK _ _) tl,fun H2 s2=>?_⟩;exact q _ H2 (s1.trans s2) (Dy _)
 by_cases c5:x="least"
 ·subst c5;ke_read;refine⟨b,T.C_Half,dx,_,_,rfl,hob,T.dA,T.iG,jj _ _,?_⟩;ke_read;refine⟨l,hs,(W:Int),rfl,hl,few,by omega,by omega,t.nd,rg,fun r bk H1 xs s1 f1 fb a1 ab hR=>?_⟩;rw[mZ]at a1 hR;have xl:=hR.len;have sl:=M0 false hs W (.half 0 (W:Int));ke_read;refine⟨r,bk,_,xs,rfl,a1,ab,Lz false t.nd w1 rg,by omega,?_⟩;rw[xl];exact q _ H1 s1 (IX _ _)
 have c6:x="greatest":=by
  have this:=hx;unfold kg at this;simp only[bu,gA,or_false]at this;rcases this with c|c|c|c|c|c
  ·exact absurd c c1
  ·exact absurd c c2
  ·exact absurd c c3
  ·exact absurd c c5
  ·exact c
  ·exact absurd c c4
 subst c6;ke_read;refine⟨b,T.C_Half,dx,_,_,rfl,hob,T.dA,T.iG,jj _ _,?_⟩;ke_read;refine⟨l,hs,(W:Int),rfl,hl,few,by omega,by omega,t.nd,rg,fun r bk H1 xs s1 f1 fb a1 ab hR=>?_⟩;rw[mZ]at a1 hR;have xl:=hR.len;have sl:=M0 true hs W (.half 0 (W:Int));ke_read;refine⟨r,bk,_,xs,rfl,a1,ab,Lz true t.nd w1 rg,by omega,?_⟩;rw[xl];exact q _ H1 s1 (IX _ _)
def cJ(v:V)(l:Addr):List (Str×V):=[("top",v),("hands",.ref l)]
theorem Cb:¬(("top" : Str)="hands"):=by k_go
theorem zx(v:V)(l:Addr):cD "hands" (.ref l) (cD "top" v [])=cJ v l:=by
 show(if("top" : Str)="hands" then[(("top" : Str),V.ref l)]else(("top" : Str),v)::cD "hands" (.ref l) [])=_;rw[if_neg Cb];rfl
theorem Ir(v:V)(l l':Addr):cD "hands" (.ref l') (cJ v l)=cJ v l':=by
 show(if("top" : Str)="hands" then _ else(("top" : Str),v)::(if("hands" : Str)="hands" then(("hands" : Str),V.ref l')::[]else _))=_;rw[if_neg Cb,if_pos rfl];rfl
theorem EZ(v v':V)(l:Addr):cD "top" v' (cJ v l)=cJ v' l:=by
 show(if("top" : Str)="top" then(("top" : Str),v')::[(("hands" : Str),V.ref l)]else _)=_;rw[if_pos rfl];rfl
theorem sM(v:V)(l:Addr):(cJ v l).lookup ("top" : Str)=some v:=by
 rw[←zx,hJ,if_neg Cb,hJ,if_pos rfl]
theorem abG(v:V)(l:Addr):(cJ v l).lookup ("hands" : Str)=some (.ref l):=by
 rw[←zx,hJ,if_pos rfl]
theorem ql(v:V)(l:Addr){m:Str}(h1:¬m="hands")(h2:¬m="top"):(cJ v l).lookup m=none:=by
 rw[←zx,hJ,if_neg h1,hJ,if_neg h2];rfl
def GI(C:Addr):Sp:=fun vs H Q _=>∃(p dx:Addr),vs=[.ref p]∧H p=some (.ins C dx [])∧
 ∀(l:Addr) (H':Hp),H l=none→l≠p→H' p=some (.ins C dx (cJ .non l))→H' l=some (.lst [])→(∀b o,b≠p→H b=some o→H' b=some o)→Q .non H'
theorem xV(T:Tx w K mg):aM P w K mg base ba 1 T.f_Desk_init T.d_Desk_init ["self"] (GI T.C_Desk):=by
 refine T.sv.F.ok Q3 ?_ ?_;kj_on
 ·obtain⟨p,dx,rfl,_⟩:=h;rfl
 obtain⟨p,dx,rfl,hp,q⟩:=h;refine⟨_,(ao (mn (pv 0) ie rfl)
  (ap (mn (pv 0) (bQ af) rfl))),?_⟩
 refine⟨_,rfl,p,T.C_Desk,dx,[],rfl,hp,T.gw,T.wv,(by show 0<1000;decide),?_⟩;refine⟨by decide,fun l H2 nw2=>?_⟩;obtain⟨f2,a2,s2,-⟩:=nw2;have hp1:upd H p (HO.ins T.C_Desk dx (cD "top" .non [])) p=some (.ins T.C_Desk dx (cD "top" .non [])):=eB;have hp2:=s2 _ _ hp1;have nl:l≠p:=fun z=>by rw[z,hp1]at f2;cases f2
 refine⟨_,rfl,p,T.C_Desk,dx,_,rfl,hp2,T.gw,T.t6,(by show 1<1000;decide),?_⟩;refine q l _ ?_ nl ?_ ?_ fun b o hb e=>?_
 ·rw[bp nl]at f2;exact f2
 ·rw[eB,zx]
 ·rw[bp nl];exact a2
 ·rw[bp hb];refine s2 _ _ ?_;rw[bp hb];exact e
def Y6(C:Addr):Hp→VK→Prop:=fun H Q=>∀(a l dx:Addr) (H':Hp),ah H H'→H a=none→H l=none→l≠a→H' a=some (.ins C dx (cJ .non l))→H' l=some (.lst [])→Q (.ref a) H'
theorem xP(T:Tx w K mg)(H:Hp)(Q:VK)(h:Y6 T.C_Desk H Q):
  ∀x dx,H x=none→H dx=none→dx≠x→GI T.C_Desk (.ref x::([]++[])) (upd (upd H dx (.own x)) x (.ins T.C_Desk dx [])) (fun v H2=>v=.non∧Q (.ref x) H2) E0:=by
 intro x dx nx ndx ne;refine⟨x,dx,rfl,eB,fun l H' fl nl e el k=>⟨rfl,?_⟩⟩;have fl':H l=none:=by
  rw[bp nl]at fl;by_cases z:l=dx
  ·rw[z,eB]at fl;cases fl
  ·rw[bp z]at fl;exact fl
 refine h x l dx H' (fun b o z=>?_) nx fl' nl e el;exact k b o (db z nx) (by rw[bp (db z nx),bp (db z ndx)];exact z)
def dY(CD C CO:Addr)(H:Hp)(d l:Addr)(s:Sn)(hs:List Int):Prop:=∃dx b,H d=some (.ins CD dx (cJ (.ref b) l))∧bg C CO H b s∧H l=some (.lst (hs.map V.int))
def FrD(d l:Addr)(H H':Hp):Prop:=∀b o,b≠d→b≠l→H b=some o→H' b=some o
theorem bg.byD{C CO a d l:Addr}{H H':Hp}(k:FrD d l H H')(nd:a≠d)(nl:a≠l):∀{s:Sn},bg C CO H a s→bg C CO H' a s
 |.half _ _,h=>⟨let⟨dx,e⟩:=bx.ob h;⟨dx,k _ _ nd nl e⟩,bx.b0 h,bx.b1 h,bx.lo h,bx.big h,bx.mul h⟩
 |.opn _,h=>⟨let⟨dx,e⟩:=bX.ob h;⟨dx,k _ _ nd nl e⟩,bX.lo h,bX.big h,bX.pow h⟩
theorem qW(T:Tx w K mg){H:Hp}{a l dx:Addr}{v:V}(h:H a=some (.ins T.C_Desk dx (cJ v l))):B8 K H a "top" v:=⟨_,dx,_,h,T.gw,T.wv,sM _ _⟩
theorem om(T:Tx w K mg){H:Hp}{a l dx:Addr}{v:V}(h:H a=some (.ins T.C_Desk dx (cJ v l))):B8 K H a "hands" (.ref l):=⟨_,dx,_,h,T.gw,T.t6,abG _ _⟩
def Q9(CD C CO:Addr):Sp:=fun vs H Q _=>∃(d l dx:Addr) (v0 v:V) (s:Sn),vs=[.ref d,v]∧H d=some (.ins CD dx (cJ v0 l))∧((v=.non∧s=.opn 0)∨∃n:Int,v=.int n∧0≤n∧n≤200∧s=.half 0 n)∧
 ∀(l':Addr) (H':Hp),H l'=none→dY CD C CO H' d l' s []→(∀b o,b≠d→H b=some o→H' b=some o)→Q .non H'
theorem QO(T:Tx w K mg):aM P w K mg base ba 6 T.f_Desk_begin T.d_Desk_begin ["self","width"] (Q9 T.C_Desk T.C_Half T.C_Open):=by
 refine T.KN.F.ok acF ?_ ?_;kj_on
 ·obtain⟨d,l,dx,v0,v,s,rfl,_⟩:=h;rfl
 obtain⟨d,l,dx,v0,v,s,rfl,hd,hv,q⟩:=h;refine⟨_,(ao (mn (pv 0) (aX (yN T) (hr.mono (by decide)) rfl T.iR.m T.iR.F.kp T.iR.b .nil aT (ae (pv 1) af)) rfl)
  (ap (mn (pv 0) (bQ af) rfl))),?_⟩
 have fin:∀(a:Addr) (H1:Hp),ah H H1→H a=none→bg T.C_Half T.C_Open H1 a s→∀(l':Addr) (H2:Hp),bS (upd H1 d (.ins T.C_Desk dx (cD "top" (.ref a) (cJ v0 l)))) l' (.lst []) H2→Q .non (upd H2 d (.ins T.C_Desk dx (cD "hands" (.ref l') (cD "top" (.ref a) (cJ v0 l)))))∧H2 d=some (.ins T.C_Desk dx (cD "top" (.ref a) (cJ v0 l))):=fun a H1 s1 fa hA l' H2 nw=>by
  obtain⟨f2,a2,s2,-⟩:=nw;have nl:l'≠d:=fun z=>by rw[z,eB]at f2;cases f2
  have na:a≠d:=fun z=>by rw[z,hd]at fa;cases fa
  have nla:a≠l':=fun z=>by
   rw[bp nl]at f2;cases s with
   |half _ _=>obtain⟨dy,e⟩:=bx.ob hA;rw[z,f2]at e;cases e
   |opn _=>obtain⟨dy,e⟩:=bX.ob hA;rw[z,f2]at e;cases e
  have kp:∀b o,b≠d→H1 b=some o→upd H2 d (.ins T.C_Desk dx (cD "hands" (.ref l') (cD "top" (.ref a) (cJ v0 l)))) b=some o:=fun b o hb e=>by
   rw[bp hb];exact s2 _ _ (by rw[bp hb];exact e)
  refine⟨q l' _ ?_ ⟨dx,a,?_,hA.byD (l:=d) (fun b o hb _ e=>kp b o hb e) na na,?_⟩ fun b o hb e=>kp b o hb (s1 _ _ e),s2 _ _ eB⟩
  ·rw[bp nl]at f2;exact s1.free f2
  ·rw[eB,EZ,Ir]
  ·rw[bp nl];exact a2
 rcases hv with⟨rfl,rfl⟩|⟨n,rfl,n0,n1,rfl⟩
 ·refine⟨_,rfl,_,rfl,.inl ⟨rfl,fun a H1 s1 fa hA=>?_⟩⟩;refine⟨_,rfl,d,T.C_Desk,dx,_,rfl,s1 _ _ hd,T.gw,T.wv,(by show 2<1000;decide),?_⟩;refine⟨by decide,fun l' H2 nw2=>?_⟩;obtain⟨g1,g2⟩:=fin a H1 s1 fa hA l' H2 nw2;exact⟨_,rfl,d,T.C_Desk,dx,_,rfl,g2,T.gw,T.t6,(by rw[EZ];show 2<1000;decide),g1⟩
 ·refine⟨_,rfl,_,rfl,.inr ⟨n,rfl,n0,by omega,fun a H1 s1 fa hA=>?_⟩⟩;refine⟨_,rfl,d,T.C_Desk,dx,_,rfl,s1 _ _ hd,T.gw,T.wv,(by show 2<1000;decide),?_⟩;refine⟨by decide,fun l' H2 nw2=>?_⟩;obtain⟨g1,g2⟩:=fin a H1 s1 fa hA l' H2 nw2;exact⟨_,rfl,d,T.C_Desk,dx,_,rfl,g2,T.gw,T.t6,(by rw[EZ];show 2<1000;decide),g1⟩
def kz:List Str:=["turns","least","greatest","paper"]
theorem Wz:∀t∈kz,b8 t=true:=by
 intro t ht;have h:kz.all b8=true:=by k_go
 exact gf.mp h t ht
theorem dY.keep{CD C CO:Addr}{H H':Hp}{d l:Addr}{s:Sn}{hs:List Int}(h:dY CD C CO H d l s hs)(k:ah H H'):dY CD C CO H' d l s hs:=by
 obtain⟨dx,b,h1,h2,h3⟩:=h;exact⟨dx,b,k _ _ h1,h2.keep k,k _ _ h3⟩
def dG(CD C CO:Addr)(H:Hp)(d l:Addr):Option Sn→List Int→Prop
 |none,hs=>∃dx,H d=some (.ins CD dx (cJ .non l))∧H l=some (.lst (hs.map V.int))
 |some s,hs=>dY CD C CO H d l s hs
theorem dG.keep{CD C CO:Addr}{H H':Hp}{d l:Addr}{os:Option Sn}{hs:List Int}(h:dG CD C CO H d l os hs)(k:ah H H'):dG CD C CO H' d l os hs:=by
 cases os with
 |none=>
  obtain⟨dx,h1,h2⟩:=h;exact⟨dx,k _ _ h1,k _ _ h2⟩
 |some s=>exact dY.keep h k
theorem dG.ob{CD C CO:Addr}{H:Hp}{d l:Addr}{os:Option Sn}{hs:List Int}(h:dG CD C CO H d l os hs):∃dx v,H d=some (.ins CD dx (cJ v l)):=by
 cases os with
 |none=>
  obtain⟨dx,h1,h2⟩:=h;exact⟨dx,_,h1⟩
 |some s=>
  obtain⟨dx,b,h1,_⟩:=h;exact⟨dx,_,h1⟩
def iQ(os:Option Sn)(x:Str):Prop:=∃s,os=some s∧(x∈kz→∃low w,s=.half low w)
def YO(CD C CO CN:Addr):Sp:=fun vs H Q E=>∃(d l:Addr) (os:Option Sn) (hs:List Int) (x:Str),vs=[.ref d,.str x]∧dG CD C CO H d l os hs∧b8 x=true∧(iQ os x→Q .non H)∧(¬iQ os x→∀H',ah H H'→E (.ref CN) none H')
theorem Xa(T:Tx w K mg):aM P w K mg base (aC P w) 1 T.f_Desk_refuse_without_line T.d_Desk_refuse_without_line ["self","word"] (YO T.C_Desk T.C_Half T.C_Open T.C_NoLine):=by
 refine T.GP.F.okE abu ?_ ?_;kj_on
 ·obtain⟨d,l,os,hs,x,rfl,_⟩:=h;rfl
 obtain⟨d,l,os,hs,x,rfl,hD,ok,q,q'⟩:=h;refine⟨_,(ao (aQ (aO zb (cn (K:=K) rfl (pv 0) rfl) ie (aD _)) (ap (gv T.Cg rfl T.BY (ae ai af))) aS)
  (ap (aQ (PW.pt (lD (aO (KY (K:=K) rfl hr.units) (pv 1) (dC (v:=.ref T.a_OF_A_WIDTH) rfl T.Wo rfl) (by with_unfolding_all rfl)) (kQ (fk (cy (bP (lL (K:=K) rfl) rfl T.fN fD (ae (cn (K:=K) rfl (pv 0) rfl) (ae (dC (v:=.ref T.C_Half) rfl T.lP rfl) af)))))))) (ap (gv T.Cg rfl T.BY (ae ai af))) aS))),?_⟩
 got_up;cases os with
 |none=>
  obtain⟨dx,hd,hl⟩:=hD;refine ij (qW T hd) ?_;ke_read;exact q' (fun⟨s,e,_⟩=>nomatch e) H (ah.refl _)
 |some sn=>
  obtain⟨dx,b,hd,hb,hl⟩:=hD;refine ij (qW T hd) ?_;ke_read;refine LI T.RO.at_ ok Wz ?_;by_cases hw:x∈kz
  ·rw[show decide (x∈(["turns","least","greatest","paper"]:List Str))=true from decide_eq_true hw];ke_read;refine ij (qW T hd) ?_;ke_read;cases sn with
   |half low w=>
    obtain⟨dy,e⟩:=bx.ob hb;refine iS (c:=.ref T.C_Half) rfl (T.ty_Half e) T.C4 ?_;ke_read;exact q ⟨_,rfl,fun _=>⟨low,w,rfl⟩⟩
   |opn low=>
    obtain⟨dy,e⟩:=bX.ob hb;refine iS (c:=.ref T.C_Half) rfl (T.ty_Open e) T.Cp ?_;ke_read;exact q' (fun⟨s,e,h⟩=>by obtain⟨l',w',z⟩:=h hw;injection e with e;rw[←e]at z;cases z) H (ah.refl _)
  ·rw[show decide (x∈(["turns","least","greatest","paper"]:List Str))=false from decide_eq_false hw];ke_read;exact q ⟨_,rfl,fun z=>absurd z hw⟩
def ZN(CD C CO CNs:Addr):Sp:=fun vs H Q E=>∃(d l:Addr) (s:Sn) (hs:List Int) (n:Int),vs=[.ref d,.int n]∧dY CD C CO H d l s hs∧hs.length≤120∧
 (hs.length<120∧iw s (hs++[n])→∀(l':Addr) (H':Hp),H l'=none→dY CD C CO H' d l' s (hs++[n])→(∀b o,b≠d→H b=some o→H' b=some o)→Q (.str (aJ ((hs.length:Int)+1))) H')∧
 (¬(hs.length<120∧iw s (hs++[n]))→∀H':Hp,ah H H'→E (.ref CNs) none H')
theorem Zc(T:Tx w K mg):aM P w K mg base (aC P w) 3 T.f_Desk_come T.d_Desk_come ["self","number"] (ZN T.C_Desk T.C_Half T.C_Open T.C_NoHands):=by
 refine T.Hm.F.okE Kz ?_ ?_;kj_on
 ·obtain⟨d,l,s,hs,n,rfl,_⟩:=h;rfl
 obtain⟨d,l,sn,hs,n,rfl,⟨dx,b,hd,hb,hl⟩,len,q,q'⟩:=h;refine⟨_,(ao (aQ (aO sy (bP (fS (K:=K) rfl) rfl T.dJ dF (ae (cn (K:=K) rfl (pv 0) rfl) af)) (dC (v:=.int 120) rfl T.abg T.Xs) (aD _)) (ap (gv T.wa rfl T.wx (ae ai af))) aS)
  (ao (aW (i:=2) Kz.nd rfl (by z_go) (be qP (cn (K:=K) rfl (pv 0) rfl) (bQ (ae (pv 1) af))))
  (ao (dB (ip (Nm T) (hr.mono (by decide)) rfl T.iU.m T.iU.F.kp T.iU.b .nil ji (ae (pv 2) (ae (cn (K:=K) rfl (pv 0) rfl) af))))
  (ao (mn (pv 0) (pv 2) rfl)
  (ap (az (gj jF rfl T.gU gW (ae (bP (fS (K:=K) rfl) rfl T.dJ dF (ae (cn (K:=K) rfl (pv 0) rfl) af)) af)))))))),?_⟩
 got_up;refine ij (om T hd) ?_;ke_read;rw[bo];refine cG (fun c=>?_) (fun c=>?_)
 ·ke_read;exact q' (fun z=>by omega) H (ah.refl _)
 have qh:hs.length<120:=by omega
 ke_read;refine ij (om T hd) ?_;ke_read;rintro p1 H1 ⟨f1,a1,s1,-⟩;have hl1:=s1 _ _ hl;have hz:(hs.map V.int).length+[V.int n].length≤sizeLine:=cz (by rw[bo];show hs.length+1≤5000;omega);ke_read;rintro l' H2 ⟨f2,a2,s2,-⟩;have s02:=s1.trans s2;have hd2:=s02 _ _ hd;have hb2:=hb.keep s02;rw[show(hs.map V.int)++[V.int n]=(hs++[n]).map V.int by rw[m8];rfl]at a2;ke_read;refine ij (qW T hd2) ?_;ke_read;refine⟨l',b,hs++[n],sn,rfl,ay.of a2,by rw[dm];show hs.length+1≤900;omega,hb2,fun og H3 s3=>?_,fun ng H3 s3=>q' (fun z=>ng z.2) H3 (s02.trans s3)⟩;have s03:=s02.trans s3;have hd3:=s03 _ _ hd;have a3:=s3 _ _ a2;have fl:H l'=none:=s1.free f2;have nl:l'≠d:=fun z=>by rw[z,hd]at fl;cases fl
 have nb:b≠d:=fun z=>by
  cases sn with
  |half _ _=>obtain⟨dy,e⟩:=bx.ob hb;rw[z,hd]at e;injection e with e;injection e with e1 e2 e3;exact absurd (congrArg (fun f=>f.lookup ("top" : Str)) e3) (by rw[sM,qt _ _ (by k_go) (by k_go)];intro c;cases c)
  |opn _=>obtain⟨dy,e⟩:=bX.ob hb;rw[z,hd]at e;injection e with e;injection e with e1 e2 e3;exact absurd (congrArg (fun f=>f.lookup ("top" : Str)) e3) (by rw[sM,qx _ (by k_go)];intro c;cases c)
 ke_read;refine⟨_,rfl,_,rfl,d,T.C_Desk,dx,_,rfl,hd3,T.gw,T.t6,(by show 2<1000;decide),?_⟩;rw[Ir];have hd4:upd H3 d (.ins T.C_Desk dx (cJ (.ref b) l')) d=some (.ins T.C_Desk dx (cJ (.ref b) l')):=eB;have kp:∀z o,z≠d→H3 z=some o→upd H3 d (.ins T.C_Desk dx (cJ (.ref b) l')) z=some o:=fun z o hz e=>by rw[bp hz];exact e
 generalize upd H3 d (.ins T.C_Desk dx (cJ (.ref b) l'))=H4 at hd4 kp⊢;have a4:=kp _ _ nl a3;ke_read;refine ij (om T hd4) ?_;ke_read;have e1:(((hs++[n]).map V.int).length:Int)=(hs.length:Int)+1:=by rw[bo,dm];rfl
 rw[e1];ke_read;refine⟨hE (by omega) (by omega),?_⟩;ke_read;exact q ⟨qh,og⟩ l' H4 fl ⟨dx,b,hd4,(hb2.keep s3).byD (l:=d) (fun z o hz _ e=>kp z o hz e) nb nb,a4⟩ fun z o hz e=>kp z o hz (s03 _ _ e)
def Xi(CD C CO CN:Addr):Sp:=fun vs H Q E=>∃(d l:Addr) (s:Sn) (hs:List Int) (n:Int),vs=[.ref d,.int n]∧dY CD C CO H d l s hs∧hs.length≤120∧
 (n∈hs→∀(H':Hp),dY CD C CO H' d l s (hs.erase n)→(∀b o,b≠l→H b=some o→H' b=some o)→Q (.str (aJ ((hs.length:Int)-1))) H')∧
 (¬n∈hs→∀H':Hp,ah H H'→E (.ref CN) none H')
theorem TR(T:Tx w K mg):aM P w K mg base (aC P w) 1 T.f_Desk_go T.d_Desk_go ["self","number"] (Xi T.C_Desk T.C_Half T.C_Open T.C_NoHand):=by
 refine T.NG.F.okE YU ?_ ?_;kj_on
 ·obtain⟨d,l,s,hs,n,rfl,_⟩:=h;rfl
 obtain⟨d,l,sn,hs,n,rfl,⟨dx,b,hd,hb,hl⟩,len,q,q'⟩:=h;refine⟨_,(ao (aQ (aO (HH (K:=K) rfl) (pv 1) (cn (K:=K) rfl (pv 0) rfl) (by with_unfolding_all rfl)) (ap (gv T.KJ rfl T.L5 (ae ai af))) aS)
  (ao (dB (c8 ff Fm Pf IZ (cn (K:=K) rfl (pv 0) rfl) (ae (pv 1) af)))
  (ap (az (gj jF rfl T.gU gW (ae (bP (fS (K:=K) rfl) rfl T.dJ dF (ae (cn (K:=K) rfl (pv 0) rfl) af)) af)))))),?_⟩
 got_up;refine ij (om T hd) ?_;ke_read;refine C9 (fun c=>?_) (fun c=>?_)
 ·ke_read;refine ij (om T hd) ?_;ke_read;refine Ng hl c fun H2 p2=>?_;have nd:d≠l:=fun z=>by rw[z,hl]at hd;cases hd
  have nb:b≠l:=fun z=>by
   cases sn with
   |half _ _=>obtain⟨dy,e⟩:=bx.ob hb;rw[z,hl]at e;cases e
   |opn _=>obtain⟨dy,e⟩:=bX.ob hb;rw[z,hl]at e;cases e
  have kp:∀z o,z≠l→H z=some o→H2 z=some o:=fun z o hz e=>by rw[p2.else_ z hz];exact e
  have hd2:=kp _ _ nd hd;have a2:=p2.at_;ke_read;refine ij (om T hd2) ?_;ke_read;have hp:0<hs.length:=OD c;have e1:(((hs.erase n).map V.int).length:Int)=(hs.length:Int)-1:=by rw[bo,Ag c];omega
  rw[e1];ke_read;refine⟨hE (by omega) (by omega),?_⟩;ke_read;exact q c H2 ⟨dx,b,hd2,hb.byD (d:=l) (l:=l) (fun z o hz _ e=>kp z o hz e) nb nb,a2⟩ kp
 ·ke_read;exact q' c H (ah.refl _)
theorem wU:∀x∈kg,x∈gH∧¬x="line"∧¬x="open"∧¬x="come"∧¬x="go"∧¬x="check"∧b8 x=true∧(x="talk"∨x="short"∨x∈kz):=by
 intro x hx;have h:kg.all (fun x=>decide (x∈gH) && !decide (x="line") && !decide (x="open") && !decide (x="come") && !decide (x="go") && !decide (x="check")&&b8 x&&(decide (x="talk")||decide (x="short")||decide (x∈kz)))=true:=by k_go
 have:=gf.mp h x hx;simp only[gb,zO,N2,decide_eq_true_eq,decide_eq_false_iff_not]at this;obtain⟨⟨⟨⟨⟨⟨⟨h1,h2⟩,h3⟩,h4⟩,h5⟩,h6⟩,h7⟩,h8⟩:=this;refine⟨h1,h2,h3,h4,h5,h6,h7,?_⟩;rcases h8 with(h8|h8)|h8
 ·exact .inl h8
 ·exact .inr (.inl h8)
 ·exact .inr (.inr h8)
theorem MA:∀x∈gH,x="open"∨x∈kg:=by
 intro x hx;have h:gH.all (fun x=>decide (x="open")||decide (x∈kg))=true:=by k_go
 have:=gf.mp h x hx;simp only[zO,decide_eq_true_eq]at this;exact this
def oF(x:Str)(a:V)(s:Sn):Prop:=(x="open"∧s=.opn 0)∨(x="line"∧∃n:Int,a=.int n∧0≤n∧n≤200∧s=.half 0 n)
def LZ(CD C CO CN CL CT CNs CNh:Addr):Sp:=fun vs H Q E=>∃(d:Addr) (v:V) (l:Addr) (os:Option Sn) (hs:List Int),vs=[.ref d,v]∧dG CD C CO H d l os hs∧hs.length≤120∧
 ((gi H v∧∀k H',ah H H'→E (.ref CN) k H')∨∃z:Str,v=.str z∧(z.cps.all (· < 128))=true∧z.length≤190000∧((¬∃x a,eX z x a)→∀k H',ah H H'→E (.ref CN) k H')∧
  ∀x a,eX z x a→
   (∀s,oF x a s→∀(l':Addr) (H':Hp),H l'=none→dY CD C CO H' d l' s []→(∀b o,b≠d→H b=some o→H' b=some o)→Q (.str z) H')∧
   (¬x="open"→¬x="line"→¬iQ os x→∀H',ah H H'→E (.ref CL) none H')∧
   (∀s,os=some s→iQ os x→
    (∀n:Int,x="come"→a=.int n→(hs.length<120∧iw s (hs++[n])→∀(l':Addr) (H':Hp),H l'=none→dY CD C CO H' d l' s (hs++[n])→(∀b o,b≠d→H b=some o→H' b=some o)→Q (.str (aJ ((hs.length:Int)+1))) H')∧(¬(hs.length<120∧iw s (hs++[n]))→∀H':Hp,ah H H'→E (.ref CNs) none H'))∧
    (∀n:Int,x="go"→a=.int n→(n∈hs→∀(H':Hp),dY CD C CO H' d l s (hs.erase n)→(∀b o,b≠l→H b=some o→H' b=some o)→Q (.str (aJ ((hs.length:Int)-1))) H')∧(¬n∈hs→∀H':Hp,ah H H'→E (.ref CNh) none H'))∧
    (∀t:Str,x="check"→a=.str t→(∀rs,gk t rs→∀(y:Str) (H':Hp),ah H H'→Q (.str y) H')∧((¬∃rs,gk t rs)→∀k H',ah H H'→E (.ref CT) k H'))∧
    (x∈kg→∃n,qk n s hs∧(∀low w,s=.half low w→low=0∧w≤200)∧∀(y:Str) (H':Hp),ah H H'→b8 y=true→Q (.str y) H')))
theorem Ci(T:Tx w K mg):aM P w K mg base (aC P w) 10 T.f_Desk_told T.d_Desk_told ["self","order"] (LZ T.C_Desk T.C_Half T.C_Open T.C_NoOrder T.C_NoLine T.C_NoText T.C_NoHands T.C_NoHand):=by
 refine T.zM.F.okE Er ?_ ?_;kj_on
 ·obtain⟨d,v,l,os,hs,rfl,_⟩:=h;rfl
 obtain⟨d,v,l,os,hs,rfl,hD,hl,h⟩:=h;have m1:∀v l,(cJ v l).lookup ("begin" : Str)=none:=fun v l=>ql _ _ (by k_go) (by k_go);have m2:∀v l,(cJ v l).lookup ("refuse_without_line" : Str)=none:=fun v l=>ql _ _ (by k_go) (by k_go);have m3:∀v l,(cJ v l).lookup ("come" : Str)=none:=fun v l=>ql _ _ (by k_go) (by k_go);have m4:∀v l,(cJ v l).lookup ("go" : Str)=none:=fun v l=>ql _ _ (by k_go) (by k_go);have o1:¬("open" : Str)="line":=by k_go
 have c1:¬("come" : Str)="line":=by k_go
 have c2:¬("come" : Str)="open":=by k_go
 have g1:¬("go" : Str)="line":=by k_go
 have g2:¬("go" : Str)="open":=by k_go
 have g3:¬("go" : Str)="come":=by k_go
 have k1:¬("check" : Str)="line":=by k_go
 have k2:¬("check" : Str)="open":=by k_go
 have k3:¬("check" : Str)="come":=by k_go
 have k4:¬("check" : Str)="go":=by k_go
 refine⟨_,(ao (aW (i:=2) Er.nd rfl (by z_go) (ip (SN T) (hr.mono (by decide)) rfl T.zK.m T.zK.F.kp T.zK.b .nil ji (ae (pv 1) af)))
  (ao (aW (i:=3) Er.nd rfl (by z_go) (aI (bR (K:=K) rfl) (pv 2) aj (fun _ _=>rfl)))
  (ao (aQ (PW.pt (fg (aO br (pv 3) ai (aD _)) (fW (aO br (pv 3) ai (aD _))))) (ao (dB (Eu (pv 0) T.gw T.Ri (QO T) (hr.mono (by decide)) T.KN.b .nil aT (ae (aI (bR (K:=K) rfl) (pv 2) aj (fun _ _=>rfl)) af)))
  (ap (az (pv 1)))) aS)
  (ao (dB (xR (pv 0) T.gw T.Rp (Xa T) (hr.mono (by decide)) T.GP.b ji (ae (pv 3) af)))
  (ao (aQ (aO br (pv 3) ai (aD _)) (ap (az (xR (pv 0) T.gw T.Qt (Zc T) (hr.mono (by decide)) T.Hm.b ji (ae (aI (bR (K:=K) rfl) (pv 2) aj (fun _ _=>rfl)) af)))) aS)
  (ao (aQ (aO br (pv 3) ai (aD _)) (ap (az (xR (pv 0) T.gw T.SK (TR T) (hr.mono (by decide)) T.NG.b ji (ae (aI (bR (K:=K) rfl) (pv 2) aj (fun _ _=>rfl)) af)))) aS)
  (ao (aQ (aO br (pv 3) ai (aD _)) (ap (az (ip (Uy T) (hr.mono (by decide)) rfl T.xk.m T.xk.F.kp T.xk.b .nil ji (ae (aI (bR (K:=K) rfl) (pv 2) aj (fun _ _=>rfl)) (ae (cn (K:=K) rfl (pv 0) rfl) af))))) aS)
  (ap (az (aX (Re T) (hr.mono (by decide)) rfl T.yh.m T.yh.F.kp T.yh.b .nil aT (ae (pv 3) (ae (cn (K:=K) rfl (pv 0) rfl) (ae (cn (K:=K) rfl (pv 0) rfl) af))))))))))))),?_⟩
 got_up;rcases h with⟨nv,q⟩|⟨z,rfl,za,zl,qn,qo⟩
 ·exact⟨_,rfl,.inl ⟨nv,fun k H' s=>q k H' s⟩⟩
 refine⟨_,rfl,.inr ⟨z,rfl,za,by omega,fun x a ho r H1 s1 f1 a1=>?_,fun hn k H' s=>qn hn k H' s⟩⟩;obtain⟨pl,pn,po⟩:=qo x a ho;clear qo qn;have hD1:=hD.keep s1;obtain⟨dx,v0,hd1⟩:=hD1.ob;rcases ho with⟨hx,rfl,rfl⟩|⟨t,rfl,rfl,rfl⟩|⟨n,rfl,rfl,n0,n1,rfl⟩|⟨n,hx,rfl,n0,n1,rfl⟩
 ·rcases MA z hx with rfl|hz
  ·ke_read;refine⟨d,dx,_,rfl,hd1,m1 _ _,?_⟩;ke_read;refine⟨d,l,dx,v0,.non,_,rfl,hd1,.inl ⟨rfl,rfl⟩,fun l' H2 f2 hD2 k2=>?_⟩;ke_read;exact pl _ (.inl ⟨rfl,rfl⟩) l' H2 (s1.free f2) hD2 fun b o hb e=>k2 b o hb (s1 _ _ e)
  ·obtain⟨_,e1,e2,e3,e4,e5,sk',hw⟩:=wU z hz;ke_read;refine⟨d,dx,_,rfl,hd1,m2 _ _,?_⟩;ke_read;refine⟨d,l,os,hs,z,rfl,hD1,sk',fun lo=>?_,fun nl H2 s2=>pn e2 e1 nl H2 (s1.trans s2)⟩;obtain⟨s',rfl,hwd⟩:=id lo;obtain⟨n,tw,hh,q⟩:=(po s' rfl lo).2.2.2 hz;obtain⟨dx,b,hd1,hb1,hl1⟩:=id hD1;ke_read;refine ij (om T hd1) ?_;ke_read;refine ij (qW T hd1) ?_;ke_read;refine⟨z,l,b,hs,s',n,rfl,hl1,hb1,tw,hz,?_,fun y H2 s2 zo=>q y H2 (s1.trans s2) zo⟩;rcases hw with c|c|c
   ·exact .inl c
   ·exact .inr (.inl c)
   ·obtain⟨low,w,rfl⟩:=hwd c;obtain⟨rfl,w2⟩:=hh low w rfl;obtain⟨W,rfl⟩:=kJ (show 0≤w from tw.ok);exact .inr (.inr ⟨W,by omega,rfl⟩)
 ·ke_read;refine⟨d,dx,_,rfl,hd1,m2 _ _,?_⟩;ke_read;refine⟨d,l,os,hs,"check",rfl,hD1,by k_go,fun lo=>?_,fun nl H2 s2=>pn k2 k1 nl H2 (s1.trans s2)⟩;obtain⟨s',rfl,_⟩:=id lo;obtain⟨q,q'⟩:=(po s' rfl lo).2.2.1 t rfl rfl;obtain⟨dx,b,hd1,hb1,hl1⟩:=id hD1;have ta:=(oQ za).2;have tl:t.length≤190000:=by
   rw[cO,cO]at zl;omega
  ke_read;refine ij (qW T hd1) ?_;ke_read;exact⟨t,b,s',rfl,ta,tl,hb1,fun rs hk H2 s2=>q rs hk _ H2 (s1.trans s2),fun hn k H2 s2=>q' hn k H2 (s1.trans s2)⟩
 ·ke_read;refine⟨d,dx,_,rfl,hd1,m1 _ _,?_⟩;ke_read;refine⟨d,l,dx,v0,.int n,_,rfl,hd1,.inr ⟨n,rfl,n0,n1,rfl⟩,fun l' H2 f2 hD2 k2=>?_⟩;ke_read;exact pl _ (.inr ⟨rfl,n,rfl,n0,n1,rfl⟩) l' H2 (s1.free f2) hD2 fun b o hb e=>k2 b o hb (s1 _ _ e)
 ·rcases hx with rfl|rfl
  ·ke_read;refine⟨d,dx,_,rfl,hd1,m2 _ _,?_⟩;ke_read;refine⟨d,l,os,hs,"come",rfl,hD1,by k_go,fun lo=>?_,fun nl H2 s2=>pn c2 c1 nl H2 (s1.trans s2)⟩;obtain⟨s',rfl,_⟩:=id lo;obtain⟨q,q'⟩:=(po s' rfl lo).1 n rfl rfl;obtain⟨dx,b,hd1,_⟩:=id hD1;ke_read;refine⟨d,dx,_,rfl,hd1,m3 _ _,?_⟩;ke_read;exact⟨d,l,s',hs,n,rfl,hD1,hl,fun ok l' H2 f2 hD2 k2=>q ok l' H2 (s1.free f2) hD2 fun b o hb e=>k2 b o hb (s1 _ _ e),fun nk H2 s2=>q' nk H2 (s1.trans s2)⟩
  ·ke_read;refine⟨d,dx,_,rfl,hd1,m2 _ _,?_⟩;ke_read;refine⟨d,l,os,hs,"go",rfl,hD1,by k_go,fun lo=>?_,fun nl H2 s2=>pn g2 g1 nl H2 (s1.trans s2)⟩;obtain⟨s',rfl,_⟩:=id lo;obtain⟨q,q'⟩:=(po s' rfl lo).2.1 n rfl rfl;obtain⟨dx,b,hd1,_⟩:=id hD1;ke_read;refine⟨d,dx,_,rfl,hd1,m4 _ _,?_⟩;ke_read;exact⟨d,l,s',hs,n,rfl,hD1,hl,fun hm H2 hD2 k2=>q hm H2 hD2 fun b o hb e=>k2 b o hb (s1 _ _ e),fun nm H2 s2=>q' nm H2 (s1.trans s2)⟩
def cj(z:Str)(n:Nat):Prop:=(z.cps.all (· < 128))=true∧z.length≤n
theorem cj.app{x y:Str}{a b:Nat}(hx:cj x a)(hy:cj y b):cj (x++y) (a+b):=by
 refine⟨?_,by rw[cO];have:=hx.2;have:=hy.2;omega⟩;rw[←kE,gB,gM,Ot,gb,kE,kE];exact⟨hx.1,hy.1⟩
theorem cj.mono{x:Str}{a b:Nat}(hx:cj x a)(h:a≤b):cj x b:=⟨hx.1,cB hx.2 h⟩
theorem GR{n:Int}(n0:0≤n)(n1:n<10^60):cj (aJ n) 60:=⟨aag n0,gK n0 n1⟩
theorem WD{z:Str}{n:Nat}(h:cj z n)(lo hi:Option Int):cj (gD z lo hi) n:=by
 refine⟨?_,cB (vD z lo hi) h.2⟩;unfold gD;split
 ·exact h.1
 ·rw[←kE,gf];intro c hc;have hc':c∈(Fd lo hi 1 z.length).filterMap (z.cps[·]?):=hc;obtain⟨i,_,e⟩:=fu.mp hc';have h1:=h.1;rw[←kE,gf]at h1;exact h1 c (fw (by rw[zN];exact e))
section
variable{X:Cx}
def Lg:TE:=fun _ H Q=>∀(p:Addr) (H':Hp),bS H p (.dK []) H'→Q (.ref p) H'
unseal L2.PE in
theorem Wr{pos:Pos}:PE X (.Dict [] [] pos) Lg:=by
 intro aa s σ H Q I h;rw[eval_Dict_empty];refine aE (kO ?_);refine vR ?_;have I2:=I.laid (a:=s.heap.objs.size) (o:=.dK []) (t':=s.toks) (h':=s.heap.push {cls:=.type "dict",data:=.dict #[]}) (fun b o e=>dL _ e) (bv _)
  ⟨fe _,beq_eq_false_iff_ne.mpr (cH (cC (Q7 I))),[],.nil,Od s.heap⟩
 exact⟨.ref s.heap.objs.size,_,I2,rfl,h _ _ (bS.mk' (I.hok.fresh (bv _)) _)⟩
theorem Y8{σ : St}{H:Hp}{Q:VK}(h:∀(p:Addr) (H':Hp),bS H p (.dK []) H'→Q (.ref p) H'):Lg σ H Q:=h
end
theorem X5{ns:List Int}{i:Nat}(h:i<ns.length):cw (ns.map V.int) (0+(i:Int))=some (.int ns[i]):=by
 rw[zZ];exact ox (by rw[iC,cL h];rfl)
def aat(K:aq):Sp:=fun vs H Q _=>∃(a:Addr) (ns:List Int) (k:Int),vs=[.ref a,.int k]∧ay K H a (ns.map V.int)∧0≤k∧∀z:Int,Q (.int z) H
theorem RI(T:Tx w K mg):aM P w K mg base ba 1 T.f_l_cell_at T.d_l_cell_at ["script","k"] (aat K):=by
 refine T.xj.F.ok V4 ?_ ?_;kj_on
 ·obtain⟨a,ns,k,rfl,_⟩:=h;rfl
 obtain⟨a,ns,k,rfl,hS,k0,q⟩:=h;refine⟨_,(ao (aQ (aO uY (pv 1) (bP (fS (K:=K) rfl) rfl T.dJ dF (ae (pv 0) af)) (aD _)) (ap (az (aI (ck (K:=K) rfl) (pv 0) (pv 1) (fun _ _=>rfl)))) aS)
  (ap (az aj))),?_⟩
 got_up;refine cG (fun c=>?_) (fun c=>?_)
 ·ke_read;rw[bo]at c;have hk:k.toNat<ns.length:=by omega
  refine HN hS (v:=.int ns[k.toNat]) ?_ (q _);have:=X5 hk;rw[zZ,show((k.toNat:Nat):Int)=k by omega]at this;exact this
 ·ke_read;exact q 0
def aaU:Sp:=fun vs H Q _=>∃cell k:Int,vs=[.int cell,.int k]∧0≤k∧k≤1000∧∀r:Int,0≤r→r<2^61→Q (.int r) H
theorem acA(T:Tx w K mg):aM P w K mg base ba 1 T.f_l_drawn T.d_l_drawn ["cell","k"] (aaU):=by
 refine T.y7.F.ok Em ?_ ?_;kj_on
 ·obtain⟨cell,k,rfl,_⟩:=h;rfl
 obtain⟨cell,k,rfl,h0,h1,q⟩:=h;have r0:0≤cell%10^40:=zY _ (by decide);have r1:cell%10^40<10^40:=zX _ (by decide);have md:∀z:Int,0≤z%2305843009213693951∧z%2305843009213693951<2305843009213693951:=fun z=>⟨zY _ (by decide),zX _ (by decide)⟩;have c1:oO 7 k:=⟨⟨by decide,by decide⟩,by omega,by omega⟩;have c2:oO (cell%10^40+7*k+1) 2654435769:=⟨⟨by omega,by omega⟩,by decide,by decide⟩;have c3:∀z:Int,oO (z%2305843009213693951) (z%2305843009213693951):=fun z=>by
  have a:=md z;exact⟨⟨by omega,by omega⟩,by omega,by omega⟩
 have c3':=c3 ((cell%10^40+7*k+1)*2654435769);have c4:∀z:Int,oO (z%2305843009213693951) 40503:=fun z=>by
  have a:=md z;exact⟨⟨by omega,by omega⟩,by decide,by decide⟩
 have c4':=c4 ((cell%10^40+7*k+1)*2654435769%2305843009213693951*((cell%10^40+7*k+1)*2654435769%2305843009213693951));have c5:oO k k:=⟨⟨by omega,by omega⟩,by omega,by omega⟩;refine⟨_,(ao (aW (i:=2) Em.nd rfl (by z_go) (be mF (be pA (be mj (be mj (be mF (pv 0) (VR (v:=10^40))) (be pA aj (pv 1))) aj) aj) aj))
  (ao (aW (i:=2) Em.nd rfl (by z_go) (be mF (be pA (pv 2) (pv 2)) aj))
  (ap (az (be YH (be mF (be mj (be pA (pv 2) aj) (be pA (pv 1) (pv 1))) aj) aj))))),?_⟩
 got_up;have g:∀z:Int,0≤z%2305843009213693951/8∧z%2305843009213693951/8<2^61:=fun z=>by
  have a:=md z;omega
 exact q _ (g _).1 (g _).2
def Uo:Sp:=fun vs H Q _=>∃(cell:Int) (own:Bool) (k many:Int),vs=[.int cell,.bl own,.int k,.int many]∧0≤k∧k≤100∧0<many∧∀r:Int,0≤r→r<many→Q (.int r) H
theorem iT(T:Tx w K mg):aM P w K mg base ba 2 T.f_l_pick T.d_l_pick ["cell","own","k","many"] (Uo):=by
 refine T.ci.F.ok Sy ?_ ?_;kj_on
 ·obtain⟨cell,own,k,many,rfl,_⟩:=h;rfl
 obtain⟨cell,own,k,many,rfl,k0,k1,m0,q⟩:=h;have cm:oO 20 k:=⟨⟨by decide,by decide⟩,by omega,by omega⟩;have md:∀z:Int,0≤z%many∧z%many<many:=fun z=>⟨zY _ (by omega),zX _ m0⟩;refine⟨_,(ao (aQ (cy (pv 1)) (ap (az (be mF (be xO (pv 0) (be pA aj (pv 2))) (pv 3)))) aS)
  (ap (az (be mF (aX (acA T) (hr.mono (by decide)) rfl T.y7.m T.y7.F.kp T.y7.b .nil aT (ae (pv 0) (ae (pv 2) af))) (pv 3))))),?_⟩
 got_up;cases own with
 |true=>
  ke_read;exact q _ (md _).1 (md _).2
 |false=>
  ke_read;refine⟨cell,k,rfl,k0,by omega,fun r r0 r1=>?_⟩;ke_read;exact q _ (md _).1 (md _).2
theorem Kn{α : Type}{xs:List α}{i:Int}(h0:0≤i)(h1:i<(xs.length:Int)):∃v,cw xs i=some v∧v∈xs:=by
 obtain⟨k,rfl⟩:=kJ h0;have hk:k<xs.length:=by omega
 exact⟨xs[k],ox (cL hk),Ae hk⟩
theorem qX{H:Hp}{p:Addr}{xs:List V}{i:Int}(_:H p=some (.lst xs))(h0:0≤i)(h1:i<(xs.length:Int)):∃v,cw xs i=some v∧v∈xs:=Kn h0 h1
theorem NH{z:Str}(h:(z.cps.all (· < 128))=true)(hp:0<z.length){i:Int}(h0:0≤i)(h1:i<(z.length:Int)):∃c,cw z.cps.toList i=some c∧cj ⟨#[c]⟩ 1:=by
 obtain⟨c,e,hm⟩:=Kn (xs:=z.cps.toList) h0 h1;rw[←kE,gf]at h;have:=of_decide_eq_true (h c hm);exact⟨c,e,by show(#[c].all (· < 128))=true;simp[this],bv _⟩
theorem KF(x:Str):∀ts:List Str,pD (.str x) (ts.map V.str)=decide (x∈ts)
 |[]=>rfl
 |a::r=>by
  have ih:=KF x r;unfold pD at ih⊢;rw[eD,vk,ih];have e:lH (.str a) (.str x)=decide (a=x):=by
   show(a==x)=_;exact lQ a x
  rw[e];by_cases c:a=x
  ·subst c;simp
  ·rw[decide_eq_false c,E8];exact decide_eq_decide.mpr ⟨fun h=>.tail _ h,fun h=>by rcases bu.mp h with h|h;exact absurd h.symm c;exact h⟩
theorem rn{H:Hp}{p:Addr}{x:Str}{ts:List Str}{Q:VK}(h:H p=some (.lst (ts.map V.str)))(q:Q (.bl (decide (x∈ts))) H):pd K false (.str x) (.ref p) H Q:=
 ⟨p,_,rfl,.inl (ay.of h),rfl,by rw[z3,gf];exact fun _ _=>rfl,by rw[←KF]at q;exact q⟩
theorem I0{z:Str}{n:Int}(l0:z.length=1)(h0:0≤n)(h1:n≤1000):MulOk z n:=by
 refine⟨?_,fun _ _=>?_,fun _ _=>?_⟩
 ·rw[Bool.or_eq_false_iff];exact⟨decide_eq_false (by omega),decide_eq_false (by omega)⟩
 ·rw[l0];have hn:1≤n:=by omega
  have:1≤(2^63-1:Int)/n:=(Oj (by omega)).mpr (by omega);omega
 ·rw[l0];exact decide_eq_false (O1.mpr (cz (by omega)))
def aaN:Sp:=fun vs H Q _=>∃n:Int,vs=[.int n]∧∀(z:Str),cj z 1→Q (.str z) H
theorem YS(T:Tx w K mg):aM P w K mg base ba 1 T.f_l_sign T.d_l_sign ["number"] (aaN):=by
 refine T.ya.F.ok Cj ?_ ?_;kj_on
 ·obtain⟨n,rfl,_⟩:=h;rfl
 obtain⟨n,rfl,q⟩:=h;refine⟨_,(ao (aW (i:=1) Cj.nd rfl (by z_go) ai)
  (ao (aW (i:=1) Cj.nd rfl (by z_go) (be fY (pv 1) ai))
  (ap (az (aI Bz (pv 1) (be mF (pv 0) (bP qw rfl T.dJ dF (ae (pv 1) af))) (fun _ _=>rfl)))))),?_⟩
 got_up;refine⟨_,rfl,cz (by k_go),?_⟩;refine⟨_,_,rfl,rfl,by k_go,?_⟩;have key:∀Z:Str,(Z.cps.all (· < 128))=true→0<Z.length→Z.length≤5000→Ic (.str Z) (.int (n%(Z.length:Int))) H Q:=fun Z za zp zl=>by
  obtain⟨c,e,hc⟩:=NH za zp (i:=n%(Z.length:Int)) (zY _ (by omega)) (zX _ (by omega));exact⟨Z,_,c,rfl,rfl,cz zl,e,q _ hc⟩
 exact key _ (by k_go) (by k_go) (by k_go)
def TC:Sp:=fun vs H Q _=>∃(cell:Int) (own:Bool),vs=[.int cell,.bl own]∧∀(z:Str) (H':Hp),ah H H'→cj z 61→Q (.str z) H'
theorem QE(T:Tx w K mg):aM P w K mg base ba 3 T.f_l_number T.d_l_number ["cell","own"] (TC):=by
 refine T.yD.F.ok BD ?_ ?_;kj_on
 ·obtain⟨cell,own,rfl,_⟩:=h;rfl
 obtain⟨cell,own,rfl,q⟩:=h;refine⟨_,(ao (aW (i:=2) BD.nd rfl (by z_go) (aX (iT T) (hr.mono (by decide)) rfl T.ci.m T.ci.F.kp T.ci.b .nil aT (ae (pv 0) (ae (pv 1) (ae aj (ae aj af))))))
  (ao (aW (i:=3) BD.nd rfl (by z_go) (bQ (ae ai (ae ai (ae ai (ae ai (ae ai (ae (be Le ai aj) (ae (be Le ai aj) (ae ai (ae ai af)))))))))))
  (ap (az (aI (ck (K:=K) rfl) (be qP (pv 3) (bQ (ae (gj jF rfl T.gU gW (ae (aX (iT T) (hr.mono (by decide)) rfl T.ci.m T.ci.F.kp T.ci.b .nil aT (ae (pv 0) (ae (pv 1) (ae aj (ae aj af))))) af)) (ae (gj jF rfl T.gU gW (ae (aX (iT T) (hr.mono (by decide)) rfl T.ci.m T.ci.F.kp T.ci.b .nil aT (ae (pv 0) (ae (pv 1) (ae aj (ae aj af))))) af)) (ae ai af))))) (pv 2) (fun _ _=>rfl)))))),?_⟩
 got_up;refine⟨cell,own,1,12,rfl,by decide,by decide,by decide,fun way w0 w1=>?_⟩;ke_read;refine⟨_,_,rfl,rfl,I0 (by k_go) (by decide) (by decide),?_⟩;ke_read;refine⟨_,_,rfl,rfl,I0 (by k_go) (by decide) (by decide),?_⟩;ke_read;rintro p1 H1 ⟨f1,a1,s1,-⟩;ke_read;refine⟨cell,own,2,9,rfl,by decide,by decide,by decide,fun n1 jK lJ=>?_⟩;have lg1:=hE jK (show n1<2^1000 by omega);ke_read;refine⟨cell,own,2,5000,rfl,by decide,by decide,by decide,fun n2 lB mr=>?_⟩;have lg2:=hE lB (show n2<2^1000 by omega);ke_read;rintro p2 H2 ⟨f2,a2,s2,-⟩;have a12:=s2 _ _ a1;ke_read;rintro p3 H3 ⟨f3,a3,s3,-⟩;obtain⟨v,ev,hv⟩:=qX (i:=way) a3 w0 (by exact w1);obtain⟨z,rfl,hz⟩:∃z,v=.str z∧cj z 61:=by
  have h1:=GR jK (show n1<10^60 by omega);have h2:=GR lB (show n2<10^60 by omega);simp only[vm,lW,bu,gA,or_false]at hv;rcases hv with rfl|rfl|rfl|rfl|rfl|rfl|rfl|rfl|rfl|rfl|rfl|rfl
  case inr.inr.inr.inr.inr.inr.inr.inr.inr.inl=>exact⟨_,rfl,h1.mono (by decide)⟩
  case inr.inr.inr.inr.inr.inr.inr.inr.inr.inr.inl=>exact⟨_,rfl,h2.mono (by decide)⟩
  all_goals exact⟨_,rfl,by k_go,by k_go⟩
 ke_read;exact q z H3 (s1.trans (s2.trans s3)) hz
def acJ:Sp:=fun vs H Q _=>∃(cell:Int) (own:Bool),vs=[.int cell,.bl own]∧∀(z:Str) (H':Hp),ah H H'→cj z 61→Q (.str z) H'
theorem WY(T:Tx w K mg):aM P w K mg base ba 3 T.f_l_text T.d_l_text ["cell","own"] (acJ):=by
 refine T.yZ.F.ok Cy ?_ ?_;kj_on
 ·obtain⟨cell,own,rfl,_⟩:=h;rfl
 obtain⟨cell,own,rfl,q⟩:=h;refine⟨_,(ao (aW (i:=2) Cy.nd rfl (by z_go) (bQ (ae ai (ae ai (ae ai (ae ai (ae ai (ae ai af))))))))
  (ao (aW (i:=2) Cy.nd rfl (by z_go) (be qP (pv 2) (bQ (ae ai (ae ai (ae ai (ae ai (ae ai af))))))))
  (ap (az (aI (ck (K:=K) rfl) (be qP (pv 2) (bQ (ae ai af))) (aX (iT T) (hr.mono (by decide)) rfl T.ci.m T.ci.F.kp T.ci.b .nil aT (ae (pv 0) (ae (pv 1) (ae aj (ae aj af))))) (fun _ _=>rfl)))))),?_⟩
 got_up;rintro p1 H1 ⟨f1,a1,s1,-⟩;ke_read;rintro p2 H2 ⟨f2,a2,s2,-⟩;have a12:=s2 _ _ a1;ke_read;rintro p3 H3 ⟨f3,a3,s3,-⟩;ke_read;rintro p4 H4 ⟨f4,a4,s4,-⟩;have a34:=s4 _ _ a3;ke_read;rintro p5 H5 ⟨f5,a5,s5,-⟩;ke_read;refine⟨cell,own,1,12,rfl,by decide,by decide,by decide,fun way w0 w1=>?_⟩;obtain⟨v,ev,hv⟩:=qX (i:=way) a5 w0 (by exact w1);obtain⟨z,rfl,hz⟩:∃z,v=.str z∧cj z 61:=by
  simp only[vm,lW,bu,gA,or_false]at hv;rcases hv with rfl|rfl|rfl|rfl|rfl|rfl|rfl|rfl|rfl|rfl|rfl|rfl
  all_goals exact⟨_,rfl,by k_go,by k_go⟩
 ke_read;exact q z H5 (s1.trans (s2.trans (s3.trans (s4.trans s5)))) hz
def RD:Sp:=fun vs H Q _=>∃(cell:Int) (own:Bool),vs=[.int cell,.bl own]∧∀(z:Str) (H':Hp),ah H H'→cj z 100→Q (.str z) H'
theorem aah(T:Tx w K mg):aM P w K mg base ba 4 T.f_l_written T.d_l_written ["cell","own"] (RD):=by
 refine T.x6.F.ok BS ?_ ?_;kj_on
 ·obtain⟨cell,own,rfl,_⟩:=h;rfl
 obtain⟨cell,own,rfl,q⟩:=h;refine⟨_,(ao (aW (i:=2) BS.nd rfl (by z_go) (bQ (ae ai (ae ai (ae ai (ae ai (ae ai (ae ai (ae ai (ae ai (ae ai (ae ai af))))))))))))
  (ao (aW (i:=3) BS.nd rfl (by z_go) (aI (ck (K:=K) rfl) (be qP (pv 2) (bQ (ae ai (ae ai (ae ai af))))) (aX (iT T) (hr.mono (by decide)) rfl T.ci.m T.ci.F.kp T.ci.b .nil aT (ae (pv 0) (ae (pv 1) (ae aj (ae aj af))))) (fun _ _=>rfl)))
  (ao (aQ (aO (qg (K:=K) rfl) (pv 3) (bQ (ae ai (ae ai (ae ai af)))) (by with_unfolding_all rfl)) (ap (az (be fY (be fY (pv 3) ai) (aX (QE T) (hr.mono (by decide)) rfl T.yD.m T.yD.F.kp T.yD.b .nil aT (ae (pv 0) (ae (pv 1) af)))))) aS)
  (ao (aQ (aO br (pv 3) ai (aD _)) (ap (az (be fY (be fY (pv 3) ai) (aX (WY T) (hr.mono (by decide)) rfl T.yZ.m T.yZ.F.kp T.yZ.b .nil aT (ae (pv 0) (ae (pv 1) af)))))) aS)
  (ap (az (pv 3))))))),?_⟩
 got_up;rintro p1 H1 ⟨f1,a1,s1,-⟩;ke_read;rintro p2 H2 ⟨f2,a2,s2,-⟩;have a12:=s2 _ _ a1;ke_read;rintro p3 H3 ⟨f3,a3,s3,-⟩;ke_read;refine⟨cell,own,0,13,rfl,by decide,by decide,by decide,fun way w0 w1=>?_⟩;obtain⟨v,ev,hv⟩:=qX (i:=way) a3 w0 (by exact w1);obtain⟨z,rfl,hz⟩:∃z,v=.str z∧cj z 8:=by
  simp only[vm,lW,bu,gA,or_false]at hv;rcases hv with rfl|rfl|rfl|rfl|rfl|rfl|rfl|rfl|rfl|rfl|rfl|rfl|rfl
  all_goals exact⟨_,rfl,by k_go,by k_go⟩
 clear hv;have s03:=s1.trans (s2.trans s3);have lz:=hz.2;have lb:(" " : Str).length=1:=by k_go
 have ab:cj (" " : Str) 1:=⟨by k_go,by k_go⟩;have fit:z.length+(" " : Str).length≤sizeLine:=cz (by omega);ke_read;rintro p4 H4 ⟨f4,a4,s4,-⟩;refine rn (ts:=["line","come","go"]) a4 ?_;ke_read;refine cG (fun c=>?_) (fun c=>?_)
 ·ke_read;refine⟨cell,own,rfl,fun y H5 s5 hy=>?_⟩;have ly:=hy.2;have fit2:(z++(" " : Str)).length+y.length≤sizeLine:=cz (by rw[cO];omega);ke_read;exact q _ H5 (s03.trans (s4.trans s5)) (((hz.app ab).app hy).mono (by decide))
 ·ke_read;refine cG (fun c2=>?_) (fun c2=>?_)
  ·ke_read;refine⟨cell,own,rfl,fun y H5 s5 hy=>?_⟩;have ly:=hy.2;have fit2:(z++(" " : Str)).length+y.length≤sizeLine:=cz (by rw[cO];omega);ke_read;exact q _ H5 (s03.trans (s4.trans s5)) (((hz.app ab).app hy).mono (by decide))
  ·ke_read;exact q _ H4 (s03.trans s4) (hz.mono (by decide))
theorem EV(v:V)(xs:List V):cw (v::xs) 0=some v:=ox (show(v::xs)[0]?=some v from rfl)
def Ud:Sp:=fun vs H Q _=>∃(cell:Int) (own:Bool),vs=[.int cell,.bl own]∧∀(v:V) (H':Hp),ah H H'→((gi H' v∧∀a,v=.ref a→H a=none)∨∃z:Str,v=.str z∧cj z 220)→Q v H'
theorem X0(T:Tx w K mg):aM P w K mg base ba 5 T.f_l_order T.d_l_order ["cell","own"] (Ud):=by
 refine T.xv.F.ok nV ?_ ?_;kj_on
 ·obtain⟨cell,own,rfl,_⟩:=h;rfl
 obtain⟨cell,own,rfl,q⟩:=h;refine⟨_,(ao (aW (i:=2) nV.nd rfl (by z_go) (aX (aah T) (hr.mono (by decide)) rfl T.x6.m T.x6.F.kp T.x6.b .nil aT (ae (pv 0) (ae (pv 1) af))))
  (ao (aW (i:=3) nV.nd rfl (by z_go) (aX (iT T) (hr.mono (by decide)) rfl T.ci.m T.ci.F.kp T.ci.b .nil aT (ae (pv 0) (ae (pv 1) (ae aj (ae aj af))))))
  (ao (aW (i:=4) nV.nd rfl (by z_go) (aX (iT T) (hr.mono (by decide)) rfl T.ci.m T.ci.F.kp T.ci.b .nil aT (ae (pv 0) (ae (pv 1) (ae aj (ae (be mj (bP qw rfl T.dJ dF (ae (pv 2) af)) aj) af))))))
  (ao (aW (i:=5) nV.nd rfl (by z_go) (aX (YS T) (hr.mono (by decide)) rfl T.ya.m T.ya.F.kp T.ya.b .nil aT (ae (aX (iT T) (hr.mono (by decide)) rfl T.ci.m T.ci.F.kp T.ci.b .nil aT (ae (pv 0) (ae (pv 1) (ae aj (ae aj af))))) af)))
  (ao (gI (aQ (aO br (aX (iT T) (hr.mono (by decide)) rfl T.ci.m T.ci.F.kp T.ci.b .nil aT (ae (pv 0) (ae (pv 1) (ae aj (ae aj af))))) aj (aD _)) (ap (aW (i:=5) nV.nd rfl (by z_go) (aI Bz ai (aX (iT T) (hr.mono (by decide)) rfl T.ci.m T.ci.F.kp T.ci.b .nil aT (ae (pv 0) (ae (pv 1) (ae aj (ae aj af))))) (fun _ _=>rfl)))) aS))
  (ao (aQ (aO br (pv 3) aj (aD _)) (ap (az (aI (ck (K:=K) rfl) (bQ (ae ie (ae aj (ae gh (ae (bQ (ae ai af)) (ae (cK (ae ai af)) (ae Wr (ae aj af)))))))) (aX (iT T) (hr.mono (by decide)) rfl T.ci.m T.ci.F.kp T.ci.b .nil aT (ae (pv 0) (ae (pv 1) (ae aj (ae aj af))))) (fun _ _=>rfl)))) aS)
  (ao (aQ (aO br (pv 3) aj (aD _)) (ao (aW (i:=6) nV.nd rfl (by z_go) (aI (ck (K:=K) rfl) (c8 jS lT rM qZ (pv 2) (ae ai af)) aj (fun _ _=>rfl)))
  (ap (az (aI (ck (K:=K) rfl) (bQ (ae ai (ae ai (ae (pv 6) (ae (be fY (pv 6) ai) af))))) (aX (iT T) (hr.mono (by decide)) rfl T.ci.m T.ci.F.kp T.ci.b .nil aT (ae (pv 0) (ae (pv 1) (ae aj (ae aj af))))) (fun _ _=>rfl))))) aS)
  (ao (aQ (PW.pt (fg (aO br (pv 3) aj (aD _)) (fW (aO br (pv 3) aj (aD _))))) (ap (az (be fY (be fY (lj oI (pv 2) mU (kj (pv 4))) (pv 5)) (lj oI (pv 2) (kj (pv 4)) mU)))) aS)
  (ao (aQ (PW.pt (fg (aO br (pv 3) aj (aD _)) (fW (aO br (pv 3) aj (aD _))))) (ap (az (be fY (lj oI (pv 2) mU (kj (pv 4))) (lj oI (pv 2) (kj (be mj (pv 4) aj)) mU)))) aS)
  (ao (aQ (aO br (pv 3) aj (aD _)) (ap (az (be fY (be fY (lj oI (pv 2) mU (kj (pv 4))) (pv 5)) (lj oI (pv 2) (kj (be mj (pv 4) aj)) mU)))) aS)
  (ao (aQ (aO br (pv 3) aj (aD _)) (ap (az (be fY (pv 2) (aI (ck (K:=K) rfl) (bQ (ae ai (ae ai (ae ai af)))) (aX (iT T) (hr.mono (by decide)) rfl T.ci.m T.ci.F.kp T.ci.b .nil aT (ae (pv 0) (ae (pv 1) (ae aj (ae aj af))))) (fun _ _=>rfl))))) aS)
  (ap (az (pv 2)))))))))))))),?_⟩
 got_up;refine⟨cell,own,rfl,fun o H1 s1 ho=>?_⟩;have lo:=ho.2;ke_read;refine⟨cell,own,3,16,rfl,by decide,by decide,by decide,fun way w0 w1=>?_⟩;ke_read;refine⟨_,rfl,cz (by omega),?_⟩;ke_read;refine⟨cell,own,4,_,rfl,by decide,by decide,by omega,fun pl p0 p1=>?_⟩;ke_read;refine⟨cell,own,5,1000,rfl,by decide,by decide,by decide,fun k5 _ _=>?_⟩;ke_read;refine⟨k5,rfl,fun sg0 hsg0=>?_⟩;ke_read;refine bY (fun σ' H'=>H'=H1∧∃sg,cj sg 1∧σ'=[some (.int cell),some (.bl own),some (.str o),some (.int way),some (.int pl),some (.str sg),none]) ?_ ?_
 ·refine qD ?_;ke_read;refine⟨cell,own,6,2,rfl,by decide,by decide,by decide,fun k6 _ _=>?_⟩;ke_read;refine cG (fun c=>?_) (fun c=>?_)
  ·ke_read;refine⟨cell,own,5,6,rfl,by decide,by decide,by decide,fun j j0 j1=>?_⟩;obtain⟨c,e,hc⟩:=NH (z:="0 1 -a") (by k_go) (by k_go) j0 (by rw[show("0 1 -a" : Str).length=6 by k_go];exact j1);refine⟨_,_,c,rfl,rfl,cz (by k_go),e,?_⟩;ke_read;exact⟨rfl,_,hc,rfl⟩
  ·exact⟨rfl,sg0,hsg0,rfl⟩
 rintro σ' H2 ⟨rfl,sg,hsg,rfl⟩;clear hsg0;have lsg:=hsg.2;have sl:∀lo hi,cj (gD o lo hi) 100:=fun lo hi=>WD ho lo hi;have fo:o.length≤sizeLine:=cz (by omega);have f1:∀lo hi,(gD o lo hi).length+sg.length≤sizeLine:=fun lo hi=>cz (by have:=(sl lo hi).2;omega);have f2:∀lo hi lo' hi',(gD o lo hi++sg).length+(gD o lo' hi').length≤sizeLine:=fun lo hi lo' hi'=>cz (by have:=(sl lo hi).2;have:=(sl lo' hi').2;rw[cO];omega);have f3:∀lo hi lo' hi',(gD o lo hi).length+(gD o lo' hi').length≤sizeLine:=fun lo hi lo' hi'=>cz (by have:=(sl lo hi).2;have:=(sl lo' hi').2;omega);have r1:∀lo hi lo' hi',cj (gD o lo hi++sg++gD o lo' hi') 220:=fun lo hi lo' hi'=>(((sl lo hi).app hsg).app (sl lo' hi')).mono (by decide);have r2:∀lo hi lo' hi',cj (gD o lo hi++gD o lo' hi') 220:=fun lo hi lo' hi'=>((sl lo hi).app (sl lo' hi')).mono (by decide);ke_read;refine cG (fun c0=>?_) (fun c0=>?_)
 ·clear f1 f2 f3 r1 r2 sl;ke_read;rintro p3 H3 ⟨f3,a3,s3,-⟩;ke_read;rintro p4 H4 ⟨f4,a4,s4,-⟩;ke_read;refine Y8 ?_;rintro p5 H5 ⟨f5,a5,s5,-⟩;ke_read;rintro p6 H6 ⟨f6,a6,s6,-⟩;ke_read;refine⟨cell,own,5,7,rfl,by decide,by decide,by decide,fun j j0 j1=>?_⟩;obtain⟨v,ev,hv⟩:=qX (i:=j) a6 j0 (by exact j1);have hn:gi H6 v∧∀a,v=.ref a→H a=none:=by
   simp only[bu,gA,or_false]at hv;rcases hv with rfl|rfl|rfl|rfl|rfl|rfl|rfl
   ·exact⟨.inl rfl,fun a e=>nomatch e⟩
   ·exact⟨.inr (.inl ⟨_,rfl⟩),fun a e=>nomatch e⟩
   ·exact⟨.inr (.inr (.inl ⟨_,rfl⟩)),fun a e=>nomatch e⟩
   ·exact⟨.inr (.inr (.inr ⟨_,rfl,.inl ⟨_,s6 _ _ (s5 _ _ (s4 _ _ a3))⟩⟩)),fun a e=>by injection e with e;rw[←e];exact s1.free f3⟩
   ·exact⟨.inr (.inr (.inr ⟨_,rfl,.inr (.inl ⟨_,s6 _ _ (s5 _ _ a4)⟩)⟩)),fun a e=>by injection e with e;rw[←e];exact(s1.trans s3).free f4⟩
   ·exact⟨.inr (.inr (.inr ⟨_,rfl,.inr (.inr (s6 _ _ a5))⟩)),fun a e=>by injection e with e;rw[←e];exact(s1.trans (s3.trans s4)).free f5⟩
   ·exact⟨.inr (.inl ⟨_,rfl⟩),fun a e=>nomatch e⟩
  ke_read;exact q v H6 (s1.trans (s3.trans (s4.trans (s5.trans s6)))) (.inl hn)
 ke_read;refine cG (fun c1=>?_) (fun c1=>?_)
 ·clear f1 f2 f3 r1 r2 sl;ke_read;refine⟨rfl,?_⟩;ke_read;refine⟨o," ",rfl,rfl,by k_go,by omega,fun p3 H3 nw3=>?_⟩;obtain⟨f3,a3,s3,-⟩:=nw3;obtain⟨hd,e0,ha⟩:∃hd,cw ((cN o " ").map V.str) 0=some (.str hd)∧cj hd 100:=by
   obtain⟨u,t,e⟩:=z9 (qR o " ");obtain⟨ua,ul⟩:=t7 (oU o " ") ho.1 u (by rw[e];exact .head _);refine⟨u,?_,⟨ua,cB ul lo⟩⟩;rw[e];exact EV _ _
  have lh:=ha.2;have fh:hd.length+(" " : Str).length≤sizeLine:=cz (by rw[show(" " : Str).length=1 by k_go];omega);ke_read;rintro p4 H4 ⟨f4,a4,s4,-⟩;ke_read;refine⟨cell,own,5,4,rfl,by decide,by decide,by decide,fun j j0 j1=>?_⟩;obtain⟨v,ev,hv⟩:=qX (i:=j) a4 j0 (by exact j1);obtain⟨z,rfl,hz⟩:∃z,v=.str z∧cj z 220:=by
   simp only[bu,gA,or_false]at hv;rcases hv with rfl|rfl|rfl|rfl
   ·exact⟨_,rfl,by k_go,by k_go⟩
   ·exact⟨_,rfl,by k_go,by k_go⟩
   ·exact⟨_,rfl,ha.mono (by decide)⟩
   ·exact⟨_,rfl,(ha.app (y:=" ") (b:=1) ⟨by k_go,by k_go⟩).mono (by decide)⟩
  ke_read;exact q _ H4 (s1.trans (s3.trans s4)) (.inr ⟨z,rfl,hz⟩)
 ke_read;refine cG (fun c2=>?_) (fun c2=>?_)
 ·ke_read;refine⟨o,rfl,fo,?_⟩;ke_read;refine⟨f1 _ _,?_⟩;ke_read;refine⟨o,rfl,fo,?_⟩;refine⟨_,_,rfl,rfl,f2 _ _ _ _,?_⟩;ke_read;exact q _ _ s1 (.inr ⟨_,rfl,r1 _ _ _ _⟩)
 ke_read;refine cG (fun c3=>?_) (fun c3=>?_)
 ·ke_read;refine⟨o,rfl,fo,?_⟩;ke_read;refine⟨f1 _ _,?_⟩;ke_read;refine⟨o,rfl,fo,?_⟩;refine⟨_,_,rfl,rfl,f2 _ _ _ _,?_⟩;ke_read;exact q _ _ s1 (.inr ⟨_,rfl,r1 _ _ _ _⟩)
 ke_read;refine cG (fun c4=>?_) (fun c4=>?_)
 ·ke_read;refine⟨o,rfl,fo,?_⟩;ke_read;refine⟨o,rfl,fo,?_⟩;refine⟨_,_,rfl,rfl,f3 _ _ _ _,?_⟩;ke_read;exact q _ _ s1 (.inr ⟨_,rfl,r2 _ _ _ _⟩)
 ke_read;refine cG (fun c5=>?_) (fun c5=>?_)
 ·ke_read;refine⟨o,rfl,fo,?_⟩;ke_read;refine⟨o,rfl,fo,?_⟩;refine⟨_,_,rfl,rfl,f3 _ _ _ _,?_⟩;ke_read;exact q _ _ s1 (.inr ⟨_,rfl,r2 _ _ _ _⟩)
 ke_read;refine cG (fun c6=>?_) (fun c6=>?_)
 ·ke_read;refine⟨o,rfl,fo,?_⟩;ke_read;refine⟨f1 _ _,?_⟩;ke_read;refine⟨o,rfl,fo,?_⟩;refine⟨_,_,rfl,rfl,f2 _ _ _ _,?_⟩;ke_read;exact q _ _ s1 (.inr ⟨_,rfl,r1 _ _ _ _⟩)
 ke_read;refine cG (fun c7=>?_) (fun c7=>?_)
 ·ke_read;rintro p3 H3 ⟨f3,a3,s3,-⟩;ke_read;refine⟨cell,own,5,3,rfl,by decide,by decide,by decide,fun j j0 j1=>?_⟩;obtain⟨v,ev,hv⟩:=qX (i:=j) a3 j0 (by exact j1);obtain⟨z,rfl,hz⟩:∃z,v=.str z∧cj z 5:=by
   simp only[bu,gA,or_false]at hv;rcases hv with rfl|rfl|rfl
   all_goals exact⟨_,rfl,by k_go,by k_go⟩
  have lz:=hz.2;have fz:o.length+z.length≤sizeLine:=cz (by omega);ke_read;exact q _ H3 (s1.trans s3) (.inr ⟨_,rfl,(ho.app hz).mono (by decide)⟩)
 ke_read;exact q _ _ s1 (.inr ⟨_,rfl,ho.mono (by decide)⟩)
theorem Th{z:Str}(h:kM z "0" = true):∃t,z.cps.toList=48::t:=by
 unfold kM at h;rw[rO,show("0" : Str).length=1 by k_go,show("0" : Str).cps.toList=[48]by k_go]at h;cases e:z.cps.toList with
 |nil=>rw[e]at h;simp at h
 |cons c t=>
  rw[e]at h;simp at h;exact⟨t,by rw[h.2]⟩
def XY:Sp:=fun vs H Q _=>∃z:Str,vs=[.str z]∧cj z 900∧∀(b:Bool) (H':Hp),ah H H'→(b=true↔pq z)→Q (.bl b) H'
theorem aaH(T:Tx w K mg):aM P w K mg base ba 1 T.f_l_is_number T.d_l_is_number ["word"] (XY):=by
 refine T.x8.F.ok aaA ?_ ?_;kj_on
 ·obtain⟨z,rfl,_⟩:=h;rfl
 obtain⟨z,rfl,hz,q⟩:=h;have lz:=hz.2;have fz:z.length≤sizeLine:=cz (by omega);have nol:pq z→1≤z.length∧z.length≤60:=fun⟨n,n0,n1,e⟩=>by
  have:=DB n0;rw[e];exact⟨this,gK n0 n1⟩
 refine⟨_,(ao (gI (aQ (PW.pt (fg (aO uY (bP qw rfl T.dJ dF (ae (pv 0) af)) aj (aD _)) (fg (aO oq (bP qw rfl T.dJ dF (ae (pv 0) af)) aj (aD _)) (fW (PW.pt (lD (aO oq (bP qw rfl T.dJ dF (ae (pv 0) af)) aj (aD _)) (kQ (aO br (aI Bz (pv 0) aj (fun _ _=>rfl)) ai (aD _))))))))) (ap (az gh)) aS))
  (ap (az (bP (NB (K:=K) rfl rfl) rfl T.Gx Lq (ae (qu (oN:=["word"]) (osc:=aB wY) (x:="sign") (fr:=[]) (ix:=[]) (by refine⟨rfl,?_,?_,rfl,?_,?_,rfl,?_,?_⟩<;>decide +kernel) rfl rfl rfl (NO (pv 0)) (fun _ _ _ _ _=>qm) (fun _ _ _ _ _=>(eg HK (pv 0) ai (by with_unfolding_all rfl)))) af))))),?_⟩
 got_up;refine bY (fun σ' H'=>H'=H∧σ'=[some (.str z)]∧1≤z.length∧z.length≤60∧(z.length=1∨∀t,z.cps.toList≠48::t)) ?_ ?_
 ·refine qD ?_;ke_read;refine⟨z,rfl,fz,?_⟩;ke_read;refine cG (fun c=>?_) (fun c=>?_)
  ·ke_read;exact q false H (ah.refl _) ⟨fun z=>(by cases z),fun h=>(by have:=nol h;omega)⟩
  ke_read;refine⟨z,rfl,fz,?_⟩;ke_read;refine cG (fun c2=>?_) (fun c2=>?_)
  ·ke_read;exact q false H (ah.refl _) ⟨fun z=>(by cases z),fun h=>(by have:=nol h;omega)⟩
  ke_read;refine⟨z,rfl,fz,?_⟩;ke_read;refine cG (fun c3=>?_) (fun c3=>?_)
  ·ke_read;obtain⟨ch,t,e⟩:∃ch t,z.cps.toList=ch::t:=by
    cases e:z.cps.toList with
    |nil=>have:=En z;rw[e]at this;simp at this;omega
    |cons ch t=>exact⟨ch,t,rfl⟩
   refine⟨z,_,ch,rfl,rfl,fz,by rw[e];exact ox (show(ch::t)[0]?=some ch from rfl),?_⟩;ke_read;refine cG (fun c4=>?_) (fun c4=>?_)
   ·ke_read;refine q false H (ah.refl _) ⟨fun z=>(by cases z),fun⟨n,n0,n1,en⟩=>?_⟩;have hc:ch=48:=by
     have h9:=congrArg (fun u:Str=>u.cps.toList) c4;replace h9:[ch]=("0" : Str).cps.toList:=h9;rw[show("0" : Str).cps.toList=[48]by k_go]at h9;injection h9
    by_cases z0:n=0
    ·rw[en,z0,DF,show("0" : Str).length=1 by k_go]at c3;omega
    ·have h8:=Ls (n:=n) (by omega);rw[←en,GJ (by rw[e,hc];rfl)]at h8;cases h8
   ·refine⟨rfl,rfl,by omega,by omega,.inr fun t' e'=>c4 ?_⟩;rw[e]at e';injection e' with e' _;rw[e']
    decide +kernel
  ·exact⟨rfl,rfl,by omega,by omega,.inl (by omega)⟩
 rintro σ' H0 ⟨rfl,rfl,l1,l2,hd⟩;ke_read;refine IU ?_;ke_read;refine⟨z,rfl,hz.1,?_⟩;refine Lx (fun _=>true) yP (mw (by omega)) ?_ ?_ ?_
 ·intro z hz H1 s1 Q' hQ;ke_read
  first|done|exact hQ
 ·intro z hz _ H1 s1 Q' hQ;obtain⟨c,hc,rfl⟩:=gP.mp hz;ke_read;all_goals exact hQ
 intro l H1 s1 f1 a1;have e1:((z.cps.toList.map fun c=>V.str (mC c)).filter fun _=>true).map yP=(z.cps.toList.map qQ).map V.bl:=by
  rw[vn.mpr fun _ _=>rfl,jo,jo];refine Ai fun c _=>?_;show V.bl _=V.bl _;rw[MI]
 rw[e1]at a1;ke_read;refine⟨l,_,rfl,ay.of a1,?_⟩;refine q _ H1 s1 ⟨fun h=>Ku (fun h0=>?_) l2 (fun c hc=>?_) (fun hs=>?_),Nu⟩
 ·rw[h0]at l1;exact absurd l1 (by k_go)
 ·rw[z3,gf]at h;exact of_decide_eq_true (h c hc)
 ·obtain⟨t,et⟩:=Th hs;rcases hd with hd|hd
  ·rw[En,et]at hd;have:t=[]:=Af.mp (by simpa using hd);refine iV ?_;rw[et,this]
   decide +kernel
  ·exact absurd et (hd t)
theorem zj{z u:Str}(e:cN z " " = [u]):u=z∧32∉z.cps.toList:=by
 have h:=oU z " ";rw[e]at h;have h':u=z:=h;refine⟨h',?_⟩;rw[jH]at e;exact h'▸F1 z 32 u (by rw[e];exact .head _)
theorem wZ{z u v:Str}{r:List Str}(e:cN z " " = u::v::r):z=u++(" " : Str)++cM " " (v::r)∧32∉u.cps.toList∧(r≠[]→32∈(cM " " (v::r)).cps.toList):=by
 have h:=oU z " ";rw[e]at h;refine⟨h.symm,?_,fun hr=>?_⟩
 ·rw[jH]at e;exact F1 z 32 u (by rw[e];exact .head _)
 ·obtain⟨w,t,rfl⟩:=z9 hr;rw[qM,show(" " : Str).cps.toList=[32]by k_go];simp
theorem D6{z:Str}(hz:32∉z.cps.toList):(∃x a,eX z x a)↔z∈gH:=⟨fun⟨_,_,h⟩=>GZ hz h,fun h=>⟨z,.non,.inl ⟨h,rfl,rfl⟩⟩⟩
theorem qB{u t:Str}(hu:32∉u.cps.toList):(∃x a,eX (u++(" " : Str)++t) x a)↔(u="check"∨(u="line"∧∃n:Int,t=aJ n∧0≤n∧n≤200)∨((u="come"∨u="go")∧pq t)):=by
 refine⟨fun⟨x,a,h⟩=>?_,fun h=>?_⟩
 ·obtain⟨_,h|⟨h,n,e,n0,n1,_⟩|⟨h,n,e,n0,n1,_⟩⟩:=mP hu h
  ·exact .inl h.1
  ·exact .inr (.inl ⟨h,n,e,n0,n1⟩)
  ·exact .inr (.inr ⟨h,n,n0,n1,e⟩)
 ·rcases h with rfl|⟨rfl,n,rfl,n0,n1⟩|⟨h,n,n0,n1,rfl⟩
  ·exact⟨_,_,.inr (.inl ⟨t,rfl,rfl,rfl⟩)⟩
  ·exact⟨_,_,.inr (.inr (.inl ⟨n,rfl,rfl,n0,n1,rfl⟩))⟩
  ·exact⟨u,_,.inr (.inr (.inr ⟨n,h,rfl,n0,n1,rfl⟩))⟩
theorem NM{t:Str}(h:pq t):32∉t.cps.toList:=fun z=>by
 obtain⟨n,n0,_,rfl⟩:=h;have:=rd n0 _ z;omega
def ZG:Sp:=fun vs H Q _=>∃v:V,vs=[v]∧((gi H v∧∀H',ah H H'→Q (.bl false) H')∨∃z:Str,v=.str z∧cj z 220∧∀(b:Bool) (H':Hp),ah H H'→(b=true↔∃x a,eX z x a)→Q (.bl b) H')
theorem WJ(T:Tx w K mg):aM P w K mg base ba 2 T.f_l_is_order T.d_l_is_order ["order"] (ZG):=by
 refine T.yU.F.ok Mf ?_ ?_;kj_on
 ·obtain⟨v,rfl,_⟩:=h;rfl
 obtain⟨v,rfl,h⟩:=h;refine⟨_,(ao (aQ (fk (cy (bP (lL (K:=K) rfl) rfl T.fN fD (ae (pv 0) (ae (rj (v:=.ty "str") rfl T.gU gW rfl) af))))) (ap (az gh)) aS)
  (ao (aW (i:=1) Mf.nd rfl (by z_go) (c8 jS lT rM qZ (pv 0) (ae ai af)))
  (ao (aQ (aO (qg (K:=K) rfl) (aI (ck (K:=K) rfl) (pv 1) aj (fun _ _=>rfl)) (bQ (ae ai (ae ai (ae ai af)))) (by with_unfolding_all rfl)) (ao (aQ (PW.pt (fg (aO lG (bP (fS (K:=K) rfl) rfl T.dJ dF (ae (pv 1) af)) aj (aD _)) (fW (fk (cy (aX (aaH T) (hr.mono (by decide)) rfl T.x8.m T.x8.F.kp T.x8.b .nil aT (ae (aI (ck (K:=K) rfl) (pv 1) aj (fun _ _=>rfl)) af))))))) (ap (az gh)) aS)
  (ap (az (KZ (eg lG (aI (ck (K:=K) rfl) (pv 1) aj (fun _ _=>rfl)) ai (aD _)) (oE (eg Ej (gj wL rfl T.tE uL (ae (aI (ck (K:=K) rfl) (pv 1) aj (fun _ _=>rfl)) af)) aj (aD _))))))) aS)
  (ao (aQ (aO br (aI (ck (K:=K) rfl) (pv 1) aj (fun _ _=>rfl)) ai (aD _)) (ap (az (eg oq (bP (fS (K:=K) rfl) rfl T.dJ dF (ae (pv 1) af)) aj (aD _)))) aS)
  (ap (az (nO (eg br (bP (fS (K:=K) rfl) rfl T.dJ dF (ae (pv 1) af)) aj (aD _)) (oE (eg (qg (K:=K) rfl) (pv 0) (bQ (ae ai (ae ai (ae ai (ae ai (ae ai (ae ai (ae ai af)))))))) (by with_unfolding_all rfl)))))))))),?_⟩
 got_up;rcases h with⟨nv,q⟩|⟨z,rfl,hz,q⟩
 ·rcases nv with rfl|⟨i,rfl⟩|⟨b,rfl⟩|⟨a,rfl,⟨xs,hx⟩|⟨xs,hx⟩|hx⟩
  ·refine iS (c:=.ty "str") rfl .non T.Jy ?_;ke_read;exact q H (ah.refl _)
  ·ke_read;exact q H (ah.refl _)
  ·refine iS (c:=.ty "str") rfl (.bl b) T.Dh ?_;ke_read;exact q H (ah.refl _)
  ·ke_read;exact q H (ah.refl _)
  ·refine iS (c:=.ty "str") rfl (.tup hx) T.De ?_;ke_read;exact q H (ah.refl _)
  ·refine iS (c:=.ty "str") rfl (.dK hx) T.NK ?_;ke_read;exact q H (ah.refl _)
 have lz:=hz.2;ke_read;refine⟨rfl,?_⟩;ke_read;refine⟨z," ",rfl,rfl,by k_go,by omega,fun p1 H1 nw1=>?_⟩;obtain⟨f1,a1,s1,-⟩:=nw1;obtain⟨u,bO,e⟩:=z9 (qR z " ");rw[e]at a1;replace a1:H1 p1=some (.lst (.str u::bO.map V.str)):=a1;have e0:=EV (.str u) (bO.map V.str);ke_read;rintro p2 H2 ⟨f2,a2,s2,-⟩;have a12:=s2 _ _ a1;refine rn (ts:=["line","come","go"]) a2 ?_;have s02:=s1.trans s2;ke_read;refine cG (fun c=>?_) (fun c=>?_)
 ·have nal:u∉gH:=fun ha=>by
   have h:(["line","come","go"]:List Str).all (fun x=>!decide (x∈gH))=true:=by k_go
   have h2:=gf.mp h u c;rw[decide_eq_true ha]at h2;cases h2
  have nck:¬u="check":=fun h=>by
   rw[h]at c;exact absurd c (by k_go)
  rcases bO with _|⟨v,r⟩
  ·obtain⟨rfl,nb⟩:=zj e;ke_read;exact q false _ s02 ⟨fun h=>(by cases h),fun h=>absurd ((D6 nb).mp h) nal⟩
  ·obtain⟨ez,hu,hr⟩:=wZ e;obtain⟨va,vl⟩:=t7 (oU z " ") hz.1 v (by rw[e];exact .tail _ (.head _));replace a12:H2 p1=some (.lst (.str u::.str v::r.map V.str)):=a12;replace e0:cw (V.str u::V.str v::r.map V.str) 0=some (.str u):=e0;have e1:cw (V.str u::V.str v::r.map V.str) 1=some (.str v):=ox (show(V.str u::V.str v::r.map V.str)[1]?=some (.str v)from rfl);rcases r with _|⟨x,r⟩
   ·ke_read;refine⟨v,rfl,⟨va,by omega⟩,fun b H3 s3 hb=>?_⟩;have a13:=s3 _ _ a12;have nm:cM " " [v]=v:=rfl;rw[nm]at ez;cases b with
    |false=>
     ke_read;refine q false _ (s02.trans s3) ⟨fun h=>(by cases h),fun h=>?_⟩;rw[ez,qB hu]at h;rcases h with h|⟨_,n,rfl,n0,n1⟩|⟨_,h⟩
     ·exact absurd h nck
     ·exact hb.mpr ⟨n,n0,by omega,rfl⟩
     ·exact hb.mpr h
    |true=>
     obtain⟨n,n0,n1,en⟩:=hb.mp rfl;have nl:=gK n0 n1;rw[←en]at nl;by_cases c3:u="line"
     ·subst c3;ke_read;refine⟨v,n,rfl,by rw[en];exact mq n0 (by rw[←en];omega),by omega,?_⟩;ke_read;refine q _ _ (s02.trans s3) ?_;rw[ez,qB hu,decide_eq_true_eq];refine⟨fun h=>.inr (.inl ⟨rfl,n,en,n0,h⟩),fun h=>?_⟩;rcases h with h|⟨_,m,em,m0,m1⟩|⟨h,_⟩
      ·exact absurd h (by k_go)
      ·rw[rq n0 n1 m0 (by omega) (en.symm.trans em)];exact m1
      ·exact absurd h (by k_go)
     ·ke_read;refine q true _ (s02.trans s3) ⟨fun _=>?_,fun _=>rfl⟩;rw[ez,qB hu];simp only[bu,gA,or_false]at c;rcases c with c|c
      ·exact absurd c c3
      ·exact .inr (.inr ⟨c,n,n0,n1,en⟩)
   ·have hr:=hr (Fs _ _);ke_read;rw[bI,bI,bo,bI];refine cW (by rw[decide_eq_false (by omega)];rfl) ?_;ke_read;refine q false _ s02 ⟨fun h=>(by cases h),fun h=>?_⟩;rw[ez,qB hu]at h;rcases h with h|⟨_,n,en,n0,n1⟩|⟨_,h⟩
    ·exact absurd h nck
    ·exact absurd hr (NM ⟨n,n0,by omega,en⟩)
    ·exact absurd hr (NM h)
 ·ke_read;refine cG (fun c2=>?_) (fun c2=>?_)
  ·ke_read;refine q _ _ s02 ?_;rw[decide_eq_true_eq,bI,bo];rcases bO with _|⟨v,r⟩
   ·obtain⟨ez,nb⟩:=zj e;rw[D6 nb,←ez,c2];exact⟨fun h=>absurd h (by decide),fun h=>absurd h (by k_go)⟩
   ·obtain⟨ez,hu,_⟩:=wZ e;rw[ez,qB hu];exact⟨fun _=>.inl c2,fun _=>by rw[bI];omega⟩
  ·ke_read;rw[bI,bo];rcases bO with _|⟨v,r⟩
   ·obtain⟨ez,nb⟩:=zj e;refine cW (by decide) ?_;ke_read;rintro p3 H3 ⟨f3,a3,s3,-⟩;refine rn (ts:=gH) a3 ?_;refine q _ _ (s02.trans s3) ?_;rw[D6 nb,decide_eq_true_eq]
   ·obtain⟨ez,hu,_⟩:=wZ e;refine dX (decide_eq_false (by rw[bI];omega)) ?_;refine q false _ s02 ⟨fun h=>(by cases h),fun h=>?_⟩;rw[ez,qB hu]at h;rcases h with h|⟨h,_⟩|⟨h|h,_⟩
    ·exact absurd h c2
    all_goals exact absurd (by rw[h];decide +kernel) c
def abN(CO CL CT CS CH:Addr):Sp:=fun vs H Q _=>∃(e:Addr) (C:Addr) (k:Str),vs=[.ref e]∧H e=some (.ext (je e (.ref C)))∧((C=CO∧k="order")∨(C=CL∧k="line")∨(C=CT∧k="text")∨(C=CS∧k="hands")∨(C=CH∧k="hand"))∧∀H',ah H H'→Q (.str k) H'
theorem HL(T:Tx w K mg):aM P w K mg base ba 1 T.f_l_kind T.d_l_kind ["e"] (abN T.C_NoOrder T.C_NoLine T.C_NoText T.C_NoHands T.C_NoHand):=by
 refine T.oj.F.ok Jn ?_ ?_;kj_on
 ·obtain⟨e,C,k,rfl,_⟩:=h;rfl
 obtain⟨e,C,k,rfl,he,hk,q⟩:=h;refine⟨_,(ao (aW (i:=1) Jn.nd rfl (by z_go) (bQ af))
  (ao (gI (aQ (cy (bP (kP (K:=K) rfl) rfl T.fN fD (ae (pv 0) (ae (dC (v:=.ref T.C_NoOrder) rfl T.wc rfl) af)))) (ap (dB ((c8 ff gz gQ fP (pv 1) (ae ai af))))) aS))
  (ao (gI (aQ (cy (bP (kP (K:=K) rfl) rfl T.fN fD (ae (pv 0) (ae (dC (v:=.ref T.C_NoLine) rfl T.BY rfl) af)))) (ap (dB ((c8 ff gz gQ fP (pv 1) (ae ai af))))) aS))
  (ao (gI (aQ (cy (bP (kP (K:=K) rfl) rfl T.fN fD (ae (pv 0) (ae (dC (v:=.ref T.C_NoText) rfl T.lF rfl) af)))) (ap (dB ((c8 ff gz gQ fP (pv 1) (ae ai af))))) aS))
  (ao (gI (aQ (cy (bP (kP (K:=K) rfl) rfl T.fN fD (ae (pv 0) (ae (dC (v:=.ref T.C_NoHands) rfl T.wx rfl) af)))) (ap (dB ((c8 ff gz gQ fP (pv 1) (ae ai af))))) aS))
  (ao (gI (aQ (cy (bP (kP (K:=K) rfl) rfl T.fN fD (ae (pv 0) (ae (dC (v:=.ref T.C_NoHand) rfl T.L5 rfl) af)))) (ap (dB ((c8 ff gz gQ fP (pv 1) (ae ai af))))) aS))
  (ao (gI (aQ (PW.pt (fg (cy (bP (kP (K:=K) rfl) rfl T.fN fD (ae (pv 0) (ae (dC (v:=.ref T.C_NoHall) rfl T.acy rfl) af)))) (fg (cy (bP (kP (K:=K) rfl) rfl T.fN fD (ae (pv 0) (ae (dC (v:=.ref T.C_NoSpan) rfl T.xf rfl) af)))) (fW (cy (bP (kP (K:=K) rfl) rfl T.fN fD (ae (pv 0) (ae (dC (v:=.ref T.C_NoTurn) rfl T.YK rfl) af)))))))) (ap (dB ((c8 ff gz gQ fP (pv 1) (ae ai af))))) aS))
  (ao (gI (aQ (fk (cy (bP (kP (K:=K) rfl) rfl T.fN fD (ae (pv 0) (ae (rj (v:=.ty "ValueError") rfl T.abp Wu rfl) af))))) (ap (dB ((c8 ff gz gQ fP (pv 1) (ae ai af))))) aS))
  (ap (az (c8 jS FL FN (EM (K:=K) rfl) ai (ae (pv 1) af)))))))))))),?_⟩
 got_up;rintro lk H1 ⟨f1,a1,s1,-⟩;have h1:=s1 _ _ he;rcases hk with⟨rfl,rfl⟩|⟨rfl,rfl⟩|⟨rfl,rfl⟩|⟨rfl,rfl⟩|⟨rfl,rfl⟩
 ·ke_read;refine bY _ ?_ fun _ _ h=>h;ke_read;refine bV (c:=.ref T.C_NoOrder) rfl (bU h1 T.ek_NoOrder) T.aan ?_;ke_read;intro H2 p2;have h2:H2 e=some (.ext (je e (.ref T.C_NoOrder))):=by rw[p2.else_ _ (fun z=>by rw[z,a1]at h1;cases h1)];exact h1
  have a2:=p2.at_;have s2:ah H H2:=p2.same s1 f1;clear p2;ke_read;refine bY _ ?_ fun _ _ h=>h;ke_read;refine bV (c:=.ref T.C_NoLine) rfl (bU h2 T.ek_NoOrder) T.Vh ?_;ke_read;refine bY _ ?_ fun _ _ h=>h;ke_read;refine bV (c:=.ref T.C_NoText) rfl (bU h2 T.ek_NoOrder) T.WE ?_;ke_read;refine bY _ ?_ fun _ _ h=>h;ke_read;refine bV (c:=.ref T.C_NoHands) rfl (bU h2 T.ek_NoOrder) T.Vu ?_;ke_read;refine bY _ ?_ fun _ _ h=>h;ke_read;refine bV (c:=.ref T.C_NoHand) rfl (bU h2 T.ek_NoOrder) T.Ux ?_;ke_read;refine bY _ ?_ fun _ _ h=>h;ke_read;refine bV (c:=.ref T.C_NoHall) rfl (bU h2 T.ek_NoOrder) T.YI ?_;ke_read;refine bV (c:=.ref T.C_NoSpan) rfl (bU h2 T.ek_NoOrder) T.Sh ?_;ke_read;refine bV (c:=.ref T.C_NoTurn) rfl (bU h2 T.ek_NoOrder) T.acq ?_;ke_read;refine bY _ ?_ fun _ _ h=>h;ke_read;refine bV (c:=.ty "ValueError") rfl (bU h2 T.ek_NoOrder) T.XS ?_;ke_read;refine⟨rfl,?_⟩;ke_read;refine⟨_,lk,["order"],rfl,rfl,ay.of a2,by decide,?_⟩;exact q _ s2
 ·ke_read;refine bY _ ?_ fun _ _ h=>h;ke_read;refine bV (c:=.ref T.C_NoOrder) rfl (bU h1 T.ek_NoLine) T.ZZ ?_;ke_read;refine bY _ ?_ fun _ _ h=>h;ke_read;refine bV (c:=.ref T.C_NoLine) rfl (bU h1 T.ek_NoLine) T.Yq ?_;ke_read;intro H2 p2;have h2:H2 e=some (.ext (je e (.ref T.C_NoLine))):=by rw[p2.else_ _ (fun z=>by rw[z,a1]at h1;cases h1)];exact h1
  have a2:=p2.at_;have s2:ah H H2:=p2.same s1 f1;clear p2;ke_read;refine bY _ ?_ fun _ _ h=>h;ke_read;refine bV (c:=.ref T.C_NoText) rfl (bU h2 T.ek_NoLine) T.Wx ?_;ke_read;refine bY _ ?_ fun _ _ h=>h;ke_read;refine bV (c:=.ref T.C_NoHands) rfl (bU h2 T.ek_NoLine) T.Zm ?_;ke_read;refine bY _ ?_ fun _ _ h=>h;ke_read;refine bV (c:=.ref T.C_NoHand) rfl (bU h2 T.ek_NoLine) T.aa7 ?_;ke_read;refine bY _ ?_ fun _ _ h=>h;ke_read;refine bV (c:=.ref T.C_NoHall) rfl (bU h2 T.ek_NoLine) T.R3 ?_;ke_read;refine bV (c:=.ref T.C_NoSpan) rfl (bU h2 T.ek_NoLine) T.Rx ?_;ke_read;refine bV (c:=.ref T.C_NoTurn) rfl (bU h2 T.ek_NoLine) T.aar ?_;ke_read;refine bY _ ?_ fun _ _ h=>h;ke_read;refine bV (c:=.ty "ValueError") rfl (bU h2 T.ek_NoLine) T.V1 ?_;ke_read;refine⟨rfl,?_⟩;ke_read;refine⟨_,lk,["line"],rfl,rfl,ay.of a2,by decide,?_⟩;exact q _ s2
 ·ke_read;refine bY _ ?_ fun _ _ h=>h;ke_read;refine bV (c:=.ref T.C_NoOrder) rfl (bU h1 T.ek_NoText) T.Ro ?_;ke_read;refine bY _ ?_ fun _ _ h=>h;ke_read;refine bV (c:=.ref T.C_NoLine) rfl (bU h1 T.ek_NoText) T.Uj ?_;ke_read;refine bY _ ?_ fun _ _ h=>h;ke_read;refine bV (c:=.ref T.C_NoText) rfl (bU h1 T.ek_NoText) T.Tw ?_;ke_read;intro H2 p2;have h2:H2 e=some (.ext (je e (.ref T.C_NoText))):=by rw[p2.else_ _ (fun z=>by rw[z,a1]at h1;cases h1)];exact h1
  have a2:=p2.at_;have s2:ah H H2:=p2.same s1 f1;clear p2;ke_read;refine bY _ ?_ fun _ _ h=>h;ke_read;refine bV (c:=.ref T.C_NoHands) rfl (bU h2 T.ek_NoText) T.Yi ?_;ke_read;refine bY _ ?_ fun _ _ h=>h;ke_read;refine bV (c:=.ref T.C_NoHand) rfl (bU h2 T.ek_NoText) T.abm ?_;ke_read;refine bY _ ?_ fun _ _ h=>h;ke_read;refine bV (c:=.ref T.C_NoHall) rfl (bU h2 T.ek_NoText) T.WR ?_;ke_read;refine bV (c:=.ref T.C_NoSpan) rfl (bU h2 T.ek_NoText) T.abK ?_;ke_read;refine bV (c:=.ref T.C_NoTurn) rfl (bU h2 T.ek_NoText) T.ZL ?_;ke_read;refine bY _ ?_ fun _ _ h=>h;ke_read;refine bV (c:=.ty "ValueError") rfl (bU h2 T.ek_NoText) T.S3 ?_;ke_read;refine⟨rfl,?_⟩;ke_read;refine⟨_,lk,["text"],rfl,rfl,ay.of a2,by decide,?_⟩;exact q _ s2
 ·ke_read;refine bY _ ?_ fun _ _ h=>h;ke_read;refine bV (c:=.ref T.C_NoOrder) rfl (bU h1 T.ek_NoHands) T.XO ?_;ke_read;refine bY _ ?_ fun _ _ h=>h;ke_read;refine bV (c:=.ref T.C_NoLine) rfl (bU h1 T.ek_NoHands) T.X6 ?_;ke_read;refine bY _ ?_ fun _ _ h=>h;ke_read;refine bV (c:=.ref T.C_NoText) rfl (bU h1 T.ek_NoHands) T.abB ?_;ke_read;refine bY _ ?_ fun _ _ h=>h;ke_read;refine bV (c:=.ref T.C_NoHands) rfl (bU h1 T.ek_NoHands) T.Uw ?_;ke_read;intro H2 p2;have h2:H2 e=some (.ext (je e (.ref T.C_NoHands))):=by rw[p2.else_ _ (fun z=>by rw[z,a1]at h1;cases h1)];exact h1
  have a2:=p2.at_;have s2:ah H H2:=p2.same s1 f1;clear p2;ke_read;refine bY _ ?_ fun _ _ h=>h;ke_read;refine bV (c:=.ref T.C_NoHand) rfl (bU h2 T.ek_NoHands) T.RW ?_;ke_read;refine bY _ ?_ fun _ _ h=>h;ke_read;refine bV (c:=.ref T.C_NoHall) rfl (bU h2 T.ek_NoHands) T.YM ?_;ke_read;refine bV (c:=.ref T.C_NoSpan) rfl (bU h2 T.ek_NoHands) T.aaj ?_;ke_read;refine bV (c:=.ref T.C_NoTurn) rfl (bU h2 T.ek_NoHands) T.Ww ?_;ke_read;refine bY _ ?_ fun _ _ h=>h;ke_read;refine bV (c:=.ty "ValueError") rfl (bU h2 T.ek_NoHands) T.aaZ ?_;ke_read;refine⟨rfl,?_⟩;ke_read;refine⟨_,lk,["hands"],rfl,rfl,ay.of a2,by decide,?_⟩;exact q _ s2
 ·ke_read;refine bY _ ?_ fun _ _ h=>h;ke_read;refine bV (c:=.ref T.C_NoOrder) rfl (bU h1 T.ek_NoHand) T.XG ?_;ke_read;refine bY _ ?_ fun _ _ h=>h;ke_read;refine bV (c:=.ref T.C_NoLine) rfl (bU h1 T.ek_NoHand) T.acf ?_;ke_read;refine bY _ ?_ fun _ _ h=>h;ke_read;refine bV (c:=.ref T.C_NoText) rfl (bU h1 T.ek_NoHand) T.Vp ?_;ke_read;refine bY _ ?_ fun _ _ h=>h;ke_read;refine bV (c:=.ref T.C_NoHands) rfl (bU h1 T.ek_NoHand) T.W3 ?_;ke_read;refine bY _ ?_ fun _ _ h=>h;ke_read;refine bV (c:=.ref T.C_NoHand) rfl (bU h1 T.ek_NoHand) T.Xh ?_;ke_read;intro H2 p2;have h2:H2 e=some (.ext (je e (.ref T.C_NoHand))):=by rw[p2.else_ _ (fun z=>by rw[z,a1]at h1;cases h1)];exact h1
  have a2:=p2.at_;have s2:ah H H2:=p2.same s1 f1;clear p2;ke_read;refine bY _ ?_ fun _ _ h=>h;ke_read;refine bV (c:=.ref T.C_NoHall) rfl (bU h2 T.ek_NoHand) T.acN ?_;ke_read;refine bV (c:=.ref T.C_NoSpan) rfl (bU h2 T.ek_NoHand) T.ZH ?_;ke_read;refine bV (c:=.ref T.C_NoTurn) rfl (bU h2 T.ek_NoHand) T.UI ?_;ke_read;refine bY _ ?_ fun _ _ h=>h;ke_read;refine bV (c:=.ty "ValueError") rfl (bU h2 T.ek_NoHand) T.aaX ?_;ke_read;refine⟨rfl,?_⟩;ke_read;refine⟨_,lk,["hand"],rfl,rfl,ay.of a2,by decide,?_⟩;exact q _ s2
def Wj:Sp:=fun vs H Q _=>∃t:Str,vs=[.str t]∧cj t 900∧(∀rs,gk t rs→∀(r:Addr) (H':Hp),ah H H'→H r=none→H' r=some (.lst [.str "text",.str ""])→Q (.ref r) H')∧((¬∃rs,gk t rs)→∀(r:Addr) (H':Hp),ah H H'→H r=none→H' r=some (.lst [.str "refused",.str "text"])→Q (.ref r) H')
theorem WC(T:Tx w K mg):aM P w K mg base ba 8 T.f_l_text_due T.d_l_text_due ["text"] (Wj):=by
 refine T.wO.F.ok yG ?_ ?_;kj_on
 ·obtain⟨t,rfl,_⟩:=h;rfl
 obtain⟨t,rfl,ht,q,q'⟩:=h;have lt:=ht.2;refine⟨_,(ao (aW (i:=1) yG.nd rfl (by z_go) ie)
  (ao (GF (P:=P) (w:=w) rfl rfl rfl ⟨rfl,rfl⟩ (fun G pn xe hp=>(ap (dB (ip (Mb T) (hr.mono (by decide)) rfl T.oa.m T.oa.F.kp T.oa.b .nil hp (ae (pv 0) af)))))
  (Hu (fun e=>(dC (v:=.ref T.C_LineError) rfl T.Gq rfl)) (MG (i:=2) yG.nd rfl rfl (fun e=>(ap (aW (i:=1) yG.nd rfl (by z_go) (pv 2))))) MW))
  (ao (aQ (aO zb (pv 1) ie (aD _)) (ap (az (bQ (ae ai (ae ai af))))) aS)
  (ap (az (bQ (ae ai (ae (aX (HL T) (hr.mono (by decide)) rfl T.oj.m T.oj.F.kp T.oj.b .nil aT (ae (pv 1) af)) af)))))))),?_⟩
 got_up;refine⟨t,rfl,ht.1,by omega,fun rs hk l H1 xs s1 hL hR=>?_,fun hn k H1 s1=>?_⟩
 ·ke_read;rintro r H2 ⟨f2,a2,s2,-⟩;ke_read;exact q rs hk r H2 (s1.trans s2) (s1.free f2) a2
 ·refine gr T.W7 ?_;ke_read;rintro e H3 ⟨f3,a3,s3,-⟩;ke_read;refine⟨e,_,"text",rfl,a3,.inr (.inr (.inl ⟨rfl,rfl⟩)),fun H4 s4=>?_⟩;ke_read;rintro r H5 ⟨f5,a5,s5,-⟩;ke_read;have s14:=s1.trans (s3.trans s4);exact q' hn r H5 (s14.trans s5) (s14.free f5) a5
def e9(H:Hp)(Q:VK)(k:Str):Prop:=∀(r:Addr) (H':Hp),ah H H'→H r=none→H' r=some (.lst [.str "refused",.str k])→Q (.ref r) H'
def ub(CD C CO:Addr):Sp:=fun vs H Q _=>∃(d:Addr) (v:V) (l:Addr) (os:Option Sn) (hs:List Int),vs=[.ref d,v]∧dG CD C CO H d l os hs∧hs.length≤120∧
 ((gi H v∧e9 H Q "order")∨∃z:Str,v=.str z∧cj z 900∧((¬∃x a,eX z x a)→e9 H Q "order")∧
  ∀x a,eX z x a→
   (∀s,oF x a s→∀(l' r:Addr) (H':Hp),H l'=none→H r=none→l'≠r→dY CD C CO H' d l' s []→(∀b o,b≠d→H b=some o→H' b=some o)→H' r=some (.lst [.str "told",.str z])→Q (.ref r) H')∧
   (¬x="open"→¬x="line"→¬iQ os x→e9 H Q "line")∧
   (∀s,os=some s→iQ os x→
    (∀n:Int,x="come"→a=.int n→(hs.length<120∧iw s (hs++[n])→∀(l' r:Addr) (H':Hp),H l'=none→H r=none→l'≠r→dY CD C CO H' d l' s (hs++[n])→(∀b o,b≠d→H b=some o→H' b=some o)→H' r=some (.lst [.str "told",.str (aJ ((hs.length:Int)+1))])→Q (.ref r) H')∧(¬(hs.length<120∧iw s (hs++[n]))→e9 H Q "hands"))∧
    (∀n:Int,x="go"→a=.int n→(n∈hs→∀(r:Addr) (H':Hp),H r=none→dY CD C CO H' d l s (hs.erase n)→(∀b o,b≠l→H b=some o→H' b=some o)→H' r=some (.lst [.str "told",.str (aJ ((hs.length:Int)-1))])→Q (.ref r) H')∧(¬n∈hs→e9 H Q "hand"))∧
    (∀t:Str,x="check"→a=.str t→(∀rs,gk t rs→∀(y:Str) (r:Addr) (H':Hp),ah H H'→H r=none→H' r=some (.lst [.str "told",.str y])→Q (.ref r) H')∧((¬∃rs,gk t rs)→e9 H Q "text"))∧
    (x∈kg→∃n,qk n s hs∧(∀low w,s=.half low w→low=0∧w≤200)∧∀(y:Str) (r:Addr) (H':Hp),ah H H'→H r=none→H' r=some (.lst [.str "told",.str y])→Q (.ref r) H')))
theorem iK{H H1:Hp}{d p:Addr}{o1:HO}(k:∀b o,b≠d→H b=some o→H1 b=some o)(hd:H1 d=some o1)(f:H1 p=none):H p=none:=by
 cases e:H p with
 |none=>rfl
 |some o=>
  by_cases z:p=d
  ·rw[z,hd]at f;cases f
  ·rw[k p o z e]at f;cases f
theorem Dr(T:Tx w K mg):aM P w K mg base ba 11 T.f_l_told T.d_l_told ["desk","order"] (ub T.C_Desk T.C_Half T.C_Open):=by
 refine T.kr.F.ok rf ?_ ?_;kj_on
 ·obtain⟨d,v,l,os,hs,rfl,_⟩:=h;rfl
 obtain⟨d,v,l,os,hs,rfl,hD,hl,h⟩:=h;have m1:∀v l,(cJ v l).lookup ("told" : Str)=none:=fun v l=>ql _ _ (by k_go) (by k_go);obtain⟨dx,v0,hd⟩:=hD.ob;refine⟨_,(ao (aW (i:=2) rf.nd rfl (by z_go) ie)
  (ao (aW (i:=3) rf.nd rfl (by z_go) ie)
  (ao (GF (P:=P) (w:=w) rfl rfl rfl ⟨rfl,rfl⟩ (fun G pn xe hp=>(ap (aW (i:=3) rf.nd rfl (by z_go) (xR (pv 0) T.gw T.BQ (Ci T) (hr.mono (by decide)) T.zM.b hp (ae (pv 1) af)))))
  (Hu (fun e=>(dC (v:=.ref T.C_LineError) rfl T.Gq rfl)) (MG (i:=4) rf.nd rfl rfl (fun e=>(ap (aW (i:=2) rf.nd rfl (by z_go) (pv 4))))) MW))
  (ao (aQ (aO L0 (pv 2) ie (aD _)) (ap (az (bQ (ae ai (ae (aX (HL T) (hr.mono (by decide)) rfl T.oj.m T.oj.F.kp T.oj.b .nil aT (ae (pv 2) af)) af))))) aS)
  (ao (aQ (cy (bP (lL (K:=K) rfl) rfl T.fN fD (ae (pv 3) (ae (rj (v:=.ty "str") rfl T.gU gW rfl) af)))) (ap (az (bQ (ae ai (ae (pv 3) af))))) aS)
  (ap (az (bQ (ae ai (ae ai af)))))))))),?_⟩
 got_up;refine⟨d,dx,_,rfl,hd,m1 _ _,?_⟩;ke_read;rcases h with⟨nv,q⟩|⟨z,rfl,hz,qn,qo⟩
 ·refine⟨d,v,l,os,hs,rfl,hD,hl,.inl ⟨nv,fun k H1 s1=>?_⟩⟩
  ·refine gr T.MV ?_;ke_read;rintro e H3 ⟨f3,a3,s3,-⟩;ke_read;refine⟨e,_,"order",rfl,a3,.inl ⟨rfl,rfl⟩,fun H4 s4=>?_⟩;ke_read;rintro r H5 ⟨f5,a5,s5,-⟩;ke_read;have s14:=s1.trans (s3.trans s4);exact q r H5 (s14.trans s5) (s14.free f5) a5
 have lz:=hz.2;refine⟨d,_,l,os,hs,rfl,hD,hl,.inr ⟨z,rfl,hz.1,by omega,fun hn k H1 s1=>?_,fun x a ho=>⟨fun s hs' l' H1 f1 hD1 k1=>?_,fun no nl nk H1 s1=>?_,fun s es lo=>⟨fun n ex ea=>⟨fun ok l' H1 f1 hD1 k1=>?_,fun nk H1 s1=>?_⟩,fun n ex ea=>⟨fun hm H1 hD1 k1=>?_,fun nm H1 s1=>?_⟩,fun t ex ea=>⟨fun rs hk y H1 s1=>?_,fun hn k H1 s1=>?_⟩,fun hx=>?_⟩⟩⟩⟩
 ·refine gr T.MV ?_;ke_read;rintro e H3 ⟨f3,a3,s3,-⟩;ke_read;refine⟨e,_,"order",rfl,a3,.inl ⟨rfl,rfl⟩,fun H4 s4=>?_⟩;ke_read;rintro r H5 ⟨f5,a5,s5,-⟩;ke_read;have s14:=s1.trans (s3.trans s4);exact qn hn r H5 (s14.trans s5) (s14.free f5) a5
 ·ke_read;rintro r H2 ⟨f2,a2,s2,-⟩;ke_read;obtain⟨_,_,hd1,_,hl1⟩:=id hD1;exact(qo x a ho).1 s hs' l' r H2 f1 (iK k1 hd1 f2) (fun z=>by rw[z,f2]at hl1;cases hl1) (hD1.keep s2) (fun b o hb e=>s2 _ _ (k1 b o hb e)) a2
 ·refine gr T.Rb ?_;ke_read;rintro e H3 ⟨f3,a3,s3,-⟩;ke_read;refine⟨e,_,"line",rfl,a3,.inr (.inl ⟨rfl,rfl⟩),fun H4 s4=>?_⟩;ke_read;rintro r H5 ⟨f5,a5,s5,-⟩;ke_read;have s14:=s1.trans (s3.trans s4);exact(qo x a ho).2.1 no nl nk r H5 (s14.trans s5) (s14.free f5) a5
 ·ke_read;rintro r H2 ⟨f2,a2,s2,-⟩;ke_read;obtain⟨_,_,hd1,_,hl1⟩:=id hD1;exact(((qo x a ho).2.2 s es lo).1 n ex ea).1 ok l' r H2 f1 (iK k1 hd1 f2) (fun z=>by rw[z,f2]at hl1;cases hl1) (hD1.keep s2) (fun b o hb e=>s2 _ _ (k1 b o hb e)) a2
 ·refine gr T.X8 ?_;ke_read;rintro e H3 ⟨f3,a3,s3,-⟩;ke_read;refine⟨e,_,"hands",rfl,a3,.inr (.inr (.inr (.inl ⟨rfl,rfl⟩))),fun H4 s4=>?_⟩;ke_read;rintro r H5 ⟨f5,a5,s5,-⟩;ke_read;have s14:=s1.trans (s3.trans s4);exact(((qo x a ho).2.2 s es lo).1 n ex ea).2 nk r H5 (s14.trans s5) (s14.free f5) a5
 ·ke_read;rintro r H2 ⟨f2,a2,s2,-⟩;ke_read;obtain⟨_,_,hd1,_,hl1⟩:=id hD1;exact(((qo x a ho).2.2 s es lo).2.1 n ex ea).1 hm r H2 (iK k1 hl1 f2) (hD1.keep s2) (fun b o hb e=>s2 _ _ (k1 b o hb e)) a2
 ·refine gr T.aa0 ?_;ke_read;rintro e H3 ⟨f3,a3,s3,-⟩;ke_read;refine⟨e,_,"hand",rfl,a3,.inr (.inr (.inr (.inr ⟨rfl,rfl⟩))),fun H4 s4=>?_⟩;ke_read;rintro r H5 ⟨f5,a5,s5,-⟩;ke_read;have s14:=s1.trans (s3.trans s4);exact(((qo x a ho).2.2 s es lo).2.1 n ex ea).2 nm r H5 (s14.trans s5) (s14.free f5) a5
 ·ke_read;rintro r H2 ⟨f2,a2,s2,-⟩;ke_read;exact(((qo x a ho).2.2 s es lo).2.2.1 t ex ea).1 rs hk y r H2 (s1.trans s2) (s1.free f2) a2
 ·refine gr T.ab0 ?_;ke_read;rintro e H3 ⟨f3,a3,s3,-⟩;ke_read;refine⟨e,_,"text",rfl,a3,.inr (.inr (.inl ⟨rfl,rfl⟩)),fun H4 s4=>?_⟩;ke_read;rintro r H5 ⟨f5,a5,s5,-⟩;ke_read;have s14:=s1.trans (s3.trans s4);exact(((qo x a ho).2.2 s es lo).2.2.1 t ex ea).2 hn r H5 (s14.trans s5) (s14.free f5) a5
 ·obtain⟨n,tw,hh,q⟩:=((qo x a ho).2.2 s es lo).2.2.2 hx;refine⟨n,tw,hh,fun y H1 s1 yo=>?_⟩;ke_read;rintro r H2 ⟨f2,a2,s2,-⟩;ke_read;exact q y r H2 (s1.trans s2) (s1.free f2) a2
theorem bg.nd{CD C CO b d dx l:Addr}{v:V}{H:Hp}:∀{s:Sn},bg C CO H b s→H d=some (.ins CD dx (cJ v l))→b≠d
 |.half _ _,hb,hd,z=>by
  obtain⟨dy,e⟩:=bx.ob hb;rw[z,hd]at e;injection e with e;injection e with e1 e2 e3;exact absurd (congrArg (fun f=>f.lookup ("top" : Str)) e3) (by rw[sM,qt _ _ (by k_go) (by k_go)];intro c;cases c)
 |.opn _,hb,hd,z=>by
  obtain⟨dy,e⟩:=bX.ob hb;rw[z,hd]at e;injection e with e;injection e with e1 e2 e3;exact absurd (congrArg (fun f=>f.lookup ("top" : Str)) e3) (by rw[sM,qx _ (by k_go)];intro c;cases c)
def wH(ak:Int)(os:Option Sn):Prop:=(ak=-2∧os=none)∨(ak=-1∧os=some (.opn 0))∨(0≤ak∧ak≤200∧os=some (.half 0 ak))
theorem mI{a b:V}:[(("width" : Str),a),(("hands" : Str),b)].lookup ("width" : Str)=some a:=by rw[iD,beq_self_eq_true]
theorem oB{a b:V}:[(("width" : Str),a),(("hands" : Str),b)].lookup ("hands" : Str)=some b:=by
 rw[iD,beq_eq_false_iff_ne.mpr (show¬("hands" : Str)="width" by k_go)];show iZ _ [(_,b)]=_;rw[iD,beq_self_eq_true]
theorem Mh{a b v:V}:pB [(("width" : Str),a),(("hands" : Str),b)] "hands" v=[(("width" : Str),a),(("hands" : Str),v)]:=by
 unfold pB;rw[eD,eD,if_neg (show¬("width" : Str)="hands" by k_go),if_pos rfl];rfl
theorem CM{a b v:V}:pB [(("width" : Str),a),(("hands" : Str),b)] "width" v=[(("width" : Str),v),(("hands" : Str),b)]:=by
 unfold pB;rw[eD,eD,if_pos rfl,if_neg (show¬("hands" : Str)="width" by k_go)];rfl
structure DS(P:aG)(w:av)(CD C CO:Addr)(H:Hp)(d st l lh:Addr)(ak:Int)(os:Option Sn)(hs:List Int):Prop where
 dk:dG CD C CO H d l os hs
 sta:H st=some (dR P w st [("width",.int ak),("hands",.ref lh)])
 lst:H lh=some (.lst (hs.map V.int))
 wd:wH ak os
 nil:os=none→hs=[]
 nd:hs.Nodup
 inn:∀s,os=some s→∀h∈hs,am s h=true
 hb:∀h∈hs,0≤h∧h<10^60
 ne:l≠lh
theorem dG.li{CD C CO:Addr}{H:Hp}{d l:Addr}{os:Option Sn}{hs:List Int}(h:dG CD C CO H d l os hs):H l=some (.lst (hs.map V.int)):=by
 cases os with
 |none=>
  obtain⟨dx,h1,h2⟩:=h;exact h2
 |some s=>
  obtain⟨dx,b,h1,_,h2⟩:=h;exact h2
theorem bg.nk{C CO b a:Addr}{H:Hp}:∀{s:Sn},bg C CO H b s→(∀C dx fs,H a≠some (.ins C dx fs))→b≠a
 |.half _ _,hb,h,z=>by obtain⟨dy,e⟩:=bx.ob hb;rw[z]at e;exact h _ _ _ e
 |.opn _,hb,h,z=>by obtain⟨dy,e⟩:=bX.ob hb;rw[z]at e;exact h _ _ _ e
theorem dG.but{CD C CO:Addr}{H H':Hp}{d l a:Addr}{os:Option Sn}{hs:List Int}(h:dG CD C CO H d l os hs)(nd:d≠a)(nl:l≠a)(na:(∀C dx fs,H a≠some (.ins C dx fs))∨∃dx v l',H a=some (.ins CD dx (cJ v l')))(k:∀b o,b≠a→H b=some o→H' b=some o):dG CD C CO H' d l os hs:=by
 cases os with
 |none=>
  obtain⟨dx,h1,h2⟩:=h;exact⟨dx,k _ _ nd h1,k _ _ nl h2⟩
 |some s=>
  obtain⟨dx,b,h1,hb,h2⟩:=h;have nb:b≠a:=by
   rcases na with na|⟨dx',v,l',e⟩
   ·exact hb.nk na
   ·exact bg.nd hb e
  exact⟨dx,b,k _ _ nd h1,hb.byD (d:=a) (l:=a) (fun z o hz _ e=>k z o hz e) nb nb,k _ _ nl h2⟩
theorem DS.keep{CD C CO:Addr}{H H':Hp}{d st l lh:Addr}{ak:Int}{os:Option Sn}{hs:List Int}(h:DS P w CD C CO H d st l lh ak os hs)(k:ah H H'):DS P w CD C CO H' d st l lh ak os hs:=
 ⟨h.dk.keep k,k _ _ h.sta,k _ _ h.lst,h.wd,h.nil,h.nd,h.inn,h.hb,h.ne⟩
def DZ(d st l lh:Addr)(H H':Hp):Prop:=∀b o,b≠d→b≠st→b≠l→b≠lh→H b=some o→H' b=some o
theorem DS.other{CD C CO:Addr}{H H':Hp}{d st l lh d' st' l' lh':Addr}{ak width':Int}{os os':Option Sn}{hs hs':List Int}(h:DS P w CD C CO H d st l lh ak os hs)(g:DS P w CD C CO H d' st' l' lh' width' os' hs')
  (n1:d≠d') (n2:st≠st') (n3:l≠l') (n4:l≠lh') (n5:lh≠l') (n6:lh≠lh') (k:DZ d' st' l' lh' H H'):DS P w CD C CO H' d st l lh ak os hs:=by
 obtain⟨dx',v',gd⟩:=g.dk.ob;obtain⟨dx,v,hd⟩:=h.dk.ob;have gl:=g.dk.li;have hl:=h.dk.li;have kd:=k _ _ n1 (fun z=>by rw[z,g.sta]at hd;cases hd) (fun z=>by rw[z,gl]at hd;cases hd) (fun z=>by rw[z,g.lst]at hd;cases hd) hd;have kl:=k _ _ (fun z=>by rw[z,gd]at hl;cases hl) (fun z=>by rw[z,g.sta]at hl;cases hl) n3 n4 hl;refine⟨?_,k _ _ (fun z=>by have:=h.sta;rw[z,gd]at this;cases this) n2 (fun z=>by have:=h.sta;rw[z,gl]at this;cases this) (fun z=>by have:=h.sta;rw[z,g.lst]at this;cases this) h.sta,k _ _ (fun z=>by have:=h.lst;rw[z,gd]at this;cases this) (fun z=>by have:=h.lst;rw[z,g.sta]at this;cases this) n5 n6 h.lst,h.wd,h.nil,h.nd,h.inn,h.hb,h.ne⟩;have dk:=h.dk;cases os with
 |none=>
  obtain⟨dy,e1,e2⟩:=dk;rw[hd]at e1;cases e1;exact⟨dx,kd,kl⟩
 |some s=>
  obtain⟨dy,b,e1,hb,e2⟩:=dk;rw[hd]at e1;cases e1;have b1:b≠d':=bg.nd hb gd;have b2:b≠st':=hb.nk (fun _ _ _ z=>by rw[g.sta]at z;cases z);have b3:b≠l':=hb.nk (fun _ _ _ z=>by rw[gl]at z;cases z);have b4:b≠lh':=hb.nk (fun _ _ _ z=>by rw[g.lst]at z;cases z);refine⟨dx,b,kd,?_,kl⟩;cases s with
  |half lo bi=>exact⟨let⟨dz,e⟩:=bx.ob hb;⟨dz,k _ _ b1 b2 b3 b4 e⟩,bx.b0 hb,bx.b1 hb,bx.lo hb,bx.big hb,bx.mul hb⟩
  |opn lo=>exact⟨let⟨dz,e⟩:=bX.ob hb;⟨dz,k _ _ b1 b2 b3 b4 e⟩,bX.lo hb,bX.big hb,bX.pow hb⟩
theorem DS.tw{CD C CO:Addr}{H:Hp}{d st l lh:Addr}{ak:Int}{s:Sn}{hs:List Int}(h:DS P w CD C CO H d st l lh ak (some s) hs)(hl:hs.length≤60):qk 403 s hs∧∀low w,s=.half low w→low=0∧w≤200:=by
 have inn:=h.inn s rfl;have fl:∀p:Int→Bool,(hs.filter p).length≤60:=fun p=>cB (kK _ _) hl;rcases h.wd with⟨_,e⟩|⟨_,e⟩|⟨w0,w1,e⟩
 ·cases e
 ·injection e with e;subst e;have e200:pw 200=2^200:=rfl;have f:dQ 403 (.opn 0) hs:=QY (B:=200) (by decide) (by decide) h.nd (fun x hx=>by have:=h.hb x hx;omega) (by decide);have ok:Ok (.opn 0):=.inl rfl;exact⟨⟨inn,h.nd,by omega,f,ok,(show(0:Int)≤2*10^60 by decide),h.hb,by have:=yX 403 _ hs ok f;have:=fl (am (.opn 0));omega⟩,fun _ _ z=>nomatch z⟩
 ·injection e with e;subst e;have p2:pw ak≤pw 200:=oK w1;have e200:pw 200=2^200:=rfl;have f:dQ 403 (.half 0 ak) hs:=uN 403 0 ak hs h.nd w0 (by omega);have ok:Ok (.half 0 ak):=w0;refine⟨⟨inn,h.nd,by omega,f,ok,(show 0+pw ak≤2*10^60 by omega),h.hb,by have:=yX 403 _ hs ok f;have:=fl (am (.half 0 ak));omega⟩,fun low w' z=>?_⟩;injection z with z1 z2;exact⟨z1.symm,by omega⟩
theorem S0(l:List Nat):(fT l.length).filterMap (fun j=>l[j]?)=l:=by
 induction l with
 |nil=>rfl
 |cons c t ih=>
  rw[bI,OP,rD,Fx];show c::(fT t.length).filterMap (fun j=>(c::t)[j+1]?)=c::t;exact congrArg (c::·) ih
theorem Zv{y t:Str}:gD (y++t) (some (y.length:Int)) none=t:=by
 have el:(y++t).length=y.length+t.length:=cO _ _;have ix:Fd (some (y.length:Int)) none 1 (y++t).length=(fT t.length).map fun j=>y.length+j:=by
  unfold Fd sliceRange;have e1:max (0:Int) (min (y.length:Int) ((y++t).length:Int))=(y.length:Int):=by omega
  simp only[show(1:Int)>0 by decide,if_true,show¬((y.length:Int)<0)by omega,if_false,e1];have e2:(if(y.length:Int)<((y++t).length:Int)then(((y++t).length:Int)-(y.length:Int)+1-1)/1 else 0).toNat=t.length:=by
   split<;>omega
  rw[e2];refine Ai fun j _=>?_;omega
 have et:((fT t.length).map fun j=>y.length+j).filterMap ((y++t).cps[·]?)=t.cps.toList:=by
  rw[Fx];have e3:∀j,((fun i=>(y++t).cps[i]?)∘fun j=>y.length+j) j=t.cps.toList[j]?:=fun j=>by
   show(y++t).cps[y.length+j]?=_;rw[←zN,gB,gM,iY (by show y.length≤y.length+j;omega)]
   congr 1
   show y.length+j-y.length=j;omega
  rw[funext e3];exact S0 t.cps.toList
 unfold gD;rw[ix];split
 ·rename_i hc;rw[bo,FB]at hc;have hc':(t.length==(y++t).length)=true:=by simpa using hc
  have:=F7 hc';have y0:y.cps.toList=[]:=Af.mp (show y.length=0 by omega);refine iV ?_;rw[gB,gM,y0,lW]
 ·refine iV ?_;exact et
theorem IQ{z x:Str}{a:V}(h:eX z x a):∃bO,cN z " " = x::bO∧∀n:Int,a=.int n→bO=[aJ n]∧0≤n∧n<10^60:=by
 have one:∀{u v:Str},32∉u.cps.toList→32∉v.cps.toList→cN (u++(" " : Str)++v) " " = [u,v]:=fun{u v} hu hv=>by
  have e:u++(" " : Str)++v=cM " " [u,v]:=rfl;rw[e,jH];refine rX (Fs _ _) fun p hp=>?_;rcases bu.mp hp with rfl|hp
  ·exact hu
  ·rw[dS.mp hp];exact hv
 have nn:∀{n:Int},0≤n→32∉(aJ n).cps.toList:=fun n0 z=>by have:=rd n0 _ z;omega
 rcases h with⟨hx,rfl,rfl⟩|⟨t,rfl,rfl,rfl⟩|⟨n,rfl,rfl,n0,n1,rfl⟩|⟨n,hx,rfl,n0,n1,rfl⟩
 ·refine⟨[],?_,fun n e=>nomatch e⟩;have:=rX (c:=32) (ps:=[z]) (Fs _ _) fun p hp=>by rw[dS.mp hp];exact DV z hx
  rw[jH];exact this
 ·obtain⟨u,bO,e⟩:=z9 (qR (("check" : Str)++(" " : Str)++t) " ");refine⟨bO,?_,fun n e=>nomatch e⟩;rcases bO with _|⟨v,r⟩
  ·exact absurd (qH _ _) (zj e).2
  ·obtain⟨ez,hu,_⟩:=wZ e;obtain⟨eu,_⟩:=xC CQ hu ez;rw[e,eu]
 ·exact⟨_,one BF (nn n0),fun m e=>by injection e with e;subst e;exact⟨rfl,n0,by omega⟩⟩
 ·refine⟨_,one (by rcases hx with rfl|rfl;exact Da;exact A0) (nn n0),fun m e=>by injection e with e;subst e;exact⟨rfl,n0,n1⟩⟩
def aak(P:aG)(w:av):Sp:=fun vs H Q _=>∃(lw st lh:Addr) (x:Str) (n ak:Int) (hs:List Int),vs=[.ref lw,.ref st]∧H lw=some (.lst [.str x,.str (aJ n)])∧0≤n∧n<10^60∧H st=some (dR P w st [("width",.int ak),("hands",.ref lh)])∧H lh=some (.lst (hs.map V.int))∧hs.length≤120∧ak≤200∧
 ((x="come"∧(¬(n∈hs∨(0≤ak∧pw ak≤n))→∀(r:Addr) (H':Hp),H r=none→H' lh=some (.lst ((hs++[n]).map V.int))→(∀b o,b≠lh→H b=some o→H' b=some o)→H' r=some (.lst [.str "told",.str (aJ ((hs.length:Int)+1))])→Q (.ref r) H')∧((n∈hs∨(0≤ak∧pw ak≤n))→e9 H Q "hands"))∨
  (x="go"∧(n∈hs→∀(r:Addr) (H':Hp),H r=none→H' lh=some (.lst ((hs.erase n).map V.int))→(∀b o,b≠lh→H b=some o→H' b=some o)→H' r=some (.lst [.str "told",.str (aJ ((hs.length:Int)-1))])→Q (.ref r) H')∧(¬n∈hs→e9 H Q "hand")))
theorem QI(T:Tx w K mg):aM P w K mg base ba 1 T.f_l_moved T.d_l_moved ["some_words","state"] (aak P w):=by
 refine T.xn.F.ok Ie ?_ ?_;kj_on
 ·obtain⟨lw,st,lh,x,n,ak,hs,rfl,_⟩:=h;rfl
 obtain⟨lw,st,lh,x,n,ak,hs,rfl,hw,n0,n1,hst,hlh,len,w1,h⟩:=h;have nl:=gK n0 n1;have nst:st≠lh:=fun z=>by rw[z,hlh]at hst;cases hst
 have e1:cw [V.str x,V.str (aJ n)] 1=some (.str (aJ n)):=rfl;have e0:cw [V.str x,V.str (aJ n)] 0=some (.str x):=rfl;have nwl:lw≠st:=fun z=>by rw[z,hst]at hw;cases hw
 have g1:¬("go" : Str)="come":=by k_go
 refine⟨_,(ao (aW (i:=2) Ie.nd rfl (by z_go) (gj wL rfl T.tE uL (ae (aI (ck (K:=K) rfl) (pv 0) aj (fun _ _=>rfl)) af)))
  (ao (gI (aQ (aO br (aI (ck (K:=K) rfl) (pv 0) aj (fun _ _=>rfl)) ai (aD _)) (ao (gI (aQ (PW.pt (fg (aO (qg (K:=K) rfl) (pv 2) (aI (km (P:=P) (w:=w) rfl rfl) (pv 1) ai (fun _ _=>rfl)) (by with_unfolding_all rfl)) (fW (PW.pt (lD (aO sy (aI (km (P:=P) (w:=w) rfl rfl) (pv 1) ai (fun _ _=>rfl)) aj (aD _)) (kQ (aO sy (pv 2) (be CU aj (aI (km (P:=P) (w:=w) rfl rfl) (pv 1) ai (fun _ _=>rfl))) (aD _)))))))) (ap (az (bQ (ae ai (ae ai af))))) aS))
  (ap (dB ((c8 ff gz gQ fP (aI (km (P:=P) (w:=w) rfl rfl) (pv 1) ai (fun _ _=>rfl)) (ae (pv 2) af)))))) (ao (aQ (aO (HH (K:=K) rfl) (pv 2) (aI (km (P:=P) (w:=w) rfl rfl) (pv 1) ai (fun _ _=>rfl)) (by with_unfolding_all rfl)) (ap (az (bQ (ae ai (ae ai af))))) aS)
  (ap (dB (c8 ff Fm Pf IZ (aI (km (P:=P) (w:=w) rfl rfl) (pv 1) ai (fun _ _=>rfl)) (ae (pv 2) af)))))))
  (ap (az (bQ (ae ai (ae (gj jF rfl T.gU gW (ae (bP (fS (K:=K) rfl) rfl T.dJ dF (ae (aI (km (P:=P) (w:=w) rfl rfl) (pv 1) ai (fun _ _=>rfl)) af)) af)) af))))))),?_⟩
 got_up;refine⟨aJ n,n,rfl,mq n0 (by omega),by omega,?_⟩;ke_read;refine bY (fun σ' H'=>∃hs':List Int,σ'=[some (.ref lw),some (.ref st),some (.int n)]∧H' st=some (dR P w st [("width",.int ak),("hands",.ref lh)])∧H' lh=some (.lst (hs'.map V.int))∧hs'.length≤121∧∀(r:Addr) (H'':Hp),ah H' H''→H' r=none→H'' r=some (.lst [.str "told",.str (aJ (hs'.length:Int))])→Q (.ref r) H'') ?_ ?_
 ·refine qD ?_;rcases h with⟨rfl,q,q'⟩|⟨rfl,q,q'⟩
  ·ke_read;refine bY (fun σ' H'=>H'=H∧σ'=[some (.ref lw),some (.ref st),some (.int n)]∧¬(n∈hs∨(0≤ak∧pw ak≤n))) ?_ ?_
   ·refine qD ?_;ke_read;refine j7 hst oB ?_;ke_read;refine cG (fun c=>?_) (fun c=>?_)
    ·ke_read;rintro r H2 ⟨f2,a2,s2,-⟩;ke_read;exact q' (.inl c) r H2 s2 f2 a2
    ke_read;refine j7 hst mI ?_;ke_read;refine cG (fun c1=>?_) (fun c1=>?_)
    ·have sh:KM 1 ak:=⟨c1,by omega,by decide,by decide⟩;ke_read;refine j7 hst mI ?_;ke_read;refine cG (fun c2=>?_) (fun c2=>?_)
     ·ke_read;rintro r H2 ⟨f2,a2,s2,-⟩;ke_read;exact q' (.inr ⟨c1,by omega⟩) r H2 s2 f2 a2
     ·exact⟨rfl,rfl,fun h=>by rcases h with h|h;exact c h;omega⟩
    ·exact⟨rfl,rfl,fun h=>by rcases h with h|h;exact c h;exact c1 h.1⟩
   rintro σ' H0 ⟨rfl,rfl,no⟩;ke_read;refine j7 hst oB ?_;ke_read;intro H2 p2;have k2:∀b o,b≠lh→H0 b=some o→H2 b=some o:=fun b o hb e=>by rw[p2.else_ b hb];exact e
   have a2:=p2.at_;rw[show hs.map V.int++[V.int n]=(hs++[n]).map V.int by rw[m8];rfl]at a2;have el:(((hs++[n]).length:Nat):Int)=(hs.length:Int)+1:=by rw[dm];rfl
   refine⟨hs++[n],rfl,k2 _ _ nst hst,a2,by rw[dm];show hs.length+1≤121;omega,fun r H'' s f a=>?_⟩;rw[el]at a;exact q no r H'' (iK k2 a2 f) (s _ _ a2) (fun b o hb e=>s _ _ (k2 b o hb e)) a
  ·ke_read;refine j7 hst oB ?_;ke_read;by_cases c:n∈hs
   ·refine dX (by rw[decide_eq_true c];rfl) ?_;ke_read;refine j7 hst oB ?_;ke_read;refine Ng hlh c fun H2 p2=>?_;have k2:∀b o,b≠lh→H b=some o→H2 b=some o:=fun b o hb e=>by rw[p2.else_ b hb];exact e
    have a2:=p2.at_;have hp:0<hs.length:=OD c;have el:(((hs.erase n).length:Nat):Int)=(hs.length:Int)-1:=by rw[Ag c];omega
    refine⟨hs.erase n,rfl,k2 _ _ nst hst,a2,by rw[Ag c];omega,fun r H'' s f a=>?_⟩;rw[el]at a;exact q c r H'' (iK k2 a2 f) (s _ _ a2) (fun b o hb e=>s _ _ (k2 b o hb e)) a
   ·refine cW (by rw[decide_eq_false c];rfl) ?_;ke_read;rintro r H2 ⟨f2,a2,s2,-⟩;ke_read;exact q' c r H2 s2 f2 a2
 rintro σ' H1 ⟨hs',rfl,hst1,hlh1,qh,q⟩;ke_read;refine j7 hst1 oB ?_;ke_read;rw[bo];refine⟨hE (by omega) (by omega),?_⟩;ke_read;rintro r H2 ⟨f2,a2,s2,-⟩;ke_read;exact q r H2 s2 f2 a2
def WG(x:Str)(a:V)(n:Int):Prop:=(x="open"∧n=-1)∨(x="line"∧a=.int n∧0≤n∧n≤200)
def yw(ak:Int)(x:Str):Prop:=ak=-2∨(ak=-1∧x∈kz)
def Kl(P:aG)(w:av):Sp:=fun vs H Q _=>∃(v:V) (st lh:Addr) (ak:Int) (hs:List Int),vs=[v,.ref st]∧H st=some (dR P w st [("width",.int ak),("hands",.ref lh)])∧H lh=some (.lst (hs.map V.int))∧hs.length≤120∧-2≤ak∧ak≤200∧
 ((gi H v∧e9 H Q "order")∨∃z:Str,v=.str z∧cj z 220∧((¬∃x a,eX z x a)→e9 H Q "order")∧
  ∀x a,eX z x a→
   (∀n,WG x a n→∀(lh' r:Addr) (H':Hp),H lh'=none→H r=none→lh'≠r→H' st=some (dR P w st [("width",.int n),("hands",.ref lh')])→H' lh'=some (.lst [])→(∀b o,b≠st→H b=some o→H' b=some o)→H' r=some (.lst [.str "told",.str z])→Q (.ref r) H')∧
   (¬x="open"→¬x="line"→yw ak x→e9 H Q "line")∧
   (¬yw ak x→
    (∀n:Int,x="come"→a=.int n→(¬(n∈hs∨(0≤ak∧pw ak≤n))→∀(r:Addr) (H':Hp),H r=none→H' lh=some (.lst ((hs++[n]).map V.int))→(∀b o,b≠lh→H b=some o→H' b=some o)→H' r=some (.lst [.str "told",.str (aJ ((hs.length:Int)+1))])→Q (.ref r) H')∧((n∈hs∨(0≤ak∧pw ak≤n))→e9 H Q "hands"))∧
    (∀n:Int,x="go"→a=.int n→(n∈hs→∀(r:Addr) (H':Hp),H r=none→H' lh=some (.lst ((hs.erase n).map V.int))→(∀b o,b≠lh→H b=some o→H' b=some o)→H' r=some (.lst [.str "told",.str (aJ ((hs.length:Int)-1))])→Q (.ref r) H')∧(¬n∈hs→e9 H Q "hand"))∧
    (∀t:Str,x="check"→a=.str t→(∀rs,gk t rs→∀(r:Addr) (H':Hp),ah H H'→H r=none→H' r=some (.lst [.str "text",.str ""])→Q (.ref r) H')∧((¬∃rs,gk t rs)→e9 H Q "text"))∧
    (x∈kg→∀(r:Addr) (H':Hp),ah H H'→H r=none→H' r=some (.lst [.str "text",.str ""])→Q (.ref r) H')))
theorem nS{to ti:TE}{t:sf}{v:V}{σ : St}{H:Hp}{Q:St→Hp→Prop}(h:to σ H fun o H1=>ti σ H1 fun i H2=>t o i v H2 fun H3=>Q σ H3):Lk to ti t v σ H Q:=h
theorem ZS(T:Tx w K mg):aM P w K mg base ba 9 T.f_l_due T.d_l_due ["order","state"] (Kl P w):=by
 refine T.xY.F.ok A9 ?_ ?_;kj_on
 ·obtain⟨v,st,lh,ak,hs,rfl,_⟩:=h;rfl
 obtain⟨v,st,lh,ak,hs,rfl,hst,hlh,len,w0,w1,h⟩:=h;have o1:¬("open" : Str)="line":=by k_go
 refine⟨_,(ao (aQ (fk (cy (aX (WJ T) (hr.mono (by decide)) rfl T.yU.m T.yU.F.kp T.yU.b .nil aT (ae (pv 0) af)))) (ap (az (bQ (ae ai (ae ai af))))) aS)
  (ao (aW (i:=2) A9.nd rfl (by z_go) (c8 jS lT rM qZ (pv 0) (ae ai af)))
  (ao (aQ (PW.pt (fg (aO br (aI (ck (K:=K) rfl) (pv 2) aj (fun _ _=>rfl)) ai (aD _)) (fW (aO br (aI (ck (K:=K) rfl) (pv 2) aj (fun _ _=>rfl)) ai (aD _))))) (ao (tm (mK mo aj) (tV (pv 1) ai (Bf (P:=P) (w:=w) rfl rfl)))
  (ao (gI (aQ (aO br (aI (ck (K:=K) rfl) (pv 2) aj (fun _ _=>rfl)) ai (aD _)) (ap (tm (gj wL rfl T.tE uL (ae (aI (ck (K:=K) rfl) (pv 2) aj (fun _ _=>rfl)) af)) (tV (pv 1) ai (Bf (P:=P) (w:=w) rfl rfl)))) aS))
  (ao (tm (bQ af) (tV (pv 1) ai (Bf (P:=P) (w:=w) rfl rfl)))
  (ap (az (bQ (ae ai (ae (pv 0) af)))))))) aS)
  (ao (aW (i:=3) A9.nd rfl (by z_go) (eg (qg (K:=K) rfl) (aI (ck (K:=K) rfl) (pv 2) aj (fun _ _=>rfl)) (bQ (ae ai (ae ai (ae ai (ae ai af))))) (by with_unfolding_all rfl)))
  (ao (gI (aQ (PW.pt (fg (aO br (aI (km (P:=P) (w:=w) rfl rfl) (pv 1) ai (fun _ _=>rfl)) (mK mo aj) (aD _)) (fW (PW.pt (lD (aO br (aI (km (P:=P) (w:=w) rfl rfl) (pv 1) ai (fun _ _=>rfl)) (mK mo aj) (aD _)) (kQ (cy (pv 3)))))))) (ap (az (bQ (ae ai (ae ai af))))) aS))
  (ao (aQ (aO br (aI (ck (K:=K) rfl) (pv 2) aj (fun _ _=>rfl)) ai (aD _)) (ap (az (aX (WC T) (hr.mono (by decide)) rfl T.wO.m T.wO.F.kp T.wO.b .nil aT (ae (lj oI (pv 0) (kj aj) mU) af)))) aS)
  (ao (aQ (aO (qg (K:=K) rfl) (aI (ck (K:=K) rfl) (pv 2) aj (fun _ _=>rfl)) (bQ (ae ai (ae ai af))) (by with_unfolding_all rfl)) (ap (az (aX (QI T) (hr.mono (by decide)) rfl T.xn.m T.xn.F.kp T.xn.b .nil aT (ae (pv 2) (ae (pv 1) af))))) aS)
  (ap (az (bQ (ae ai (ae ai af)))))))))))),?_⟩
 got_up;rcases h with⟨nv,q⟩|⟨z,rfl,hz,qn,qo⟩
 ·refine⟨v,rfl,.inl ⟨nv,fun H1 s1=>?_⟩⟩;ke_read;rintro r H2 ⟨f2,a2,s2,-⟩;ke_read;exact q r H2 (s1.trans s2) (s1.free f2) a2
 have lz:=hz.2;refine⟨_,rfl,.inr ⟨z,rfl,hz,fun b H1 s1 hb=>?_⟩⟩;cases b with
 |false=>
  ke_read;rintro r H2 ⟨f2,a2,s2,-⟩;ke_read;exact qn (fun h=>by have:=hb.mpr h;cases this) r H2 (s1.trans s2) (s1.free f2) a2
 |true=>
 obtain⟨x,a,ho⟩:=hb.mp rfl;obtain⟨bO,es,hr⟩:=IQ ho;obtain⟨pl,pn,po⟩:=qo x a ho;clear qo qn hb;ke_read;refine⟨rfl,?_⟩;ke_read;refine⟨z," ",rfl,rfl,by k_go,by omega,fun p2 H2 nw2=>?_⟩;obtain⟨f2,a2,s2,-⟩:=nw2;rw[es]at a2;replace a2:H2 p2=some (.lst (.str x::bO.map V.str)):=a2;have e0:=EV (.str x) (bO.map V.str);have s02:=s1.trans s2;have st2:=s02 _ _ hst;have lh2:=s02 _ _ hlh;by_cases xl:x="line"
 ·subst xl;obtain⟨n,ea,n0,n1⟩:∃n:Int,a=.int n∧0≤n∧n≤200:=by
   rcases ho with⟨h,_⟩|⟨t,h,_⟩|⟨n,_,_,n0,n1,h⟩|⟨n,h,_⟩
   ·exact absurd h (by k_go)
   ·exact absurd h (by k_go)
   ·exact⟨n,h,n0,n1⟩
   ·exact absurd h (by k_go)
  obtain⟨er,_⟩:=hr n ea;subst er;have e1:cw [V.str "line",V.str (aJ n)] 1=some (.str (aJ n)):=rfl;have nl:=gK n0 (show n<10^60 by omega);replace a2:H2 p2=some (.lst [.str "line",.str (aJ n)]):=a2;ke_read;refine nS ?_;ke_read;refine⟨st,_,_,_,rfl,rfl,st2,mI,by show 2≤100;decide,fun H3 p3=>?_⟩;rw[CM]at p3;have st3:=p3.at_;have np2:st≠p2:=db (s1 _ _ hst) f2;have nW:H3 p2=some (.lst [.str "line",.str (aJ n)]):=by rw[p3.else_ _ np2.symm];exact a2
  have k3:∀b o,b≠st→H b=some o→H3 b=some o:=fun b o hb e=>by rw[p3.else_ b hb];exact s02 _ _ e
  ke_read;refine bY _ ?_ fun _ _ h=>h;ke_read;refine⟨aJ n,n,rfl,mq n0 (by omega),by omega,?_⟩;ke_read;refine nS ?_;ke_read;refine⟨st,_,_,_,rfl,rfl,st3,mI,by show 2≤100;decide,fun H4 p4=>?_⟩;rw[CM]at p4;have st4:=p4.at_;have k4:∀b o,b≠st→H b=some o→H4 b=some o:=fun b o hb e=>by rw[p4.else_ b hb];exact k3 b o hb e
  ke_read;rintro p5 H5 ⟨f5,a5,s5,-⟩;have st5:=s5 _ _ st4;have np5:st≠p5:=db st4 f5;ke_read;refine nS ?_;ke_read;refine⟨st,_,_,_,rfl,rfl,st5,oB,by show 2≤100;decide,fun H6 p6=>?_⟩;rw[Mh]at p6;have st6:=p6.at_;have a56:H6 p5=some (.lst []):=by rw[p6.else_ _ np5.symm];exact a5
  have k6:∀b o,b≠st→H b=some o→H6 b=some o:=fun b o hb e=>by rw[p6.else_ b hb];exact s5 _ _ (k4 b o hb e)
  have f5':H p5=none:=iK k4 st4 f5;ke_read;rintro r H7 ⟨f7,a7,s7,-⟩;ke_read;exact pl _ (.inr ⟨rfl,ea,n0,n1⟩) p5 r H7 f5' (iK k6 st6 f7) (fun z=>by rw[z,f7]at a56;cases a56) (s7 _ _ st6) (s7 _ _ a56) (fun b o hb e=>s7 _ _ (k6 b o hb e)) a7
 by_cases xo:x="open"
 ·subst xo;ke_read;refine nS ?_;ke_read;refine⟨st,_,_,_,rfl,rfl,st2,mI,by show 2≤100;decide,fun H4 p4=>?_⟩;rw[CM]at p4;have st4:=p4.at_;have np2:st≠p2:=db (s1 _ _ hst) f2;have a24:H4 p2=some (.lst (.str "open"::bO.map V.str)):=by rw[p4.else_ _ np2.symm];exact a2
  have k4:∀b o,b≠st→H b=some o→H4 b=some o:=fun b o hb e=>by rw[p4.else_ b hb];exact s02 _ _ e
  ke_read;refine bY _ ?_ fun _ _ h=>h;ke_read;rintro p5 H5 ⟨f5,a5,s5,-⟩;have st5:=s5 _ _ st4;have np5:st≠p5:=db st4 f5;ke_read;refine nS ?_;ke_read;refine⟨st,_,_,_,rfl,rfl,st5,oB,by show 2≤100;decide,fun H6 p6=>?_⟩;rw[Mh]at p6;have st6:=p6.at_;have a56:H6 p5=some (.lst []):=by rw[p6.else_ _ np5.symm];exact a5
  have k6:∀b o,b≠st→H b=some o→H6 b=some o:=fun b o hb e=>by rw[p6.else_ b hb];exact s5 _ _ (k4 b o hb e)
  have f5':H p5=none:=iK k4 st4 f5;ke_read;rintro r H7 ⟨f7,a7,s7,-⟩;ke_read;exact pl _ (.inl ⟨rfl,rfl⟩) p5 r H7 f5' (iK k6 st6 f7) (fun z=>by rw[z,f7]at a56;cases a56) (s7 _ _ st6) (s7 _ _ a56) (fun b o hb e=>s7 _ _ (k6 b o hb e)) a7
 ke_read;rintro p3 H3 ⟨f3,a3,s3,-⟩;refine rn (ts:=kz) a3 ?_;have s03:=s02.trans s3;have st3:=s3 _ _ st2;have lh3:=s3 _ _ lh2;have nW:=s3 _ _ a2;ke_read;refine bY (fun σ' H'=>H'=H3∧¬yw ak x∧σ'=[some (.str z),some (.ref st),some (.ref p2),some (.bl (decide (x∈kz)))]) ?_ ?_
 ·refine qD ?_;ke_read;refine j7 st3 mI ?_;ke_read;refine cG (fun c=>?_) (fun c=>?_)
  ·ke_read;rintro r H4 ⟨f4,a4,s4,-⟩;ke_read;exact pn xo xl (.inl c) r H4 (s03.trans s4) (s03.free f4) a4
  ke_read;refine j7 st3 mI ?_;ke_read;refine cG (fun c1=>?_) (fun c1=>?_)
  ·ke_read;refine cG (fun c2=>?_) (fun c2=>?_)
   ·ke_read;rintro r H4 ⟨f4,a4,s4,-⟩;ke_read;exact pn xo xl (.inr ⟨c1,c2⟩) r H4 (s03.trans s4) (s03.free f4) a4
   ·exact⟨rfl,fun h=>by rcases h with h|h;exact c h;exact c2 h.2,rfl⟩
  ·exact⟨rfl,fun h=>by rcases h with h|h;exact c h;exact c1 h.1,rfl⟩
 rintro σ' H4 ⟨rfl,nn,rfl⟩;obtain⟨pc,pg,pk,pa⟩:=po nn;clear po pl pn;have w2:-1≤ak:=by
  by_cases c:ak=-2
  ·exact absurd (.inl c) nn
  ·omega
 rcases ho with⟨hx,rfl,rfl⟩|⟨t,rfl,rfl,rfl⟩|⟨n,rfl,_⟩|⟨n,hx,rfl,n0,n1,rfl⟩
 ·rcases MA z hx with c|hk
  ·exact absurd c xo
  obtain⟨_,_,_,e3,e4,e5,_,_⟩:=wU z hk;ke_read;rintro p5 H5 ⟨f5,a5,s5,-⟩;refine rn (ts:=["come","go"]) a5 ?_;rw[decide_eq_false (fun h=>by
   simp only[bu,gA,or_false]at h;rcases h with h|h
   ·exact e3 h
   ·exact e4 h)]
  ke_read;rintro r H6 ⟨f6,a6,s6,-⟩;ke_read;have s05:=s03.trans s5;exact pa hk r H6 (s05.trans s6) (s05.free f6) a6
 ·have e6:gD (("check" : Str)++(" " : Str)++t) (some 6) none=t:=by
   have:=Zv (y:=("check" : Str)++(" " : Str)) (t:=t);rw[show((("check" : Str)++(" " : Str)).length:Int)=6 by k_go]at this;exact this
  obtain⟨q,q'⟩:=pk t rfl rfl;have tl:t.length≤900:=by
   rw[cO,cO]at lz;omega
  ke_read;refine⟨_,rfl,cz (by omega),?_⟩;rw[e6];ke_read;exact⟨t,rfl,⟨(oQ hz.1).2,tl⟩,fun rs hk r H' s f a=>q rs hk r H' (s03.trans s) (s03.free f) a,fun hn r H' s f a=>q' hn r H' (s03.trans s) (s03.free f) a⟩
 ·exact absurd rfl xl
 ·obtain⟨er,_⟩:=hr n rfl;subst er;replace nW:H4 p2=some (.lst [.str x,.str (aJ n)]):=nW;have xc:¬x="check":=fun h=>by
   rw[h]at hx;exact absurd hx (by k_go)
  ke_read;rintro p5 H5 ⟨f5,a5,s5,-⟩;refine rn (ts:=["come","go"]) a5 ?_;rw[decide_eq_true (show x∈(["come","go"]:List Str)by rcases hx with rfl|rfl;exact .head _;exact .tail _ (.head _))];have s05:=s03.trans s5;ke_read;refine⟨p2,st,lh,x,n,ak,hs,rfl,s5 _ _ nW,n0,n1,s5 _ _ st3,s5 _ _ lh3,len,w1,?_⟩;rcases hx with rfl|rfl
  ·exact .inl ⟨rfl,fun no r H' f hl' k a=>(pc n rfl rfl).1 no r H' (s05.free f) hl' (fun b o hb e=>k b o hb (s05 _ _ e)) a,fun yes r H' s f a=>(pc n rfl rfl).2 yes r H' (s05.trans s) (s05.free f) a⟩
  ·exact .inr ⟨rfl,fun hm r H' f hl' k a=>(pg n rfl rfl).1 hm r H' (s05.free f) hl' (fun b o hb e=>k b o hb (s05 _ _ e)) a,fun nm r H' s f a=>(pg n rfl rfl).2 nm r H' (s05.trans s) (s05.free f) a⟩
theorem mS{x y:Str}(hx:b8 x=true)(hy:b8 y=true):∀t∈[x,y],b8 t=true:=fun t ht=>by
 rcases bu.mp ht with rfl|ht
 ·exact hx
 ·rw[dS]at ht;rw[ht];exact hy
def abM(P:aG)(w:av)(CD C CO:Addr)(H:Hp)(d st l lh:Addr)(hs:List Int)(Q:VK):Prop:=∀(l' lh':Addr) (width':Int) (os':Option Sn) (hs':List Int) (H':Hp),DS P w CD C CO H' d st l' lh' width' os' hs'→hs'.length≤hs.length+1→DZ d st l lh H H'→(l'=l∨H l'=none)→(lh'=lh∨H lh'=none)→Q (.bl true) H'
theorem Kp{z x x':Str}{a a':V}(h:eX z x a)(h':eX z x' a'):x'=x∧a'=a:=by
 rcases h with⟨hx,rfl,rfl⟩|⟨t,rfl,rfl,rfl⟩|⟨n,rfl,rfl,n0,n1,rfl⟩|⟨n,hx,rfl,n0,n1,rfl⟩
 ·have hb:=DV z hx;rcases h' with⟨_,h2,h3⟩|⟨t,_,e,_⟩|⟨n,_,e,_⟩|⟨n,_,e,_⟩
  ·exact⟨h2.symm,h3⟩
  all_goals exact absurd (e▸qH _ _) hb
 ·obtain⟨e,h⟩:=mP CQ h';rcases h with⟨_,h⟩|⟨c,_⟩|⟨c,_⟩
  ·exact⟨e,h⟩
  ·exact absurd c (by k_go)
  ·exact absurd c (by k_go)
 ·obtain⟨e,h⟩:=mP BF h';rcases h with⟨c,_⟩|⟨_,m,em,m0,m1,h⟩|⟨c,_⟩
  ·exact absurd c (by k_go)
  ·rw[rq n0 (by omega) m0 (by omega) em];exact⟨e,h⟩
  ·exact absurd c (by k_go)
 ·obtain⟨e,h⟩:=mP (by rcases hx with rfl|rfl;exact Da;exact A0) h';rcases h with⟨c,_⟩|⟨c,_⟩|⟨_,m,em,m0,m1,h⟩
  ·rw[c]at hx;exact absurd hx (by k_go)
  ·rw[c]at hx;exact absurd hx (by k_go)
  ·rw[rq n0 n1 m0 m1 em];exact⟨e,h⟩
theorem gi.keep{H H':Hp}{v:V}(h:gi H v)(s:ah H H'):gi H' v:=by
 rcases h with h|h|h|⟨a,e,⟨xs,h⟩|⟨xs,h⟩|h⟩
 ·exact .inl h
 ·exact .inr (.inl h)
 ·exact .inr (.inr (.inl h))
 ·exact .inr (.inr (.inr ⟨a,e,.inl ⟨xs,s _ _ h⟩⟩))
 ·exact .inr (.inr (.inr ⟨a,e,.inr (.inl ⟨xs,s _ _ h⟩)⟩))
 ·exact .inr (.inr (.inr ⟨a,e,.inr (.inr (s _ _ h))⟩))
theorem Ll{ak:Int}{os:Option Sn}{x:Str}(wd:wH ak os):yw ak x↔¬iQ os x:=by
 rcases wd with⟨rfl,rfl⟩|⟨rfl,rfl⟩|⟨w0,w1,rfl⟩
 ·exact⟨fun _ ⟨s,e,_⟩=>(nomatch e),fun _=>.inl rfl⟩
 ·refine⟨fun h=>?_,fun h=>?_⟩
  ·rcases h with h|⟨_,h⟩
   ·exact absurd h (by decide)
   ·rintro⟨s,e,hw⟩;obtain⟨low,w,z⟩:=hw h;injection e with e;rw[z]at e;cases e
  ·by_cases c:x∈kz
   ·exact .inr ⟨rfl,c⟩
   ·exact absurd ⟨_,rfl,fun z=>absurd z c⟩ h
 ·refine⟨fun h=>?_,fun h=>absurd ⟨_,rfl,fun _=>⟨0,ak,rfl⟩⟩ h⟩;rcases h with h|⟨h,_⟩<;>omega
def acC(CD C CO:Addr)(H:Hp)(d:Addr)(v:V)(k:Str):Prop:=∀(H':Hp) (Q':VK),ah H H'→e9 H' Q' k→ub CD C CO [.ref d,v] H' Q' E0
def U1(CD C CO:Addr)(H:Hp)(d:Addr)(v:V):Prop:=∀(H':Hp) (Q':VK),ah H H'→(∀(y:Str) (r:Addr) (H'':Hp),ah H' H''→H' r=none→H'' r=some (.lst [.str "told",.str y])→Q' (.ref r) H'')→ub CD C CO [.ref d,v] H' Q' E0
theorem Rm{s:Sn}{ak n:Int}{hs:List Int}(wd:wH ak (some s))(nd:hs.Nodup)(inn:∀h∈hs,am s h=true)(n0:0≤n):iw s (hs++[n])↔¬(n∈hs∨(0≤ak∧pw ak≤n)):=by
 have hh:am s n=true↔¬(0≤ak∧pw ak≤n):=by
  rcases wd with⟨_,e⟩|⟨rfl,e⟩|⟨w0,w1,e⟩
  ·cases e
  ·injection e with e;subst e;exact⟨fun _ h=>absurd h.1 (by decide),fun _=>decide_eq_true n0⟩
  ·injection e with e;subst e;refine⟨fun h hc=>?_,fun h=>decide_eq_true (by omega)⟩;have:=of_decide_eq_true h;omega
 unfold iw;rw[OO];refine⟨fun h hc=>?_,fun h=>⟨fun m hm=>?_,nd,by simp,fun x hx y hy=>?_⟩⟩
 ·rcases hc with hc|hc
  ·exact h.2.2.2 n hc n (dS.mpr rfl) rfl
  ·exact hh.mp (h.1 n (bZ _ (dS.mpr rfl))) hc
 ·rcases jQ.mp hm with hm|hm
  ·exact inn m hm
  ·rw[dS.mp hm];exact hh.mpr fun z=>h (.inr z)
 ·rw[dS]at hy;subst hy;exact fun z=>h (.inl (z▸hx))
theorem ky{CD C CO:Addr}{H:Hp}{d l:Addr}{os:Option Sn}{hs:List Int}{z x:Str}{a:V}{Q:VK}(hD:dG CD C CO H d l os hs)(hl:hs.length≤120)(hz:cj z 220)(ho:eX z x a)
  (p1:∀s,oF x a s→∀(l' r:Addr) (H':Hp),H l'=none→H r=none→l'≠r→dY CD C CO H' d l' s []→(∀b o,b≠d→H b=some o→H' b=some o)→H' r=some (.lst [.str "told",.str z])→Q (.ref r) H')
  (p2:¬x="open"→¬x="line"→¬iQ os x→e9 H Q "line")
  (p3:∀s,os=some s→iQ os x→∀n:Int,x="come"→a=.int n→(hs.length<120∧iw s (hs++[n])→∀(l' r:Addr) (H':Hp),H l'=none→H r=none→l'≠r→dY CD C CO H' d l' s (hs++[n])→(∀b o,b≠d→H b=some o→H' b=some o)→H' r=some (.lst [.str "told",.str (aJ ((hs.length:Int)+1))])→Q (.ref r) H')∧(¬(hs.length<120∧iw s (hs++[n]))→e9 H Q "hands"))
  (p4:∀s,os=some s→iQ os x→∀n:Int,x="go"→a=.int n→(n∈hs→∀(r:Addr) (H':Hp),H r=none→dY CD C CO H' d l s (hs.erase n)→(∀b o,b≠l→H b=some o→H' b=some o)→H' r=some (.lst [.str "told",.str (aJ ((hs.length:Int)-1))])→Q (.ref r) H')∧(¬n∈hs→e9 H Q "hand"))
  (p5:∀s,os=some s→iQ os x→∀t:Str,x="check"→a=.str t→(∀rs,gk t rs→∀(y:Str) (r:Addr) (H':Hp),ah H H'→H r=none→H' r=some (.lst [.str "told",.str y])→Q (.ref r) H')∧((¬∃rs,gk t rs)→e9 H Q "text"))
  (p6:∀s,os=some s→iQ os x→x∈kg→∃n,qk n s hs∧(∀low w,s=.half low w→low=0∧w≤200)∧∀(y:Str) (r:Addr) (H':Hp),ah H H'→H r=none→H' r=some (.lst [.str "told",.str y])→Q (.ref r) H'):ub CD C CO [.ref d,.str z] H Q E0:=by
 refine⟨d,_,l,os,hs,rfl,hD,hl,.inr ⟨z,rfl,hz.mono (by decide),fun n=>absurd ⟨x,a,ho⟩ n,fun x' a' ho'=>?_⟩⟩;obtain⟨rfl,rfl⟩:=Kp ho ho';exact⟨p1,p2,fun s e lo=>⟨p3 s e lo,p4 s e lo,p5 s e lo,p6 s e lo⟩⟩
theorem Zt{CD C CO:Addr}{H:Hp}{d st l lh:Addr}{ak:Int}{os:Option Sn}{hs:List Int}{v:V}{Qd:VK}(h:DS P w CD C CO H d st l lh ak os hs)(hl:hs.length≤60)(hv:gi H v∨∃z:Str,v=.str z∧cj z 220)
  (hR:∀k:Str,b8 k=true→acC CD C CO H d v k→e9 H Qd k)
  (hT:U1 CD C CO H d v→∀(r:Addr) (H':Hp),ah H H'→H r=none→H' r=some (.lst [.str "text",.str ""])→Qd (.ref r) H')
  (hM:∀(y:Str) (r:Addr) (H1:Hp),b8 y=true→H1 r=some (.lst [.str "told",.str y])→(∀Q':VK,(∀(r2:Addr) (H2:Hp) (l' lh':Addr) (width':Int) (os':Option Sn) (hs':List Int),DS P w CD C CO H2 d st l' lh' width' os' hs'→hs'.length≤hs.length+1→DZ d st l lh H H2→(l'=l∨H l'=none)→(lh'=lh∨H lh'=none)→H2 r=some (.lst [.str "told",.str y])→H2 r2=some (.lst [.str "told",.str y])→Q' (.ref r2) H2)→ub CD C CO [.ref d,v] H1 Q' E0)→Qd (.ref r) H1) :
  Kl P w [v,.ref st] H Qd E0:=by
 have wr:-2≤ak∧ak≤200:=by
  rcases h.wd with⟨e,_⟩|⟨e,_⟩|⟨a,b,_⟩<;>omega
 obtain⟨dx,v0,hd⟩:=h.dk.ob;have hli:=h.dk.li;have nds:d≠st:=fun z=>by have:=h.sta;rw[←z,hd]at this;cases this
 have nls:l≠st:=fun z=>by have:=h.sta;rw[←z,hli]at this;cases this
 have ndh:d≠lh:=fun z=>by have:=h.lst;rw[←z,hd]at this;cases this
 have nsh:st≠lh:=fun z=>by have:=h.lst;rw[←z,h.sta]at this;cases this
 have ndl:d≠l:=fun z=>by rw[←z,hd]at hli;cases hli
 refine⟨v,st,lh,ak,hs,rfl,h.sta,h.lst,by omega,wr.1,wr.2,?_⟩;rcases hv with nv|⟨z,rfl,hz⟩
 ·exact .inl ⟨nv,hR "order" (by k_go) fun H' Q' s q=>⟨d,v,l,os,hs,rfl,h.dk.keep s,by omega,.inl ⟨nv.keep s,q⟩⟩⟩
 refine .inr ⟨z,rfl,hz,fun no=>hR "order" (by k_go) fun H' Q' s q=>⟨d,_,l,os,hs,rfl,h.dk.keep s,by omega,.inr ⟨z,rfl,hz.mono (by decide),fun _=>q,fun x a ho=>absurd ⟨x,a,ho⟩ no⟩⟩,fun x a ho=>⟨?_,?_,?_⟩⟩
 ·intro n hn lh' r H1 f1 fr ne st1 a1 k1 ar;have hx:x="open"∨x="line":=by
   rcases hn with⟨c,_⟩|⟨c,_⟩
   ·exact .inl c
   ·exact .inr c
  refine hM z r H1 (LL hz.1) ar fun Q' q'=>?_;have hD1:dG CD C CO H1 d l os hs:=dG.but h.dk nds nls (.inl (fun _ _ _ e=>by rw[h.sta]at e;cases e)) k1;have hd1:=k1 _ _ nds hd;refine ky hD1 (by omega) hz ho (fun s hs' l' r2 H2 f2 fr2 ne2 D2 k2 ar2=>?_) (fun no nl=>?_) (fun s e lo m ex=>?_) (fun s e lo m ex=>?_) (fun s e lo t ex=>?_) (fun s e lo hk=>?_)
  ·have wd':wH n (some s):=by
    rcases hn with⟨c,rfl⟩|⟨c,ea,n0,n1⟩
    ·rcases hs' with⟨_,rfl⟩|⟨c',_⟩
     ·exact .inr (.inl ⟨rfl,rfl⟩)
     ·rw[c]at c';exact absurd c' (by k_go)
    ·rcases hs' with⟨c',_⟩|⟨_,m,em,m0,m1,rfl⟩
     ·rw[c]at c';exact absurd c' (by k_go)
     ·rw[ea]at em;injection em with em;subst em;exact .inr (.inr ⟨n0,n1,rfl⟩)
   refine q' r2 H2 l' lh' n (some s) [] ⟨D2,k2 _ _ nds.symm st1,k2 _ _ (fun e=>by rw[e,hd1]at a1;cases a1) a1,wd',(fun e=>nomatch e),pO,(fun _ _ _ e=>nomatch e),(fun _ e=>nomatch e),(db a1 f2).symm⟩ (fe _) (fun b o b1 b2 _ _ e=>k2 b o b1 (k1 b o b2 e)) (.inr (iK k1 st1 f2)) (.inr f1) (k2 _ _ (fun e=>by rw[e,hd1]at ar;cases ar) ar) ar2
  ·rcases hx with c|c
   ·exact absurd c no
   ·exact absurd c nl
  ·rcases hx with c|c<;>rw[c]at ex<;>exact absurd ex (by k_go)
  ·rcases hx with c|c<;>rw[c]at ex<;>exact absurd ex (by k_go)
  ·rcases hx with c|c<;>rw[c]at ex<;>exact absurd ex (by k_go)
  ·obtain⟨_,e1,e2,_⟩:=wU x hk;rcases hx with c|c
   ·exact absurd c e2
   ·exact absurd c e1
 ·intro no nl nn;refine hR "line" (by k_go) fun H' Q' s q=>?_;have nk:=(Ll h.wd).mp nn;refine ky (h.dk.keep s) (by omega) hz ho (fun s' hs'=>?_) (fun _ _ _=>q) (fun s' e lo=>absurd lo nk) (fun s' e lo=>absurd lo nk) (fun s' e lo=>absurd lo nk) (fun s' e lo=>absurd lo nk);rcases hs' with⟨c,_⟩|⟨c,_⟩
  ·exact absurd c no
  ·exact absurd c nl
 ·intro nn;have lo:iQ os x:=Classical.byContradiction fun c=>nn ((Ll h.wd).mpr c);obtain⟨s,rfl,_⟩:=id lo;have wd:=h.wd;have inn:=h.inn s rfl;refine⟨fun n ex ea=>?_,fun n ex ea=>?_,fun t ex ea=>?_,fun hk=>?_⟩
  ·subst ex;subst ea;obtain⟨_,_,hr⟩:=IQ ho;obtain⟨_,n0,n1⟩:=hr n rfl;have on:=Rm (n:=n) wd h.nd inn n0;have p1:∀{Q:VK} {H':Hp} s',oF "come" (.int n) s'→∀(l' r:Addr) (H'':Hp),H' l'=none→H' r=none→l'≠r→dY CD C CO H'' d l' s' []→(∀b o,b≠d→H' b=some o→H'' b=some o)→H'' r=some (.lst [.str "told",.str z])→Q (.ref r) H'':=fun s' e=>by
    rcases e with⟨c,_⟩|⟨c,_⟩<;>exact absurd c (by k_go)
   refine⟨fun okc r H1 fr a1 k1 ar=>hM _ r H1 (lK _) ar fun Q' q'=>?_,fun bad=>hR "hands" (by k_go) fun H' Q' s' q=>?_⟩
   ·have hD1:dG CD C CO H1 d l (some s) hs:=dG.but h.dk ndh h.ne (.inl (fun _ _ _ e=>by rw[h.lst]at e;cases e)) k1;have hd1:=k1 _ _ ndh hd;refine ky hD1 (by omega) hz ho p1 (fun _ _ c=>absurd lo c) (fun s2 e2 _ m _ em=>?_) (fun _ _ _ m ex=>absurd ex (by k_go)) (fun _ _ _ t ex=>absurd ex (by k_go)) (fun _ _ _ hk=>absurd hk (by k_go));injection e2 with e2;subst e2;injection em with em;subst em;have onk:=on.mpr okc;refine⟨fun _ l' r2 H2 f2 fr2 ne2 D2 k2 ar2=>?_,fun c=>absurd ⟨by omega,onk⟩ c⟩;refine q' r2 H2 l' lh ak (some s) (hs++[n]) ⟨D2,k2 _ _ nds.symm (k1 _ _ nsh h.sta),k2 _ _ ndh.symm a1,wd,(fun e=>nomatch e),onk.2,(fun s3 e3=>by injection e3 with e3;subst e3;exact onk.1),(fun m hm=>?_),(db a1 f2).symm⟩ (by rw[dm];exact bv _) (fun b o b1 b2 b3 b4 e=>k2 b o b1 (k1 b o b4 e)) (.inr (iK k1 a1 f2)) (.inl rfl) (k2 _ _ (fun e=>by rw[e,hd1]at ar;cases ar) ar) ar2;rcases jQ.mp hm with hm|hm
    ·exact h.hb m hm
    ·rw[dS.mp hm];exact⟨n0,n1⟩
   ·refine ky (h.dk.keep s') (by omega) hz ho p1 (fun _ _ c=>absurd lo c) (fun s2 e2 _ m _ em=>?_) (fun _ _ _ m ex=>absurd ex (by k_go)) (fun _ _ _ t ex=>absurd ex (by k_go)) (fun _ _ _ hk=>absurd hk (by k_go));injection e2 with e2;subst e2;injection em with em;subst em;exact⟨fun c=>absurd bad (on.mp c.2),fun _=>q⟩
  ·subst ex;subst ea;have p1:∀{Q:VK} {H':Hp} s',oF "go" (.int n) s'→∀(l' r:Addr) (H'':Hp),H' l'=none→H' r=none→l'≠r→dY CD C CO H'' d l' s' []→(∀b o,b≠d→H' b=some o→H'' b=some o)→H'' r=some (.lst [.str "told",.str z])→Q (.ref r) H'':=fun s' e=>by
    rcases e with⟨c,_⟩|⟨c,_⟩<;>exact absurd c (by k_go)
   refine⟨fun hm r H1 fr a1 k1 ar=>hM _ r H1 (lK _) ar fun Q' q'=>?_,fun bad=>hR "hand" (by k_go) fun H' Q' s' q=>?_⟩
   ·have hD1:dG CD C CO H1 d l (some s) hs:=dG.but h.dk ndh h.ne (.inl (fun _ _ _ e=>by rw[h.lst]at e;cases e)) k1;have hl1:=k1 _ _ h.ne hli;have nrl:r≠l:=fun e=>by rw[e,hli]at fr;cases fr
    refine ky hD1 (by omega) hz ho p1 (fun _ _ c=>absurd lo c) (fun _ _ _ m ex=>absurd ex (by k_go)) (fun s2 e2 _ m _ em=>?_) (fun _ _ _ t ex=>absurd ex (by k_go)) (fun _ _ _ hk=>absurd hk (by k_go));injection e2 with e2;subst e2;injection em with em;subst em;refine⟨fun _ r2 H2 fr2 D2 k2 ar2=>?_,fun c=>absurd hm c⟩;exact q' r2 H2 l lh ak (some s) (hs.erase n) ⟨D2,k2 _ _ nls.symm (k1 _ _ nsh h.sta),k2 _ _ h.ne.symm a1,wd,(fun e=>nomatch e),h.nd.erase n,(fun s3 e3 m hm=>by injection e3 with e3;subst e3;exact inn m (ON hm)),(fun m hm=>h.hb m (ON hm)),h.ne⟩ (cB (List.length_erase_le) (pR _)) (fun b o b1 b2 b3 b4 e=>k2 b o b3 (k1 b o b4 e)) (.inl rfl) (.inl rfl) (k2 _ _ nrl ar) ar2
   ·refine ky (h.dk.keep s') (by omega) hz ho p1 (fun _ _ c=>absurd lo c) (fun _ _ _ m ex=>absurd ex (by k_go)) (fun s2 e2 _ m _ em=>?_) (fun _ _ _ t ex=>absurd ex (by k_go)) (fun _ _ _ hk=>absurd hk (by k_go));injection em with em;subst em;exact⟨fun c=>absurd c bad,fun _=>q⟩
  ·subst ex;subst ea;have p1:∀{Q:VK} {H':Hp} s',oF "check" (.str t) s'→∀(l' r:Addr) (H'':Hp),H' l'=none→H' r=none→l'≠r→dY CD C CO H'' d l' s' []→(∀b o,b≠d→H' b=some o→H'' b=some o)→H'' r=some (.lst [.str "told",.str z])→Q (.ref r) H'':=fun s' e=>by
    rcases e with⟨c,_⟩|⟨c,_⟩<;>exact absurd c (by k_go)
   refine⟨fun rs hk=>hT fun H' Q' s' q=>?_,fun hn=>hR "text" (by k_go) fun H' Q' s' q=>?_⟩
   ·refine ky (h.dk.keep s') (by omega) hz ho p1 (fun _ _ c=>absurd lo c) (fun _ _ _ m ex=>absurd ex (by k_go)) (fun _ _ _ m ex=>absurd ex (by k_go)) (fun _ _ _ t' _ et=>?_) (fun _ _ _ hk=>absurd hk (by k_go));injection et with et;subst et;exact⟨fun _ _ y r H'' s'' f a=>q y r H'' s'' f a,fun c=>absurd ⟨rs,hk⟩ c⟩
   ·refine ky (h.dk.keep s') (by omega) hz ho p1 (fun _ _ c=>absurd lo c) (fun _ _ _ m ex=>absurd ex (by k_go)) (fun _ _ _ m ex=>absurd ex (by k_go)) (fun _ _ _ t' _ et=>?_) (fun _ _ _ hk=>absurd hk (by k_go));injection et with et;subst et;exact⟨fun rs hk=>absurd ⟨rs,hk⟩ hn,fun _=>q⟩
  ·obtain⟨_,e1,e2,e3,e4,e5,_⟩:=wU x hk;refine hT fun H' Q' s' q=>?_;refine ky (h.dk.keep s') (by omega) hz ho (fun s2 e=>?_) (fun _ _ c=>absurd lo c) (fun _ _ _ m ex=>absurd ex e3) (fun _ _ _ m ex=>absurd ex e4) (fun _ _ _ t ex=>absurd ex e5) (fun s2 es _ _=>?_)
   ·rcases e with⟨c,_⟩|⟨c,_⟩
    ·exact absurd c e2
    ·exact absurd c e1
   ·injection es with es;subst es;obtain⟨tw,hh⟩:=h.tw hl;exact⟨403,tw,hh,q⟩
def Ij(P:aG)(w:av)(CD C CO:Addr):Sp:=fun vs H Q _=>∃(d st l lh:Addr) (ak:Int) (os:Option Sn) (hs:List Int) (v:V),vs=[.ref d,v,.ref st]∧DS P w CD C CO H d st l lh ak os hs∧hs.length≤60∧(gi H v∨∃z:Str,v=.str z∧cj z 220)∧abM P w CD C CO H d st l lh hs Q
theorem abU(T:Tx w K mg):aM P w K mg base ba 12 T.f_l_right T.d_l_right ["desk","order","state"] (Ij P w T.C_Desk T.C_Half T.C_Open):=by
 refine T.yA.F.ok AS ?_ ?_;kj_on
 ·obtain⟨d,st,l,lh,ak,os,hs,v,rfl,_⟩:=h;rfl
 obtain⟨d,st,l,lh,ak,os,hs,v,rfl,h,hl,hv,q⟩:=h;have n1:¬("refused" : Str)="text":=by k_go
 have n2:¬("refused" : Str)="told":=by k_go
 have n3:¬("told" : Str)="text":=by k_go
 have same:∀{H':Hp},ah H H'→Q (.bl true) H':=fun s=>q l lh ak os hs _ (h.keep s) (pR _) (fun b o _ _ _ _ e=>s _ _ e) (.inl rfl) (.inl rfl);refine⟨_,(ao (aW (i:=3) AS.nd rfl (by z_go) (aX (ZS T) (hr.mono (by decide)) rfl T.xY.m T.xY.F.kp T.xY.b .nil aT (ae (pv 1) (ae (pv 2) af))))
  (ao (aW (i:=4) AS.nd rfl (by z_go) (aX (Dr T) (hr.mono (by decide)) rfl T.kr.m T.kr.F.kp T.kr.b .nil aT (ae (pv 0) (ae (pv 1) af))))
  (ao (aQ (aO br (aI (ck (K:=K) rfl) (pv 3) aj (fun _ _=>rfl)) ai (aD _)) (ap (az (eg br (aI (ck (K:=K) rfl) (pv 4) aj (fun _ _=>rfl)) ai (aD _)))) aS)
  (ao (aQ (aO (M7 (K:=K) rfl hr.units) (pv 4) (pv 3) (aD _)) (ap (az gh)) aS)
  (ap (az (KZ (eg br (aI (ck (K:=K) rfl) (pv 3) aj (fun _ _=>rfl)) ai (aD _)) (oE (eg (pG (K:=K) rfl hr.units) (aX (Dr T) (hr.mono (by decide)) rfl T.kr.m T.kr.F.kp T.kr.b .nil aT (ae (pv 0) (ae (pv 1) af))) (pv 3) (aD _)))))))))),?_⟩
 got_up;refine Zt (d:=d) (l:=l) h hl hv (fun k ko tell r1 H1 s1 f1 a1=>?_) (fun tell r1 H1 s1 f1 a1=>?_) (fun y r1 H1 yo a1 tell=>?_)
 ·ke_read;refine tell H1 _ s1 (fun r2 H2 s2 f2 a2=>?_);have a12:=s2 _ _ a1;ke_read;refine JR (ts:=["refused",k]) (us:=["refused",k]) (ay.of a2) (ay.of a12) (mS (by k_go) ko) (mS (by k_go) ko) ?_;ke_read;refine tell H2 _ (s1.trans s2) (fun r3 H3 s3 f3 a3=>?_);have a13:=s3 _ _ a12;ke_read;refine Hl (ts:=["refused",k]) (us:=["refused",k]) (ay.of a3) (ay.of a13) (mS (by k_go) ko) (mS (by k_go) ko) ?_;rw[decide_eq_true rfl];exact same (s1.trans (s2.trans s3))
 ·ke_read;refine tell H1 _ s1 (fun y r2 H2 s2 f2 a2=>?_);have a12:=s2 _ _ a1;ke_read;exact same (s1.trans s2)
 ·ke_read;refine tell _ (fun r2 H2 l' lh' width' os' hs' ds hl' fr fl flh a12 a2=>?_);ke_read;refine JR (ts:=["told",y]) (us:=["told",y]) (ay.of a2) (ay.of a12) (mS (by k_go) yo) (mS (by k_go) yo) ?_;ke_read;exact q l' lh' width' os' hs' H2 ds hl' fr fl flh
def df(D T L M:Nat→Addr)(i:Nat)(b:Addr):Prop:=b=D i∨b=T i∨b=L i∨b=M i
def cI(P:aG)(w:av)(CD C CO:Addr)(G H:Hp)(N:Nat→Nat)(zz:Bool)(ld ls:Addr)(D T:Nat→Addr):Prop:=∃(L M:Nat→Addr) (W:Nat→Int) (O:Nat→Option Sn) (S:Nat→List Int),
 (∀i,i<3→DS P w CD C CO H (D i) (T i) (L i) (M i) (W i) (O i) (S i))∧(∀i,i<3→(S i).length≤N i)∧(∀i j b,i<3→j<3→i≠j→df D T L M i b→¬df D T L M j b)∧ah G H∧(∀i b,i<3→df D T L M i b→G b=none∧b≠ld∧b≠ls)∧
 H ld=some (.lst [.ref (D 0),.ref (D 1),.ref (D 2)])∧H ls=some (.lst [.ref (T 0),.ref (T 1),.ref (T 2)])∧ld≠ls∧G ld=none∧G ls=none∧(zz=true→O 0=none)
theorem cI.keep{CD C CO:Addr}{G H H':Hp}{N:Nat→Nat}{zz:Bool}{ld ls:Addr}{D T:Nat→Addr}(h:cI P w CD C CO G H N zz ld ls D T)(k:ah H H'):cI P w CD C CO G H' N zz ld ls D T:=by
 obtain⟨L,M,W,O,S,a,b,c,sm,e,f,g,r⟩:=h;exact⟨L,M,W,O,S,fun i hi=>(a i hi).keep k,b,c,sm.trans k,e,k _ _ f,k _ _ g,r⟩
theorem cI.mono{CD C CO:Addr}{G H:Hp}{N N':Nat→Nat}{zz:Bool}{ld ls:Addr}{D T:Nat→Addr}(h:cI P w CD C CO G H N zz ld ls D T)(k:∀i,i<3→N i≤N' i):cI P w CD C CO G H N' zz ld ls D T:=by
 obtain⟨L,M,W,O,S,a,b,r⟩:=h;exact⟨L,M,W,O,S,a,fun i hi=>cB (b i hi) (k i hi),r⟩
theorem cI.ord{CD C CO:Addr}{G H0 H:Hp}{N:Nat→Nat}{zz:Bool}{ld ls:Addr}{D T:Nat→Addr}{v:V}(h0:cI P w CD C CO G H0 N zz ld ls D T)(s:ah H0 H)(hv:(gi H v∧∀a,v=.ref a→H0 a=none)∨∃z:Str,v=.str z∧cj z 220):
  ∃G',ah G G'∧cI P w CD C CO G' H N zz ld ls D T∧(gi G' v∨∃z:Str,v=.str z∧cj z 220):=by
 rcases hv with⟨nv,fv⟩|hz
 ·obtain⟨L,M,W,O,S,a,b,c,sm,e,f,g,nls,gd,gs,t⟩:=h0;have nb:∀{b:Addr} {o:HO},H0 b=some o→v≠.ref b:=fun hb z=>by rw[fv _ z]at hb;cases hb
  have sg:ah G (fun b=>if v=.ref b then H b else G b):=fun b o hb=>by
   show(if v=.ref b then H b else G b)=some o;rw[if_neg (nb (sm _ _ hb))];exact hb
  refine⟨fun b=>if v=.ref b then H b else G b,sg,⟨L,M,W,O,S,fun i hi=>(a i hi).keep s,b,c,fun b o hb=>?_,fun i b hi hb=>⟨?_,(e i b hi hb).2⟩,s _ _ f,s _ _ g,nls,?_,?_,t⟩,.inl ?_⟩
  ·by_cases z:v=.ref b
   ·have hb':(if v=.ref b then H b else G b)=some o:=hb;rw[if_pos z]at hb';exact hb'
   ·have hb':(if v=.ref b then H b else G b)=some o:=hb;rw[if_neg z]at hb';exact s _ _ (sm _ _ hb')
  ·have hh:∃o,H0 b=some o:=by
    rcases hb with rfl|rfl|rfl|rfl
    ·obtain⟨_,_,z⟩:=(a i hi).dk.ob;exact⟨_,z⟩
    ·exact⟨_,(a i hi).sta⟩
    ·exact⟨_,(a i hi).dk.li⟩
    ·exact⟨_,(a i hi).lst⟩
   obtain⟨o,hh⟩:=hh;show(if v=.ref b then H b else G b)=none;rw[if_neg (nb hh)];exact(e i b hi hb).1
  ·show(if v=.ref ld then H ld else G ld)=none;rw[if_neg (nb f)];exact gd
  ·show(if v=.ref ls then H ls else G ls)=none;rw[if_neg (nb g)];exact gs
  ·have at':∀{a:Addr},v=.ref a→(fun b=>if v=.ref b then H b else G b) a=H a:=fun{a} z=>if_pos z;rcases nv with h|h|h|⟨a,z,⟨xs,h⟩|⟨xs,h⟩|h⟩
   ·exact .inl h
   ·exact .inr (.inl h)
   ·exact .inr (.inr (.inl h))
   ·exact .inr (.inr (.inr ⟨a,z,.inl ⟨xs,(at' z).trans h⟩⟩))
   ·exact .inr (.inr (.inr ⟨a,z,.inr (.inl ⟨xs,(at' z).trans h⟩)⟩))
   ·exact .inr (.inr (.inr ⟨a,z,.inr (.inr ((at' z).trans h))⟩))
 ·exact⟨G,fun _ _ e=>e,h0.keep s,.inr hz⟩
theorem cI.right{CD C CO:Addr}{G H:Hp}{N:Nat→Nat}{zz:Bool}{ld ls:Addr}{D T:Nat→Addr}{Q:VK}{v:V}(h:cI P w CD C CO G H N zz ld ls D T){i:Nat}(hi:i<3)(hN:N i≤59)(hv:gi G v∨∃z:Str,v=.str z∧cj z 220){z2:Bool}(hz2:z2=true→zz=true∧i≠0)(q:∀H',cI P w CD C CO G H' (fun j=>if j=i then N j+1 else N j) z2 ld ls D T→Q (.bl true) H'):
  Ij P w CD C CO [.ref (D i),v,.ref (T i)] H Q E0:=by
 obtain⟨L,M,W,O,S,a,b,c,sm,e,f,g,nls,gd,gs,t⟩:=h;have hv':gi H v∨∃z:Str,v=.str z∧cj z 220:=by
  rcases hv with hv|hv
  ·exact .inl (hv.keep sm)
  ·exact .inr hv
 refine⟨D i,T i,L i,M i,W i,O i,S i,v,rfl,a i hi,by have:=b i hi;omega,hv',fun l' lh' W' os' hs' H' D0' hl' fr fl' flh'=>q H' ?_⟩;have out:∀{x:Addr} {o:HO},H x=some o→¬df D T L M i x→H' x=some o:=fun hx nf=>fr _ _ (fun z=>nf (.inl z)) (fun z=>nf (.inr (.inl z))) (fun z=>nf (.inr (.inr (.inl z)))) (fun z=>nf (.inr (.inr (.inr z)))) hx;have nld:¬df D T L M i ld:=fun z=>(e i ld hi z).2.1 rfl;have nls':¬df D T L M i ls:=fun z=>(e i ls hi z).2.2 rfl;have ng:∀{x:Addr} {o:HO},G x=some o→¬df D T L M i x:=fun hx z=>by rw[(e i _ hi z).1]at hx;cases hx
 have inH:∀{j:Nat} {x:Addr},j<3→df D T L M j x→∃o,H x=some o:=fun{j x} hj hb=>by
  rcases hb with rfl|rfl|rfl|rfl
  ·obtain⟨_,_,z⟩:=(a j hj).dk.ob;exact⟨_,z⟩
  ·exact⟨_,(a j hj).sta⟩
  ·exact⟨_,(a j hj).dk.li⟩
  ·exact⟨_,(a j hj).lst⟩
 have fpi:∀x,df D T (fun j=>if j=i then l' else L j) (fun j=>if j=i then lh' else M j) i x→df D T L M i x∨H x=none:=fun x hx=>by
  simp only[df,if_true]at hx;rcases hx with hx|hx|hx|hx
  ·exact .inl (.inl hx)
  ·exact .inl (.inr (.inl hx))
  ·rcases fl' with z|z
   ·exact .inl (.inr (.inr (.inl (hx.trans z))))
   ·exact .inr (hx▸z)
  ·rcases flh' with z|z
   ·exact .inl (.inr (.inr (.inr (hx.trans z))))
   ·exact .inr (hx▸z)
 have fpo:∀{j:Nat} {x:Addr},j≠i→(df D T (fun j=>if j=i then l' else L j) (fun j=>if j=i then lh' else M j) j x↔df D T L M j x):=fun{j x} hj=>by
  simp only[df,if_neg hj]
 refine⟨fun j=>if j=i then l' else L j,fun j=>if j=i then lh' else M j,fun j=>if j=i then W' else W j,fun j=>if j=i then os' else O j,fun j=>if j=i then hs' else S j,fun j hj=>?_,fun j hj=>?_,fun j k x hj hk ne hx hy=>?_,fun x o hx=>out (sm _ _ hx) (ng hx),fun j x hj hx=>?_,out f nld,out g nls',nls,gd,gs,fun hz=>?_⟩
 ·by_cases z:j=i
  ·subst z;simp only[if_true];exact D0'
  ·simp only[if_neg z];have dj:=a j hj;have nn:∀{x:Addr},df D T L M j x→¬df D T L M i x:=fun hx=>c j i _ hj hi z hx;exact dj.other (a i hi) (fun y=>nn (.inl rfl) (.inl y)) (fun y=>nn (.inr (.inl rfl)) (.inr (.inl y))) (fun y=>nn (.inr (.inr (.inl rfl))) (.inr (.inr (.inl y)))) (fun y=>nn (.inr (.inr (.inl rfl))) (.inr (.inr (.inr y)))) (fun y=>nn (.inr (.inr (.inr rfl))) (.inr (.inr (.inl y)))) (fun y=>nn (.inr (.inr (.inr rfl))) (.inr (.inr (.inr y)))) fr
 ·by_cases z:j=i
  ·subst z;simp only[if_true];have:=b j hj;omega
  ·simp only[if_neg z];have:=b j hj;omega
 ·have clash:∀{j:Nat} {x:Addr},j<3→j≠i→df D T L M j x→df D T (fun j=>if j=i then l' else L j) (fun j=>if j=i then lh' else M j) i x→False:=fun{j x} hj nj hx hy=>by
   rcases fpi x hy with z|z
   ·exact c j i x hj hi nj hx z
   ·obtain⟨o,ho⟩:=inH hj hx;rw[ho]at z;cases z
  by_cases z:j=i
  ·subst z;exact clash hk ne.symm ((fpo ne.symm).mp hy) hx
  ·by_cases z2:k=i
   ·subst z2;exact clash hj z ((fpo z).mp hx) hy
   ·exact c j k x hj hk ne ((fpo z).mp hx) ((fpo z2).mp hy)
 ·by_cases z:j=i
  ·subst z;rcases fpi x hx with y|y
   ·exact e j x hj y
   ·exact⟨sm.free y,fun z=>(by rw[z,f]at y;cases y),fun z=>(by rw[z,g]at y;cases y)⟩
  ·exact e j x hj ((fpo z).mp hx)
 ·obtain⟨hz,i0⟩:=hz2 hz;show(if 0=i then os' else O 0)=none;rw[if_neg (cH i0)];exact t hz
theorem cI.renew{CD C CO:Addr}{G H H':Hp}{N:Nat→Nat}{zz:Bool}{ld ls:Addr}{D T:Nat→Addr}{d t l m:Addr}(h:cI P w CD C CO G H N zz ld ls D T)(fd:H d=none)(ft:H t=none)(fl:H l=none)(fm:H m=none)
  (k:∀b o,b≠ld→b≠ls→H b=some o→H' b=some o) (dn:DS P w CD C CO H' d t l m (-2) none []) (hld:H' ld=some (.lst [.ref d,.ref (D 1),.ref (D 2)])) (hls:H' ls=some (.lst [.ref t,.ref (T 1),.ref (T 2)])) :
  cI P w CD C CO G H' N true ld ls (fun j=>if j=0 then d else D j) (fun j=>if j=0 then t else T j):=by
 obtain⟨L,M,W,O,S,a,b,c,sm,e,f,g,nls,gd,gs,_⟩:=h;have inH:∀{j:Nat} {x:Addr},j<3→df D T L M j x→∃o,H x=some o:=fun{j x} hj hb=>by
  rcases hb with rfl|rfl|rfl|rfl
  ·obtain⟨_,_,z⟩:=(a j hj).dk.ob;exact⟨_,z⟩
  ·exact⟨_,(a j hj).sta⟩
  ·exact⟨_,(a j hj).dk.li⟩
  ·exact⟨_,(a j hj).lst⟩
 have f0:∀{x:Addr},df (fun j=>if j=0 then d else D j) (fun j=>if j=0 then t else T j) (fun j=>if j=0 then l else L j) (fun j=>if j=0 then m else M j) 0 x→H x=none:=fun hx=>by
  simp only[df,if_true]at hx;rcases hx with rfl|rfl|rfl|rfl
  ·exact fd
  ·exact ft
  ·exact fl
  ·exact fm
 have fj:∀{j:Nat} {x:Addr},j≠0→(df (fun j=>if j=0 then d else D j) (fun j=>if j=0 then t else T j) (fun j=>if j=0 then l else L j) (fun j=>if j=0 then m else M j) j x↔df D T L M j x):=fun{j x} hj=>by
  simp only[df,if_neg hj]
 refine⟨fun j=>if j=0 then l else L j,fun j=>if j=0 then m else M j,fun j=>if j=0 then -2 else W j,fun j=>if j=0 then none else O j,fun j=>if j=0 then[]else S j,fun j hj=>?_,fun j hj=>?_,fun j k' x hj hk ne hx hy=>?_,fun x o hx=>?_,fun j x hj hx=>?_,hld,hls,nls,gd,gs,fun _=>rfl⟩
 ·by_cases z:j=0
  ·subst z;exact dn
  ·simp only[if_neg z];have dj:=a j hj;have kk:∀{x:Addr} {o:HO},df D T L M j x→H x=some o→H' x=some o:=fun hx hh=>k _ _ (e j _ hj hx).2.1 (e j _ hj hx).2.2 hh;refine⟨?_,kk (.inr (.inl rfl)) dj.sta,kk (.inr (.inr (.inr rfl))) dj.lst,dj.wd,dj.nil,dj.nd,dj.inn,dj.hb,dj.ne⟩;have hk1:=dG.but (a:=ld) (H':=fun b=>if b=ld then H' ld else H b) dj.dk (e j _ hj (.inl rfl)).2.1 (e j _ hj (.inr (.inr (.inl rfl)))).2.1 (.inl (fun _ _ _ z=>by rw[f]at z;cases z)) (fun b o hb hh=>by show(if b=ld then H' ld else H b)=some o;rw[if_neg hb];exact hh);refine dG.but (a:=ls) hk1 (e j _ hj (.inl rfl)).2.2 (e j _ hj (.inr (.inr (.inl rfl)))).2.2 (.inl (fun _ _ _ z=>?_)) (fun b o hb hh=>?_)
   ·have z':(if ls=ld then H' ld else H ls)=some _:=z;rw[if_neg nls.symm,g]at z';cases z'
   ·have hh':(if b=ld then H' ld else H b)=some o:=hh;by_cases y:b=ld
    ·rw[if_pos y]at hh';rw[y];exact hh'
    ·rw[if_neg y]at hh';exact k _ _ y hb hh'
 ·by_cases z:j=0
  ·subst z;exact fe _
  ·simp only[if_neg z];exact b j hj
 ·by_cases z:j=0
  ·subst z;obtain⟨o,ho⟩:=inH hk ((fj ne.symm).mp hy);rw[f0 hx]at ho;cases ho
  ·by_cases z2:k'=0
   ·subst z2;obtain⟨o,ho⟩:=inH hj ((fj z).mp hx);rw[f0 hy]at ho;cases ho
   ·exact c j k' x hj hk ne ((fj z).mp hx) ((fj z2).mp hy)
 ·exact k _ _ (fun z=>by rw[z,gd]at hx;cases hx) (fun z=>by rw[z,gs]at hx;cases hx) (sm _ _ hx)
 ·by_cases z:j=0
  ·subst z;have y:=f0 hx;exact⟨sm.free y,fun z=>(by rw[z,f]at y;cases y),fun z=>(by rw[z,g]at y;cases y)⟩
  ·exact e j x hj ((fj z).mp hx)
theorem HU{CD C CO CN CL CT CS CH:Addr}{H:Hp}{d l:Addr}{z x:Str}{a:V}{s:Sn}{Q:VK}(hD:dG CD C CO H d l none [])(ho:eX z x a)(hs:oF x a s)(za:(z.cps.all (· < 128))=true)(zl:z.length≤190000)
  (q:∀(l':Addr) (H':Hp),H l'=none→dY CD C CO H' d l' s []→(∀b o,b≠d→H b=some o→H' b=some o)→Q (.str z) H'):LZ CD C CO CN CL CT CS CH [.ref d,.str z] H Q E0:=by
 refine⟨d,_,l,none,[],rfl,hD,by decide,.inr ⟨z,rfl,za,zl,fun no=>absurd ⟨x,a,ho⟩ no,fun x' a' ho'=>?_⟩⟩;obtain⟨rfl,rfl⟩:=Kp ho ho';refine⟨fun s' hs' l' H' f D k=>?_,fun n1 n2=>?_,fun s' e=>nomatch e⟩
 ·have:s'=s:=by
   rcases hs with⟨c,rfl⟩|⟨c,n,e,_,_,rfl⟩
   ·rcases hs' with⟨_,rfl⟩|⟨c',_⟩
    ·rfl
    ·rw[c]at c';exact absurd c' (by k_go)
   ·rcases hs' with⟨c',_⟩|⟨_,m,e',_,_,rfl⟩
    ·rw[c]at c';exact absurd c' (by k_go)
    ·rw[e]at e';injection e' with e';rw[e']
  subst this;exact q l' H' f D k
 ·rcases hs with⟨c,_⟩|⟨c,_⟩
  ·exact absurd c n1
  ·exact absurd c n2
theorem B5{CD C CO:Addr}{H:Hp}{d t l m d' t' l' m':Addr}{W W':Int}{os os':Option Sn}{hs hs':List Int}(h:DS P w CD C CO H d t l m W os hs)(g:DS P w CD C CO H d' t' l' m' W' os' hs')(n1:d≠d')(n2:t≠t')(n3:l≠l')(n4:l≠m')(n5:m≠l')(n6:m≠m'):
  ∀b,(b=d∨b=t∨b=l∨b=m)→¬(b=d'∨b=t'∨b=l'∨b=m'):=by
 obtain⟨_,_,hd⟩:=h.dk.ob;obtain⟨_,_,gd⟩:=g.dk.ob;have hl:=h.dk.li;have gl:=g.dk.li;have hs:=h.sta;have gs:=g.sta;have hm:=h.lst;have gm:=g.lst;rintro b (rfl|rfl|rfl|rfl) (z|z|z|z)
 ·exact n1 z
 ·rw[z,gs]at hd;cases hd
 ·rw[z,gl]at hd;cases hd
 ·rw[z,gm]at hd;cases hd
 ·rw[z,gd]at hs;cases hs
 ·exact n2 z
 ·rw[z,gl]at hs;cases hs
 ·rw[z,gm]at hs;cases hs
 ·rw[z,gd]at hl;cases hl
 ·rw[z,gs]at hl;cases hl
 ·exact n3 z
 ·exact n4 z
 ·rw[z,gd]at hm;cases hm
 ·rw[z,gs]at hm;cases hm
 ·exact n5 z
 ·exact n6 z
def gS(x y z:Addr):Nat→Addr:=fun j=>if j=0 then x else if j=1 then y else z
theorem qF{CD C CO:Addr}{H:Hp}{d t l m p:Addr}{W:Int}{os:Option Sn}{hs:List Int}{xs:List V}(h:DS P w CD C CO H d t l m W os hs)(hp:H p=some (.lst xs))(n1:l≠p)(n2:m≠p):∀b,(b=d∨b=t∨b=l∨b=m)→b≠p:=by
 obtain⟨_,_,hd⟩:=h.dk.ob;have hs:=h.sta;rintro b (rfl|rfl|rfl|rfl) z
 ·rw[z,hp]at hd;cases hd
 ·rw[z,hp]at hs;cases hs
 ·exact n1 z
 ·exact n2 z
theorem cI.mk{CD C CO:Addr}{G0 H:Hp}{ld ls d0 t0 l0 m0 d1 t1 l1 m1 d2 t2 l2 m2:Addr}{W0 W1 W2:Int}{o0 o1 o2:Option Sn}{b0 b1 b2:List Int}(D0:DS P w CD C CO H d0 t0 l0 m0 W0 o0 b0)(D1:DS P w CD C CO H d1 t1 l1 m1 W1 o1 b1)(D2:DS P w CD C CO H d2 t2 l2 m2 W2 o2 b2)(eo:o0=none)(e0:b0=[])(e1:b1=[])(e2:b2=[])
  (f01:∀b,(b=d0∨b=t0∨b=l0∨b=m0)→¬(b=d1∨b=t1∨b=l1∨b=m1)) (f02:∀b,(b=d0∨b=t0∨b=l0∨b=m0)→¬(b=d2∨b=t2∨b=l2∨b=m2)) (f12:∀b,(b=d1∨b=t1∨b=l1∨b=m1)→¬(b=d2∨b=t2∨b=l2∨b=m2))
  (sm:ah G0 H) (hld:H ld=some (.lst [.ref d0,.ref d1,.ref d2])) (hls:H ls=some (.lst [.ref t0,.ref t1,.ref t2])) (n:ld≠ls)
  (x0:∀b,(b=d0∨b=t0∨b=l0∨b=m0)→G0 b=none∧b≠ld∧b≠ls) (x1:∀b,(b=d1∨b=t1∨b=l1∨b=m1)→G0 b=none∧b≠ld∧b≠ls) (x2:∀b,(b=d2∨b=t2∨b=l2∨b=m2)→G0 b=none∧b≠ld∧b≠ls) (gd:G0 ld=none) (gs:G0 ls=none) :
  cI P w CD C CO G0 H (fun _=>0) true ld ls (gS d0 d1 d2) (gS t0 t1 t2):=by
 have fp:∀i,i<3→∀b,df (gS d0 d1 d2) (gS t0 t1 t2) (gS l0 l1 l2) (gS m0 m1 m2) i b→(i=0∧(b=d0∨b=t0∨b=l0∨b=m0))∨(i=1∧(b=d1∨b=t1∨b=l1∨b=m1))∨(i=2∧(b=d2∨b=t2∨b=l2∨b=m2)):=fun i hi b hb=>by
  obtain rfl|rfl|rfl:i=0∨i=1∨i=2:=by omega
  ·exact .inl ⟨rfl,hb⟩
  ·exact .inr (.inl ⟨rfl,hb⟩)
  ·exact .inr (.inr ⟨rfl,hb⟩)
 subst e0 e1 e2;refine⟨gS l0 l1 l2,gS m0 m1 m2,fun j=>if j=0 then W0 else if j=1 then W1 else W2,fun j=>if j=0 then o0 else if j=1 then o1 else o2,fun _=>[],fun i hi=>?_,fun i _=>bv _,fun i j b hi hj ne hb hc=>?_,sm,fun i b hi hb=>?_,hld,hls,n,gd,gs,fun _=>eo⟩
 ·obtain rfl|rfl|rfl:i=0∨i=1∨i=2:=by omega
  ·exact D0
  ·exact D1
  ·exact D2
 ·rcases fp i hi b hb with⟨rfl,u⟩|⟨rfl,u⟩|⟨rfl,u⟩<;>rcases fp j hj b hc with⟨rfl,v⟩|⟨rfl,v⟩|⟨rfl,v⟩
  ·exact ne rfl
  ·exact f01 b u v
  ·exact f02 b u v
  ·exact f01 b v u
  ·exact ne rfl
  ·exact f12 b u v
  ·exact f02 b v u
  ·exact f12 b v u
  ·exact ne rfl
 ·rcases fp i hi b hb with⟨_,u⟩|⟨_,u⟩|⟨_,u⟩
  ·exact x0 b u
  ·exact x1 b u
  ·exact x2 b u
theorem Z3(ns:List Int):∃ms:List Int,j6 (ns.map V.int) (some 1) (some 26)=ms.map V.int∧ms.length≤25:=by
 refine⟨(ns.drop (HT.eU (ns.map V.int).length 0 (some 1))).take (HT.eU (ns.map V.int).length (ns.map V.int).length (some 26)-HT.eU (ns.map V.int).length 0 (some 1)),?_,?_⟩
 ·unfold j6;rw[←OI,←OL]
 ·rw[pN,OB,show(some (1:Int))=some ((1:Nat):Int)from rfl,show(some (26:Int))=some ((26:Nat):Int)from rfl,HT.BU,HT.BU];omega
theorem cI.lst{CD C CO:Addr}{G H0 H:Hp}{N:Nat→Nat}{zz:Bool}{ld ls p:Addr}{D T:Nat→Addr}{xs:List V}(h0:cI P w CD C CO G H0 N zz ld ls D T)(s:ah H0 H)(fp:H0 p=none)(hp:H p=some (.lst xs)):∃G',ah G G'∧cI P w CD C CO G' H N zz ld ls D T∧G' p=some (.lst xs):=by
 obtain⟨G',sg,t,hv⟩:=h0.ord (v:=.ref p) s (.inl ⟨.inr (.inr (.inr ⟨p,rfl,.inl ⟨xs,hp⟩⟩)),fun a e=>by injection e with e;rw[←e];exact fp⟩);have sm:ah G' H:=by obtain⟨_,_,_,_,_,_,_,_,sm,_⟩:=t;exact sm
 refine⟨G',sg,t,?_⟩;rcases hv with(hv|⟨_,hv⟩|⟨_,hv⟩|⟨a,e,hv⟩)|⟨_,hv,_⟩
 ·cases hv
 ·cases hv
 ·cases hv
 ·injection e with e;subst e;rcases hv with⟨ys,hv⟩|⟨ys,hv⟩|hv
  ·have:=sm _ _ hv;rw[hp]at this;rw[hv,this]
  ·have:=sm _ _ hv;rw[hp]at this;cases this
  ·have:=sm _ _ hv;rw[hp]at this;cases this
 ·cases hv
def DN(K:aq):Sp:=fun vs H Q _=>∃(a:Addr) (ns:List Int),vs=[.ref a]∧ay K H a (ns.map V.int)∧ns.length≤63∧∀H',Q (.bl true) H'
theorem ace{K:aq}{H:Hp}{a:Addr}{ns:List Int}(hl:ns.length≤63)(hS:ay K H a (ns.map V.int)):DN K [.ref a] H (fun v _=>v=.bl true) fun _ _ _=>False:=⟨a,ns,rfl,hS,hl,fun _=>rfl⟩
theorem Rz(T:Tx w K mg):∀(s:Shared) (u:Value),mX s T.d_law ⟨[u],[]⟩ [("script",u)]:=by
 obtain⟨oc,od,kV,doc,pm,an,bM,ct,osl,e,_,_⟩:=T.B0.F.ex;intro s u;rw[e];exact .of_eq rfl
theorem SZ(T:Tx w K mg):aM P w K mg base ba 13 T.f_law T.d_law ["script"] (DN K):=by
 refine T.B0.F.ok oP ?_ ?_;kj_on
 ·obtain⟨a,ns,rfl,_⟩:=h;rfl
 obtain⟨a,ns,rfl,hS,nl,q⟩:=h;have mt:∀v l,(cJ v l).lookup ("told" : Str)=none:=fun v l=>ql _ _ (by k_go) (by k_go);have ne:∀{X:Hp} {x y:Addr} {o:HO},X x=some o→X y=none→x≠y:=fun e f z=>by rw[z,f]at e;cases e
 refine⟨_,(ao (aW (i:=1) oP.nd rfl (by z_go) (bQ (ae (zt (xP T) T.yr (xV T) (hr.mono (by decide)) rfl T.yg T.sv.b aT) (ae (zt (xP T) T.yr (xV T) (hr.mono (by decide)) rfl T.yg T.sv.b aT) (ae (zt (xP T) T.yr (xV T) (hr.mono (by decide)) rfl T.yg T.sv.b aT) af)))))
  (ao (aW (i:=2) oP.nd rfl (by z_go) (bQ (ae (wC (P:=P) (w:=w) rfl rfl (by k_go) (mK mo aj) (bQ af)) (ae (wC (P:=P) (w:=w) rfl rfl (by k_go) (mK mo aj) (bQ af)) (ae (wC (P:=P) (w:=w) rfl rfl (by k_go) aj (bQ af)) af)))))
  (ao (aQ (PW.pt (fg (aO lG (Eu (aI (ck (K:=K) rfl) (pv 1) aj (fun _ _=>rfl)) T.gw T.BQ (Ci T) (hr.mono (by decide)) T.zM.b .nil iJ (ae ai af)) ai (aD _)) (fW (aO lG (Eu (aI (ck (K:=K) rfl) (pv 1) aj (fun _ _=>rfl)) T.gw T.BQ (Ci T) (hr.mono (by decide)) T.zM.b .nil iJ (ae ai af)) ai (aD _))))) (ap (az gh)) aS)
  (ao (aW (i:=3) oP.nd rfl (by z_go) (eg br (be mF (aX (RI T) (hr.mono (by decide)) rfl T.xj.m T.xj.F.kp T.xj.b .nil aT (ae (pv 0) (ae aj af))) aj) aj (aD _)))
  (ao (uJ rJ rfl (kc (K:=K) rfl (lj (KQ (K:=K) rfl) (pv 0) (kj aj) (kj aj))) (kW (i:=4) oP.nd rfl (by z_go))
  (ao (aW (i:=5) oP.nd rfl (by z_go) (aX (X0 T) (hr.mono (by decide)) rfl T.xv.m T.xv.F.kp T.xv.b .nil aT (ae (pv 4) (ae (pv 3) af))))
  (ap (uJ rJ rfl (Xv rfl T.YT (ae aj af)) (kW (i:=6) oP.nd rfl (by z_go))
  (ao (aQ (fk (cy (aX (abU T) (hr.mono (by decide)) rfl T.yA.m T.yA.F.kp T.yA.b .nil aT (ae (aI (ck (K:=K) rfl) (pv 1) (pv 6) (fun _ _=>rfl)) (ae (pv 5) (ae (aI (ck (K:=K) rfl) (pv 2) (pv 6) (fun _ _=>rfl)) af)))))) (ap (az gh)) aS)
  (ap (aQ (PW.pt (lD (aO br (pv 6) aj (aD _)) (kQ (aO oq (aI (km (P:=P) (w:=w) rfl rfl) (aI (ck (K:=K) rfl) (pv 2) aj (fun _ _=>rfl)) ai (fun _ _=>rfl)) (mK mo aj) (aD _))))) (ao (tm (zt (xP T) T.yr (xV T) (hr.mono (by decide)) rfl T.yg T.sv.b aT) (tV (pv 1) aj KR))
  (ap (tm (wC (P:=P) (w:=w) rfl rfl (by k_go) (mK mo aj) (bQ af)) (tV (pv 2) aj KR)))) aS)))))))
  (ap (az (eg (pG (K:=K) rfl hr.units) (aX (Dr T) (hr.mono (by decide)) rfl T.kr.m T.kr.F.kp T.kr.b .nil aT (ae (aI (ck (K:=K) rfl) (pv 1) aj (fun _ _=>rfl)) (ae ai af))) (bQ (ae ai (ae ai af))) (aD _))))))))),?_⟩
 got_up;refine fun d0 l0 dx0 H1 s1 fd0 fl0 nl0 hd0 hl0=>?_;ke_read;refine fun d1 l1 dx1 H2 s2 fd1 fl1 nl1 hd1 hl1=>?_;ke_read;refine fun d2 l2 dx2 H3 s3 fd2 fl2 nl2 hd2 hl2=>?_;ke_read;rintro ld H4 ⟨f4,a4,s4,-⟩;ke_read;refine wj fun t0 H5 nw5=>?_;obtain⟨f5,a5,s5,-⟩:=nw5;ke_read;rintro h0 H6 ⟨f6,a6,s6,-⟩;refine⟨s6 _ _ a5,fun H7 p7=>?_⟩;have s47:ah H4 H7:=p7.same (s5.trans s6) f5;have h07:H7 h0=some (.lst []):=by rw[p7.else_ _ (fun z=>by rw[z,a5]at f6;cases f6)];exact a6
 have t07:=p7.at_;clear p7;ke_read;refine wj fun t1 H8 nw8=>?_;obtain⟨f8,a8,s8,-⟩:=nw8;ke_read;rintro h1 H9 ⟨f9,a9,s9,-⟩;refine⟨s9 _ _ a8,fun H10 p10=>?_⟩;have s70:ah H7 H10:=p10.same (s8.trans s9) f8;have h10:H10 h1=some (.lst []):=by rw[p10.else_ _ (fun z=>by rw[z,a8]at f9;cases f9)];exact a9
 have t10:=p10.at_;clear p10;ke_read;refine wj fun t2 H11 nw11=>?_;obtain⟨f11,a11,s11,-⟩:=nw11;ke_read;rintro h2 H12 ⟨f12,a12,s12,-⟩;refine⟨s12 _ _ a11,fun H13 p13=>?_⟩;have s03:ah H10 H13:=p13.same (s11.trans s12) f11;have h23:H13 h2=some (.lst []):=by rw[p13.else_ _ (fun z=>by rw[z,a11]at f12;cases f12)];exact a12
 have t23:=p13.at_;clear p13;ke_read;rintro ls H14 ⟨f14,eM,s14,-⟩;have sA:ah H4 H14:=s47.trans (s70.trans (s03.trans s14));have sB:ah H3 H14:=s4.trans sA;have sC:ah H2 H14:=s3.trans sB;have sD:ah H1 H14:=s2.trans sC;have sE:ah H H14:=s1.trans sD;have n01:d0≠d1:=ne hd0 fd1;have n02:d0≠d2:=ne (s2 _ _ hd0) fd2;have jG:d1≠d2:=ne hd1 fd2;have q01:t0≠t1:=ne t07 f8;have q02:t0≠t2:=ne (s70 _ _ t07) f11;have q12:t1≠t2:=ne t10 f11;have w1:l0≠h0:=ne (s5 _ _ (s4 _ _ (s3 _ _ (s2 _ _ hl0)))) f6;have w2:l0≠h1:=ne (s8 _ _ (s47 _ _ (s4 _ _ (s3 _ _ (s2 _ _ hl0))))) f9;have w3:l0≠h2:=ne (s11 _ _ (s70 _ _ (s47 _ _ (s4 _ _ (s3 _ _ (s2 _ _ hl0)))))) f12;have w4:h0≠h1:=ne (s8 _ _ h07) f9;have w5:h0≠h2:=ne (s11 _ _ (s70 _ _ h07)) f12;have w6:h1≠h2:=ne (s11 _ _ h10) f12;have v0:l0≠ld:=ne (s3 _ _ (s2 _ _ hl0)) f4;have v1:h0≠ld:=(ne (s5 _ _ a4) f6).symm;have v2:h1≠ld:=(ne (s8 _ _ (s47 _ _ a4)) f9).symm;have v3:h2≠ld:=(ne (s11 _ _ (s70 _ _ (s47 _ _ a4))) f12).symm;have v4:l0≠ls:=ne (s03 _ _ (s70 _ _ (s47 _ _ (s4 _ _ (s3 _ _ (s2 _ _ hl0)))))) f14;have v5:h0≠ls:=ne (s03 _ _ (s70 _ _ h07)) f14;have v6:h1≠ls:=ne (s03 _ _ h10) f14;have v7:h2≠ls:=ne h23 f14;have v8:ld≠ls:=ne (s03 _ _ (s70 _ _ (s47 _ _ a4))) f14;have x0:=sD _ _ hd0;have y0:=sD _ _ hl0;have x1:=sC _ _ hd1;have y1:=sC _ _ hl1;have x2:=sB _ _ hd2;have y2:=sB _ _ hl2;have zd:=sA _ _ a4;have r0:=(s70.trans (s03.trans s14)) _ _ t07;have r1:=(s03.trans s14) _ _ t10;have r2:=s14 _ _ t23;have g0:=(s70.trans (s03.trans s14)) _ _ h07;have g1:=(s03.trans s14) _ _ h10;have g2:=s14 _ _ h23;have F0:H d0=none∧H l0=none∧H d1=none∧H d2=none∧H t0=none∧H t1=none∧H t2=none∧H h0=none∧H h1=none∧H h2=none∧H ld=none∧H ls=none:=by
  have e4:ah H H4:=s1.trans (s2.trans (s3.trans s4));exact⟨fd0,fl0,s1.free fd1,(s1.trans s2).free fd2,e4.free f5,(e4.trans s47).free f8,(e4.trans (s47.trans s70)).free f11,(e4.trans s5).free f6,((e4.trans s47).trans s8).free f9,((e4.trans (s47.trans s70)).trans s11).free f12,(s1.trans (s2.trans s3)).free f4,(e4.trans (s47.trans (s70.trans s03))).free f14⟩
 clear a4 hd0 hl0 hd1 hl1 hd2 hl2 t07 t10 t23 h07 h10 h23 a5 a6 a8 a9 a11 a12 f5 f6 f8 f9 f11 f12 f14 f4 fd0 fd1 fd2 fl0 fl1 fl2 s1 s2 s3 s4 s5 s6 s8 s9 s11 s12 s47 s70 s03 s14 sB sC sD sA;ke_read;refine⟨d1,dx1,_,rfl,x1,mt _ _,?_⟩;ke_read;refine HU (x:="open") (a:=.non) (s:=.opn 0) (l:=l1) ⟨dx1,x1,y1⟩ (.inl ⟨by k_go,rfl,rfl⟩) (.inl ⟨rfl,rfl⟩) (by k_go) (by k_go) fun k1 H15 f15 D15 c15=>?_;have X2:=c15 _ _ jG.symm x2;have Y2:=c15 _ _ (fun z=>by rw[z,x1]at y2;cases y2) y2;have ZD:=c15 _ _ (fun z=>by rw[z,x1]at zd;cases zd) zd;ke_read;refine⟨d2,dx2,_,rfl,X2,mt _ _,?_⟩;ke_read;refine HU (x:="line") (a:=.int 12) (s:=.half 0 12) (l:=l2) ⟨dx2,X2,Y2⟩ (.inr (.inr (.inl ⟨12,rfl,by k_go,by decide,by decide,rfl⟩))) (.inr ⟨rfl,12,rfl,by decide,by decide,rfl⟩) (by k_go) (by k_go) fun k2 H16 f16 D16 c16=>?_;have both:∀{b:Addr} {o:HO},b≠d1→b≠d2→H14 b=some o→H16 b=some o:=fun h1 h2 e=>c16 _ _ h2 (c15 _ _ h1 e);obtain⟨Fd0,Fl0,Fd1,Fd2,Ft0,Ft1,Ft2,Fh0,Fh1,Fh2,Fld,Fls⟩:=F0;have kd1:∀{b:Addr} {xs:List V},H14 b=some (.lst xs)→b≠d1∧b≠d2:=fun e=>⟨fun z=>(by rw[z,x1]at e;cases e),fun z=>(by rw[z,x2]at e;cases e)⟩;have kt1:∀{b:Addr} {aH:List (Str×V)},H14 b=some (dR P w b aH)→b≠d1∧b≠d2:=fun e=>⟨fun z=>(by rw[z,x1]at e;cases e),fun z=>(by rw[z,x2]at e;cases e)⟩;have bl:∀{b:Addr} {xs:List V},H14 b=some (.lst xs)→H16 b=some (.lst xs):=fun e=>both (kd1 e).1 (kd1 e).2 e;have bt:∀{b:Addr} {aH:List (Str×V)},H14 b=some (dR P w b aH)→H16 b=some (dR P w b aH):=fun e=>both (kt1 e).1 (kt1 e).2 e;have b5:∀{b:Addr} {xs:List V},H14 b=some (.lst xs)→H15 b=some (.lst xs):=fun e=>c15 _ _ (kd1 e).1 e;have hk1:H15 k1=some (.lst []):=by obtain⟨_,_,_,_,z⟩:=D15;exact z
 have nil3:∀{s:Option Sn},(∀s',s=some s'→∀h∈([]:List Int),am s' h=true):=fun _ _ _ z=>nomatch z;have E0':DS P w T.C_Desk T.C_Half T.C_Open H16 d0 t0 l0 h0 (-2) none []:=⟨⟨dx0,both n01 n02 x0,bl y0⟩,bt r0,bl g0,.inl ⟨rfl,rfl⟩,fun _=>rfl,pO,nil3,(fun _ z=>nomatch z),w1⟩;have E1':DS P w T.C_Desk T.C_Half T.C_Open H16 d1 t1 k1 h1 (-1) (some (.opn 0)) []:=⟨dG.but (os:=some (.opn 0)) (hs:=[]) D15 jG (fun z=>by rw[z,X2]at hk1;cases hk1) (.inr ⟨dx2,.non,l2,X2⟩) c16,bt r1,bl g1,.inr (.inl ⟨rfl,rfl⟩),(fun z=>nomatch z),pO,nil3,(fun _ z=>nomatch z),(ne g1 f15).symm⟩;have E2':DS P w T.C_Desk T.C_Half T.C_Open H16 d2 t2 k2 h2 12 (some (.half 0 12)) []:=⟨D16,bt r2,bl g2,.inr (.inr ⟨by decide,by decide,rfl⟩),(fun z=>nomatch z),pO,nil3,(fun _ z=>nomatch z),(ne (b5 g2) f16).symm⟩;have sm:ah H H16:=fun b o e=>both (fun z=>by rw[z,Fd1]at e;cases e) (fun z=>by rw[z,Fd2]at e;cases e) (sE _ _ e);have Fk1:H k1=none:=sE.free f15;have Fk2:H k2=none:=by
  cases e:H k2 with
  |none=>rfl
  |some o=>
   have:=c15 _ _ (fun z=>by rw[z,Fd1]at e;cases e) (sE _ _ e);rw[f16]at this;cases this
 have tri:cI P w T.C_Desk T.C_Half T.C_Open H H16 (fun _=>0) true ld ls (gS d0 d1 d2) (gS t0 t1 t2):=by
  refine cI.mk E0' E1' E2' rfl rfl rfl rfl (B5 E0' E1' n01 q01 (ne y0 f15) w2 (ne g0 f15) w4) (B5 E0' E2' n02 q02 (ne (b5 y0) f16) w3 (ne (b5 g0) f16) w5) (B5 E1' E2' jG q12 (ne hk1 f16) (ne g2 f15).symm (ne (b5 g1) f16) w6) sm (bl zd) (bl eM) v8 (fun b hb=>⟨?_,qF E0' (bl zd) v0 v1 b hb,qF E0' (bl eM) v4 v5 b hb⟩) (fun b hb=>⟨?_,qF E1' (bl zd) (ne zd f15).symm v2 b hb,qF E1' (bl eM) (ne eM f15).symm v6 b hb⟩) (fun b hb=>⟨?_,qF E2' (bl zd) (ne (b5 zd) f16).symm v3 b hb,qF E2' (bl eM) (ne (b5 eM) f16).symm v7 b hb⟩) Fld Fls
  ·rcases hb with rfl|rfl|rfl|rfl
   ·exact Fd0
   ·exact Ft0
   ·exact Fl0
   ·exact Fh0
  ·rcases hb with rfl|rfl|rfl|rfl
   ·exact Fd1
   ·exact Ft1
   ·exact Fk1
   ·exact Fh1
  ·rcases hb with rfl|rfl|rfl|rfl
   ·exact Fd2
   ·exact Ft2
   ·exact Fk2
   ·exact Fh2
 have hS16:=sm.seq hS;have tri':True→cI P w T.C_Desk T.C_Half T.C_Open H H16 (fun _=>0) true ld ls (gS d0 d1 d2) (gS t0 t1 t2):=fun _=>tri;clear tri E0' E1' E2' bl bt b5 kd1 kt1 both hk1 D15 D16 c15 c16 X2 Y2 ZD x0 y0 x1 y1 x2 y2 zd r0 r1 r2 g0 g1 g2 v0 v1 v2 v3 v4 v5 v6 v7 v8 w1 w2 w3 w4 w5 w6 n01 n02 jG q01 q02 q12 f15 f16 nil3 eM sE;ke_read;refine⟨a,ns,0,rfl,hS16,by decide,fun c0=>?_⟩;ke_read;obtain⟨ms,em,lm⟩:=Z3 ns;rw[em];rintro p7 H17 ⟨f17,a17,s17,-⟩;obtain⟨G,-,tri,gp⟩:=(tri' trivial).lst s17 f17 a17;have tri0:True→cI P w T.C_Desk T.C_Half T.C_Open G H17 (fun _=>0) true ld ls (gS d0 d1 d2) (gS t0 t1 t2):=fun _=>tri;clear tri' tri;ke_read;refine DU (K:=K) (a:=p7) (xs:=ms.map V.int) (fun i σ H3=>∃(D T':Nat→Addr) (o4 o5 o6:Option V),σ=[some (.ref a),some (.ref ld),some (.ref ls),some (.bl (decide (c0%2=0))),o4,o5,o6]∧(True→cI P w T.C_Desk T.C_Half T.C_Open G H3 (fun _=>i) true ld ls D T')) ⟨_,_,none,none,none,rfl,tri0⟩ (fun i σ H3 _ ⟨_,_,_,_,_,_,h⟩=>by obtain⟨_,_,_,_,_,_,_,_,sm,_⟩:=h trivial;exact ay.of (sm _ _ gp)) ?_ ?_
 ·rintro i x σ H18 hi ⟨D,T',o4,o5,o6,rfl,tr⟩;obtain⟨cell,_,rfl⟩:=gP.mp (fw hi);have il:i<25:=by
   have:=(gO.mp hi).1;rw[bo]at this;omega
  ke_read;refine⟨cell,_,rfl,fun v H19 s19 hv=>?_⟩;obtain⟨G1,sg,t19,hv1⟩:=(tr trivial).ord s19 hv;have tr19:True→cI P w T.C_Desk T.C_Half T.C_Open G1 H19 (fun _=>i) true ld ls D T':=fun _=>t19;clear t19 tr hv;ke_read;refine acv (fun k σ H3=>∃(D T':Nat→Addr) (o6:Option V),σ=[some (.ref a),some (.ref ld),some (.ref ls),some (.bl (decide (c0%2=0))),some (.int cell),some v,o6]∧(True→cI P w T.C_Desk T.C_Half T.C_Open G1 H3 (fun j=>if j<k then i+1 else i) true ld ls D T')) ⟨D,T',_,rfl,tr19⟩ ?_ ?_
  ·rintro k σ H20 hk ⟨D,T',o6,rfl,tr⟩;have hk3:k<3:=hk;have nx:∀{H':Hp} {b:Bool} {D T':Nat→Addr},cI P w T.C_Desk T.C_Half T.C_Open G1 H' (fun j=>if j=k then(if j<k then i+1 else i)+1 else(if j<k then i+1 else i)) b ld ls D T'→cI P w T.C_Desk T.C_Half T.C_Open G1 H' (fun j=>if j<k+1 then i+1 else i) b ld ls D T':=fun h=>h.mono fun j _=>by
    show(if j=k then(if j<k then i+1 else i)+1 else(if j<k then i+1 else i))≤(if j<k+1 then i+1 else i);by_cases z:j=k
    ·subst z;rw[if_pos rfl,if_neg (fA _),if_pos (pS _)];exact bv _
    ·rw[if_neg z];split<;>split<;>omega
   obtain⟨hld,hls⟩:H20 ld=some (.lst [.ref (D 0),.ref (D 1),.ref (D 2)])∧H20 ls=some (.lst [.ref (T' 0),.ref (T' 1),.ref (T' 2)]):=by
    obtain⟨_,_,_,_,_,_,_,_,_,_,f,g,_⟩:=tr trivial;exact⟨f,g⟩
   have ixd:cw [V.ref (D 0),V.ref (D 1),V.ref (D 2)] (k:Int)=some (.ref (D k)):=by
    obtain rfl|rfl|rfl:k=0∨k=1∨k=2:=by omega
    ·rfl
    ·rfl
    ·rfl
   have ixt:cw [V.ref (T' 0),V.ref (T' 1),V.ref (T' 2)] (k:Int)=some (.ref (T' k)):=by
    obtain rfl|rfl|rfl:k=0∨k=1∨k=2:=by omega
    ·rfl
    ·rfl
    ·rfl
   rw[zZ];ke_read;refine cI.right (tr trivial) hk3 (by show(if k<k then i+1 else i)≤59;rw[if_neg (fA _)];omega) hv1 (z2:=!decide (k=0)) (fun hz=>⟨rfl,fun z=>by rw[decide_eq_true z]at hz;cases hz⟩) fun H21 t21=>?_;have tr21:True→cI P w T.C_Desk T.C_Half T.C_Open G1 H21 (fun j=>if j<k+1 then i+1 else i) (!decide (k=0)) ld ls D T':=fun _=>nx t21;clear t21 tr nx;ke_read;refine cG (fun c=>?_) (fun c=>?_)
   ·have k0:k=0:=by omega
    subst k0;obtain⟨L,M,W,O,S,dd,bb,cc,sm,ee,hld1,hls1,nls,gd,gs,t⟩:=tr21 trivial;have e0:cw [V.ref (T' 0),V.ref (T' 1),V.ref (T' 2)] 0=some (.ref (T' 0)):=rfl;have D0:=dd 0 (by decide);have dk:True→cI P w T.C_Desk T.C_Half T.C_Open G1 H21 (fun j=>if j<0+1 then i+1 else i) (!decide (0=0)) ld ls D T':=tr21;have hid:True→(∀i,i<3→DS P w T.C_Desk T.C_Half T.C_Open H21 (D i) (T' i) (L i) (M i) (W i) (O i) (S i)):=fun _=>dd;have sta:=D0.sta;have wd:=D0.wd;clear dd D0 tr21;ke_read;refine j7 sta mI ?_;ke_read;refine cG (fun c1=>?_) (fun c1=>?_)
    ·clear hid cc ee bb sta wd;ke_read;refine fun d l dx H22 s22 fd fl nl hd hl=>?_;have hld2:=s22 _ _ hld1;have hls2:=s22 _ _ hls1;ke_read;refine nS ?_;ke_read;refine⟨ld,_,0,rfl,rfl,hld2,by decide,by show 0<3;decide,fun H23 p23=>?_⟩;have ld3:H23 ld=some (.lst [.ref d,.ref (D 1),.ref (D 2)]):=p23.at_;have k23:∀b o,b≠ld→H22 b=some o→H23 b=some o:=fun b o hb e=>by rw[p23.else_ b hb];exact e
     have ls3:=k23 _ _ nls.symm hls2;have hd3:=k23 _ _ (ne hld1 fd).symm hd;have hl3:=k23 _ _ (ne hld1 fl).symm hl;clear p23;ke_read;refine wj fun t' H24 nw24=>?_;obtain⟨f24,a24,s24,-⟩:=nw24;ke_read;rintro m' H25 ⟨f25,a25,s25,-⟩;refine⟨s25 _ _ a24,fun H26 p26=>?_⟩;have s36:ah H23 H26:=p26.same (s24.trans s25) f24;have m26:H26 m'=some (.lst []):=by rw[p26.else_ _ (fun z=>by rw[z,a24]at f25;cases f25)];exact a25
     have t26:=p26.at_;have lm:l≠m':=ne (s24 _ _ hl3) f25;have mls:m'≠ls:=(ne (s24 _ _ ls3) f25).symm;clear p26;have ls6:=s36 _ _ ls3;ke_read;refine nS ?_;ke_read;refine⟨ls,_,0,rfl,rfl,ls6,by decide,by show 0<3;decide,fun H27 p27=>?_⟩;have ls7:H27 ls=some (.lst [.ref t',.ref (T' 1),.ref (T' 2)]):=p27.at_;have k27:∀b o,b≠ls→H26 b=some o→H27 b=some o:=fun b o hb e=>by rw[p27.else_ b hb];exact e
     have hd6:=s36 _ _ hd3;have dn:DS P w T.C_Desk T.C_Half T.C_Open H27 d t' l m' (-2) none []:=⟨⟨dx,k27 _ _ (fun z=>by rw[z,ls6]at hd6;cases hd6) hd6,k27 _ _ (ne hls1 fl).symm (s36 _ _ hl3)⟩,k27 _ _ (fun z=>by rw[z,ls6]at t26;cases t26) t26,k27 _ _ mls m26,.inl ⟨rfl,rfl⟩,fun _=>rfl,pO,(fun _ _ _ z=>nomatch z),(fun _ z=>nomatch z),lm⟩;have k13:∀b o,b≠ld→H21 b=some o→H23 b=some o:=fun b o hb e=>k23 b o hb (s22 _ _ e);refine⟨_,_,_,rfl,fun _=>(dk trivial).renew fd (iK k13 ld3 f24) fl (iK k13 ld3 (s24.free f25)) (fun b o h1 h2 e=>k27 b o h2 (s36 _ _ (k13 b o h1 e))) dn (k27 _ _ nls (s36 _ _ ld3)) ls7⟩
    ·have o0:O 0=none:=by
      rcases wd with⟨_,e⟩|⟨e,_⟩|⟨e,_⟩
      ·exact e
      ·omega
      ·omega
     exact⟨D,T',_,rfl,fun _=>⟨L,M,W,O,S,hid trivial,bb,cc,sm,ee,hld1,hls1,nls,gd,gs,fun _=>o0⟩⟩
   ·have kn:¬k=0:=by omega
    refine⟨D,T',_,rfl,fun _=>?_⟩;have:=tr21 trivial;rw[decide_eq_false kn]at this;exact this
  ·rintro σ H20 ⟨D,T',o6,rfl,tr⟩;exact⟨D,T',_,_,_,rfl,fun _=>by
    have h:=(tr trivial).mono (N':=fun _=>i+1) fun j hj=>by show(if j<3 then i+1 else i)≤i+1;split<;>omega
    obtain⟨L,M,W,O,S,a,b,c,sm,e,f,g,nls,gd,gs,t⟩:=h;exact⟨L,M,W,O,S,a,b,c,sg.trans sm,fun j x hj hx=>⟨sg.free (e j x hj hx).1,(e j x hj hx).2⟩,f,g,nls,sg.free gd,sg.free gs,t⟩⟩
 ·rintro σ H18 ⟨D,T',o4,o5,o6,rfl,tr⟩;obtain⟨L,M,W,O,S,dd,bb,_,_,_,hld,_,_,_,_,t⟩:=tr trivial;have e0:cw [V.ref (D 0),V.ref (D 1),V.ref (D 2)] 0=some (.ref (D 0)):=rfl;have d0':=dd 0 (by decide);rw[t rfl]at d0';have s0:=d0'.nil rfl;rw[s0]at d0';clear tr dd;ke_read;refine ky (z:="come 3") (x:="come") (a:=.int 3) (l:=L 0) (os:=none) (hs:=[]) d0'.dk (by decide) ⟨by k_go,by k_go⟩ (.inr (.inr (.inr ⟨3,.inl rfl,by k_go,by decide,by decide,rfl⟩))) (fun s hs=>?_) (fun _ _ _ r2 H2 s2 f2 a2=>?_) (fun s e=>nomatch e) (fun s e=>nomatch e) (fun s e=>nomatch e) (fun s e=>nomatch e)
  ·rcases hs with⟨c,_⟩|⟨c,_⟩<;>exact absurd c (by k_go)
  ke_read;rintro r3 H3 ⟨f3,a3,s3,-⟩;refine Hl (ts:=["refused","line"]) (us:=["refused","line"]) (ay.of (s3 _ _ a2)) (ay.of a3) (mS (by k_go) (by k_go)) (mS (by k_go) (by k_go)) ?_;rw[decide_eq_true rfl];exact q _
end
theorem KW{K:aq}{a:Addr}{td:Option Addr}{ep:Nat}{sl:Array (Option Value)}{ts:List Str}(l:List (Str×Tok))(h:K.lookup a=some ⟨.type "tuple",td,.seq (strValues l).toArray ep,sl⟩)(n:l.length≤1000)(e:l.map (·.1)=ts):ui K a ts:=⟨_,l,_,h,rfl,rfl,n,e⟩
theorem TH:PySem.Challenge.pw_shoutline_k71_orders_read=PySem.Challenge.pw_shoutline_k71_orders_read:=rfl
end My
name_quick own_pw for PySem.Challenge.pw_shoutline_k71_orders_read by My.TH
namespace My
open PySem PySem.W PyProof.Rows L2 L3
abbrev pF:aG:=PySem.W.Fast.own_pw
theorem YB:PySem.Challenge.pw_shoutline_k71_orders_read=pF:=PySem.W.Fast.own_pw_eq
def tF(i:Nat):aw:=pF.main.body.getD i (.Pass ⟨0,0,0,0⟩)
def ev:Env:={scope:=pF.main.scope,locals:=mainNs,globals:=mainNs,cells:=[],code:=(aZ 13),frame:=(some 14)}
noncomputable section
variable(P:nr)
def n0:=sq [95,108,97,119,95,114,105,103,104,116]
def n1:=sq [108,97,119,95,115,104,111,117,116,108,105,110,101,95,107,55,49,95,111,114,100,101,114,115,95,114,101,97,100]
def n2:=sq [104,117,115,104]
def n3:=sq [119,111,114,100]
def n4:=sq [100,105,110]
def n5:=sq [78,111,72,97,110,100,115]
def n6:=sq [47,99,108,97,105,109,47,99,117,116,46,112,121]
def n7:=sq [116,97,108,107]
def n8:=sq [95,95,109,111,100,117,108,101,95,95]
def n9:=sq [115,104,111,117,116,108,105,110,101,46,101,114,114,111,114,115]
def jK:=sq [95,95,102,105,114,115,116,108,105,110,101,110,111,95,95]
def lJ:=sq [95,95,115,116,97,116,105,99,95,97,116,116,114,105,98,117,116,101,115,95,95]
def jG:=sq [95,95,100,111,99,95,95]
def sG:=sq [95,108,97,119,95,119,114,105,116,116,101,110]
def vV:=sq [110,101,105,103,104,98,111,117,114,115,95,99,111,109,109,111,110]
def jh:=sq [97,108,105,107,101]
def Dx:=sq [79,112,101,110,46,97,108,105,107,101]
def uI:=sq [105,115,95,108,111,119,95,111,102,95,111,112,101,110]
def yv:=sq [114,101,97,100,95,98,111,111,107]
def fX:=sq [115,104,111,117,116,108,105,110,101,46,116,101,120,116,115]
def lB:=sq [98,105,116,115]
def mr:=sq [108,111,119]
def tH:=sq [108,111,119,101,115,116]
def Do:=sq [83,112,97,110,46,108,111,119,101,115,116]
def ut:=sq [102,111,108,108,111,119]
def nQ:=sq [108,101,97,115,116]
def qI:=sq [115,104,111,117,116,108,105,110,101,46,115,101,97,114,99,104]
def uF:=sq [95,108,97,119,95,100,117,101]
def ux:=sq [116,101,120,116]
def BG:=sq [95,95,100,105,99,116,95,95]
def Xd:=sq [95,95,110,97,109,101,95,95]
def dE:=sq [115,104,111,117,116,108,105,110,101,46,100,101,115,107]
def UZ:=sq [95,95,112,97,99,107,97,103,101,95,95]
def Vk:=sq [95,95,108,111,97,100,101,114,95,95]
def Sj:=sq [95,95,115,112,101,99,95,95]
def RG:=sq [95,95,97,110,110,111,116,97,116,105,111,110,115,95,95]
def T4:=sq [95,95,98,117,105,108,116,105,110,115,95,95]
def UE:=sq [95,95,102,105,108,101,95,95]
def Xr:=sq [95,95,99,97,99,104,101,100,95,95]
def tT:=sq [95,119,97,108,108]
def dZ:=sq [76,105,110,101,69,114,114,111,114]
def wz:=sq [78,111,83,112,97,110]
def yW:=sq [78,111,72,97,110,100]
def wI:=sq [78,111,84,117,114,110]
def wM:=sq [78,111,72,97,108,108]
def yK:=sq [78,111,84,101,120,116]
def xK:=sq [78,111,79,114,100,101,114]
def yc:=sq [78,111,76,105,110,101]
def sS:=sq [105,115,95,119,104,111,108,101]
def sI:=sq [105,115,95,104,97,108,102]
def jm:=sq [83,112,97,110]
def yp:=sq [72,97,108,102]
def wD:=sq [79,112,101,110]
def oV:=sq [116,111,112,95,111,102]
def KH:=sq [83,85,82,69,95,72,65,78,68,83]
def sF:=sq [99,117,116]
def tu:=sq [99,117,116,95,98,121]
def uu:=sq [99,97,110,95,97,110,115,119,101,114]
def uD:=sq [114,111,111,109]
def vf:=sq [111,110,95,108,105,110,101]
def zh:=sq [104,101,97,114,100]
def vW:=sq [119,111,114,100,115]
def xy:=sq [108,101,97,115,116,95,112,97,112,101,114]
def oY:=sq [103,114,101,97,116,101,115,116]
def ur:=sq [115,101,101,107]
def xM:=sq [115,104,111,114,116,95,116,97,108,107]
def tI:=sq [105,115,95,115,117,114,101]
def Xb:=sq [70,73,71,85,82,69,83]
def YL:=sq [48,49,50,51,52,53,54,55,56,57]
def SU:=sq [77,79,83,84,95,70,73,71,85,82,69,83]
def Qx:=sq [77,79,83,84,95,66,73,84,83]
def wm:=sq [115,104,111,119,110,95,98,111,111,107]
def tR:=sq [115,104,111,119,110,95,114,111,119]
def uy:=sq [114,101,97,100,95,114,111,119]
def t4:=sq [114,101,97,100,95,115,112,97,110]
def u7:=sq [114,101,97,100,95,97,110,115,119,101,114]
def uh:=sq [114,101,97,100,95,98,105,116,115]
def yb:=sq [114,101,97,100,95,110,117,109,98,101,114]
def kY:=sq [99,111,109,109,111,110,95,98,105,116,115]
def tO:=sq [100,105,110,115]
def nU:=sq [116,117,114,110,115]
def sT:=sq [100,105,110,115,95,98,121,95,99,111,109,109,111,110]
def n82:=sq [77,79,83,84,95,72,65,78,68,83]
def Sl:=sq [65,76,79,78,69]
def Tn:=sq [79,70,95,65,95,87,73,68,84,72]
def ye:=sq [68,101,115,107]
def jg:=sq [115,104,111,119,110]
def Dw:=sq [72,97,108,102,46,115,104,111,119,110]
def eH:=sq [115,101,108,102]
def CB:=sq [112,97,114,116,115]
def EC:=sq [79,112,101,110,46,115,104,111,119,110]
def cf:=sq [115,104,111,117,116,108,105,110,101,46,115,112,97,110,115]
def im:=sq [104,111,108,100,115]
def Eo:=sq [72,97,108,102,46,104,111,108,100,115]
def uU:=sq [103,111]
def Ck:=sq [68,101,115,107,46,103,111]
def Ct:=sq [83,112,97,110,46,104,111,108,100,115]
def xF:=sq [111,116,104,101,114]
def sW:=sq [95,108,97,119,95,99,101,108,108,95,97,116]
def uH:=sq [95,108,97,119,95,112,105,99,107]
def iq:=sq [95,95,105,110,105,116,95,95]
def CY:=sq [79,112,101,110,46,95,95,105,110,105,116,95,95]
def nX:=sq [99,101,108,108]
def qp:=sq [111,119,110]
def mL:=sq [111,114,100,101,114]
def Ht:=sq [119,97,121]
def AV:=sq [112,108,97,99,101]
def Yz:=sq [115,105,103,110]
def KB:=sq [104,101,97,100]
def tL:=sq [115,104,111,119,110,95,115,101,97,114,99,104]
def abL:=sq [99,111,109,109,111,110]
def VE:=sq [99,111,117,110,116]
def Yu:=sq [98,101,102,111,114,101]
def rZ:=sq [95,108,97,119,95,105,115,95,111,114,100,101,114]
def gY:=sq [104,97,108,118,101,115]
def kC:=sq [115,104,111,117,116,108,105,110,101,46,98,111,111,107,115]
def t8:=sq [95,108,97,119,95,116,101,120,116]
def u6:=sq [95,108,97,119,95,110,117,109,98,101,114]
def vb:=sq [95,108,97,119,95,107,105,110,100]
def EX:=sq [72,97,108,102,46,104,97,108,118,101,115]
def Si:=sq [111,110,101]
def mM:=sq [119,105,100,116,104]
def xu:=sq [99,104,101,99,107]
def kU:=sq [104,97,110,100,115]
def DO:=sq [72,97,108,102,46,97,108,105,107,101]
def TX:=sq [104,101,97,100,115]
def wV:=sq [115,104,111,117,116,108,105,110,101,46,115,104,111,114,116,115]
def J5:=sq [115,104,111,117,116,108,105,110,101,46,119,104,111,108,101]
def uk:=sq [95,108,97,119,95,116,101,120,116,95,100,117,101]
def CC:=sq [95,95,113,117,97,108,110,97,109,101,95,95]
def tZ:=sq [116,111,108,100]
def Cv:=sq [68,101,115,107,46,116,111,108,100]
def nY:=sq [97,110,115,119,101,114]
def uK:=sq [114,101,102,117,115,101,95,119,105,116,104,111,117,116,95,108,105,110,101]
def Dn:=sq [68,101,115,107,46,114,101,102,117,115,101,95,119,105,116,104,111,117,116,95,108,105,110,101]
def BA:=sq [72,97,108,102,46,95,95,105,110,105,116,95,95]
def Ez:=sq [115,116,97,116,101]
def A7:=sq [115,111,109,101,95,119,111,114,100,115]
def UR:=sq [119,105,100,101]
def Bc:=sq [83,112,97,110,46,97,108,105,107,101]
def B3:=sq [83,112,97,110,46,115,104,111,119,110]
def GK:=sq [100,101,115,107]
def GC:=sq [99,97,117,103,104,116]
def Df:=sq [102,111,117,110,100]
def Bd:=sq [101]
def EU:=sq [83,112,97,110,46,104,97,108,118,101,115]
def Bh:=sq [115,104,111,117,116,108,105,110,101,46,112,97,112,101,114,115]
def tN:=sq [95,108,97,119,95,111,114,100,101,114]
def wW:=sq [95,108,97,119,95,105,115,95,110,117,109,98,101,114]
def Eh:=sq [79,112,101,110,46,104,111,108,100,115]
def kT:=sq [110,117,109,98,101,114]
def uQ:=sq [95,108,97,119,95,116,111,108,100]
def Bo:=sq [79,112,101,110,46,104,97,108,118,101,115]
def sJ:=sq [98,101,103,105,110]
def EY:=sq [68,101,115,107,46,98,101,103,105,110]
def uw:=sq [95,108,97,119,95,109,111,118,101,100]
def sQ:=sq [95,108,97,119,95,115,105,103,110]
def uM:=sq [99,111,109,101]
def j9:=sq [115,104,111,117,116,108,105,110,101,46,116,117,114,110,115]
def sw:=sq [114,101,97,100,95,111,114,100,101,114]
def sX:=sq [95,108,97,119,95,100,114,97,119,110]
def DG:=sq [68,101,115,107,46,99,111,109,101]
def G9:=sq [112,97,112,101,114]
def uP:=sq [108,97,119]
def Ni:=sq [101,114,114,111,114]
def Zg:=sq [97,115,107,101,100]
def tM:=sq [107]
def aas:=sq [98,101,104,105,110,100]
def wX:=sq [115,104,111,117,116,108,105,110,101,46,108,105,110,101]
def vZ:=sq [115,104,111,117,116,108,105,110,101,46,116,97,108,107,115]
def BB:=sq [115,112,97,110]
def M2:=sq [95,95,109,97,105,110,95,95]
def aaB:=sq [115,105,103,110,115]
def G4:=sq [115,99,114,105,112,116]
def abY:=sq [100,101,115,107,115]
def XX:=sq [115,116,97,116,101,115]
def yd:=sq [95,95,119,101,97,107,114,101,102,95,95]
def EF:=sq [100,117,101]
def ab6:=sq [107,105,110,100,115]
def y9:=sq [98,111,111,107]
def wo:=sq [114,111,119]
def Zu:=sq [115,104,111,119,110,95,97,110,115,119,101,114]
def YQ:=sq [99,97,108,108,115]
def tJ:=sq [116,111,112]
def SQ:=sq [115,116,101,112]
def Ek:=sq [99,97,108,108]
def YV:=sq [107,105,110,100]
def UD:=sq [115,117,114,101]
def acE:=sq [117,112,112,101,114]
def aaW:=sq [111,112,101,110]
def Vz:=sq [115,104,111,114,116]
def JD:=sq [115,111,109,101]
def aba:=sq [60,109,111,100,117,108,101,62]
def abk:=sq [104,97,110,100]
def DA:=sq [68,101,115,107,46,95,95,105,110,105,116,95,95]
def YN:=sq [115,105,100,101]
def XM:=sq [110,101,97,114]
def Tf:=sq [116,104,105,110,103]
def Sa:=sq [109,97,110,121]
def zG:List Fh:=[(en P jG 166 vN),(en P UZ 167 vN),(en P Vk 168 (.builtin "__main__.__loader__#opaque")),(en P Sj 169 vN),(en P RG 170 (.ref 6)),(en P T4 171 (.ref 4)),(en P UE 173 (.str n6 172)),(en P Xr 174 vN),(en P tT 193 (.ref 21)),(en P dZ 213 (.ref 31)),(en P wz 229 (.ref 44)),(en P n5 245 (.ref 56)),(en P yW 261 (.ref 68)),(en P wI 277 (.ref 80)),(en P wM 293 (.ref 92)),(en P yK 309 (.ref 104)),(en P xK 325 (.ref 116)),(en P yc 341 (.ref 128)),(en P sS 350 (.ref 137)),(en P sI 360 (.ref 144)),(en P uI 367 (.ref 151)),(en P jm 424 (.ref 196)),(en P yp 482 (.ref 245)),(en P wD 537 (.ref 292)),(en P oV 544 (.ref 302)),(en P KH 556 (.ref 303)),(en P sF 564 (.ref 310)),(en P tu 577 (.ref 317)),(en P uu 587 (.ref 324)),(en P ut 599 (.ref 331)),(en P uD 606 (.ref 338)),(en P vf 617 (.ref 345)),(en P zh 623 (.ref 350)),(en P n7 631 (.ref 355)),(en P vW 637 (.ref 360)),(en P xy 645 (.ref 365)),(en P nQ 655 (.ref 372)),(en P oY 663 (.ref 379)),(en P ur 677 (.ref 386)),(en P xM 685 (.ref 391)),(en P tI 693 (.ref 398)),(en P Xb 697 (.str YL 696)),(en P SU 699 (.int 60 698)),(en P Qx 701 (.int 200 700)),(en P wm 707 (.ref 403)),(en P tR 716 (.ref 410)),(en P yv 722 (.ref 415)),(en P uy 730 (.ref 422)),(en P t4 740 (.ref 429)),(en P u7 747 (.ref 436)),(en P uh 755 (.ref 443)),(en P yb 761 (.ref 448)),(en P kY 772 (.ref 455)),(en P tO 780 (.ref 462)),(en P nU 788 (.ref 469)),(en P vV 794 (.ref 474)),(en P sT 804 (.ref 481)),(en P n82 808 (.int 120 807)),(en P Sl 816 (.ref 482)),(en P Tn 821 (.ref 483)),(en P ye 893 (.ref 535)),(en P sw 904 (.ref 546)),(en P xu 910 (.ref 551)),(en P nY 919 (.ref 558)),(en P tL 928 (.ref 565)),(en P sW 938 (.ref 572)),(en P sX 947 (.ref 579)),(en P uH 957 (.ref 586)),(en P sQ 965 (.ref 593)),(en P u6 975 (.ref 600)),(en P t8 984 (.ref 607)),(en P sG 994 (.ref 614)),(en P tN 1007 (.ref 621)),(en P wW 1013 (.ref 626)),(en P rZ 1021 (.ref 633)),(en P uk 1030 (.ref 640)),(en P uw 1039 (.ref 647)),(en P uF 1049 (.ref 654)),(en P vb 1057 (.ref 661)),(en P uQ 1068 (.ref 668)),(en P n0 1079 (.ref 675)),(en P uP 1092 (.ref 682))]
def zT:List (Nat×Nat)→List Value
 |[]=>[]
 |(a,b)::r=>.int (eP a) 0::.int 0 0::.ref b::zT r
def zF:List Value:=zT [(1,20),(5,27),(7,40),(9,52),(11,64),(13,76),(15,88),(17,100),(19,112),(21,124),(24,136),(27,143),(33,150),(37,157),(53,206),(75,253),(95,301),(101,309),(103,316),(115,323),(123,330),(132,337),(137,344),(143,349),(151,354),(167,359),(170,364),(173,371),(175,378),(177,385),(192,390),(195,397),(201,402),(205,409),(209,414),(213,421),(218,428),(227,435),(231,442),(236,447),(245,454),(247,461),(250,468),(252,473),(254,480),(265,489),(309,545),(327,550),(333,557),(345,564),(350,571),(354,578),(358,585),(362,592),(366,599),(370,606),(374,613),(382,620),(403,625),(407,632),(418,639),(427,646),(438,653),(456,660),(473,667),(485,674),(493,681)]
def zC:List Value:=[(.ref 44),(.ref 56),(.ref 68),(.ref 80),(.ref 92),(.ref 104),(.ref 116),(.ref 128)]
def gZ(s0:Str)(d1 d2 d3:Nat):Obj:=(bW (.type "code") none (iW #[(.str s0 d1),(.str s0 (d1+1)),(.str n6 (d1+2)),(.int (eP d2) 0),(.int 0 0),(.int 0 0),(.int 0 0),(.int 0 0),(.ref d3),(.bool .false),(.int 181 0),(.ref (d3+1)),vN,vN,vN,vN,(.int (eP (d1+3)) 0),(.int (eP d2) 0),(.str n6 (d1+4))]) #[])
def iu(s2:Str)(d0 d1 d3:Nat):Obj:=(bW (.type "frame") none Data.plain #[(some (.ref d0)),(some (.ref 3)),(some (.ref d1)),none,(some (.str s2 d3)),none,(some (.ref 0))])
def fI(s0:Str)(d1 d2:Nat):Obj:=(bW (.type "dict") none (jN (FF ((en P Xd 165 (.str s0 d1))::(zG P).take d2)) (d2+1)) #[])
def fL(d0:Nat):Obj:=(bW vN none (iW (FF ((zF).take d0))) #[])
def ib(s0:Str)(d1:Nat):Obj:=(bW (.type "tuple") none (iX #[(.str s0 d1)] 0) #[])
def bF(s0:Str)(d1:Nat):Obj:=co s0 s0 (tF d1) vN vN vN vN none vN vN
def bq(s0 s2:Str)(d1 d3 d4 d5 d6:Nat):Obj:=(bW (.type "code") none (iW #[(.str s0 d1),(.str s2 (d1+1)),(.str n6 (d1+2)),(.int (eP d3) 0),(.int (eP d4) 0),(.int 0 0),(.int 0 0),(.int 3 0),(.ref d5),(.bool .true),(.int 181 0),(.ref (d5+1)),vN,(.ref (d5+2)),(.ref (d5+3)),(.ref (d5+4)),(.int (eP d6) 0),(.int (eP d3) 0),(.str n6 (d6+1))]) #[])
def bG(s0 s2:Str)(d1 d3 d4:Nat):Obj:=fo s0 s0 (tF d1) vN vN vN (.str s2 d3) none (.ref d4) vN
def lE(s1:Str)(d0 d2 d3:Nat):Obj:=(bW (.type "dict") none (jN #[(en P n8 d0 (.str n9 194)),(en P CC (d0+2) (.str s1 (d0+1))),(en P jK (d0+4) (.int (eP d2) (d0+3))),(en P lJ (d0+5) (.ref d3))] 4) #[])
def ED(d0 d1:Nat):Obj:=(bW (.type "getset_descriptor") none (iW #[(.str yd d0),(.ref d1),(.builtin "ExceptionGroup.__weakref__"),vN]) #[])
def iI(d0:Nat):Obj:=(bW (.type "super") none (iW #[(.ref d0),(.ref d0),(.ref d0)]) #[])
def iN(d0:Nat):Obj:=(bW (.type "builtin_function_or_method") none (iW #[(.builtin "object.__init_subclass__"),(.ref d0)]) #[])
def Hv(d0:Nat):Obj:=(bW (.type "tuple") none (iX #[(.ref d0)] 0) #[])
def ml(d0 d1 d2:Nat):Obj:=(bW (.type "dict") none (jN #[(en P n8 d0 (.str n9 194)),(en P jK (d0+4) (.int (eP d1) (d0+3))),(en P lJ (d0+5) (.ref d2)),(en P jG (d0+6) vN)] 2) #[])
def mT(s0:Str)(d1 d2 d3 d4:Nat):Obj:=(bW (.type "type") none (kH (kF s0 [(.ref 31)] [(.ref d1),(.ref 31),(.type "ValueError"),(.type "Exception"),(.type "BaseException"),(.type "object")] d2 s0 true [] [] false none false)) #[(some (.ref d3)),none,(some (.str s0 d4)),(some (.str s0 (d4+8))),(some (.builtin "ValueError.__new__")),(some (.bool .true))])
def sZ(d0:Nat):Obj:=(bW (.type "type") none (kH (kF dZ [(.type "ValueError")] [(.ref 31),(.type "ValueError"),(.type "Exception"),(.type "BaseException"),(.type "object")] 30 dZ true [] ((zC).take d0) false none false)) #[(some (.ref 22)),none,(some (.str dZ 196)),(some (.str dZ 204)),(some (.builtin "ValueError.__new__")),(some (.bool .true))])
def dg(s0 s2:Str)(d1:Nat):Obj:=(bW (.type "tuple") none (iX #[(.str s0 d1),(.str s2 (d1+1))] 0) #[])
def Bk(s1 s3 s6:Str)(d0 d2 d4 d5 d7 d8 d9:Nat):Obj:=(bW (.type "dict") none (jN #[(en P n8 d0 (.str cf 351)),(en P CC (d0+2) (.str s1 (d0+1))),(en P jK (d0+4) (.int (eP d2) (d0+3))),(en P s3 d4 (.ref d5)),(en P s6 d7 (.ref (d5+7))),(en P gY d8 (.ref (d5+14))),(en P jg (d8+7) (.ref (d5+21))),(en P jh (d8+15) (.ref (d5+28))),(en P lJ d9 (.ref (d5+29)))] 9) #[])
def Eb(d0 d1 d2 d3:Nat):Obj:=(bW vN none (iW #[(.int (eP d0) 0),(.int 4 0),(.ref d1),(.int (eP d2) 0),(.int 4 0),(.ref (d1+7)),(.int (eP (d2+3)) 0),(.int 4 0),(.ref (d1+14)),(.int (eP d3) 0),(.int 4 0),(.ref (d1+21)),(.int (eP (d3+3)) 0),(.int 4 0),(.ref (d1+28))]) #[])
def eN(s0 s1:Str)(d2 d3:Nat):Obj:=co s0 s1 (fQ (tF d2) d3) vN vN vN vN none vN vN
def eK(s0 s1 s4:Str)(d2 d3 d5 d6:Nat):Obj:=fo s0 s1 (fQ (tF d2) d3) vN vN vN (.str s4 d5) none (.ref d6) vN
def Iq(s0:Str)(d1 d2 d3:Nat):Obj:=(bW (.type "type") none (kH (kF s0 [(.type "object")] [(.ref d1),(.type "object")] d2 s0 true [] [] false none false)) #[none,none,(some (.str s0 d3)),(some (.str s0 (d3+8))),(some (.builtin "object.__new__")),(some (.bool .true))])
def L4(d0 d1:Nat):Obj:=(bW (.type "getset_descriptor") none (iW #[(.str BG d0),(.ref d1),(.builtin "function.__dict__"),(.builtin "function.__dict__#set")]) #[])
def jz(s0 s2 s3:Str)(d1:Nat):Obj:=(bW (.type "tuple") none (iX #[(.str s0 d1),(.str s2 (d1+1)),(.str s3 (d1+2))] 0) #[])
def Np(d0 d1 d2 d3 d4 d5:Nat):Obj:=(bW (.type "dict") none (jN #[(en P n8 d0 (.str cf 351)),(en P jK (d0+4) (.int (eP d1) (d0+3))),(en P iq d2 (.ref d3)),(en P im (d2+8) (.ref (d3+7))),(en P gY d4 (.ref (d3+14))),(en P jg (d4+7) (.ref (d3+21))),(en P jh (d4+15) (.ref (d3+28))),(en P lJ d5 (.ref (d3+29))),(en P jG (d5+1) vN)] 2) #[])
def LY(s0:Str)(d1 d2 d3 d4:Nat):Obj:=(bW (.type "type") none (kH (kF s0 [(.ref 196)] [(.ref d1),(.ref 196),(.type "object")] d2 s0 true [] [] false none false)) #[(some (.ref d3)),none,(some (.str s0 d4)),(some (.str s0 (d4+8))),(some (.builtin "object.__new__")),(some (.bool .true))])
def vY(s0 s2 s3 s4 s5 s6 s7:Str)(d1:Nat):Obj:=(bW (.type "tuple") none (iX #[(.str s0 d1),(.str s2 (d1+1)),(.str s3 (d1+2)),(.str s4 (d1+3)),(.str s5 (d1+4)),(.str s6 (d1+5)),(.str s7 (d1+6))] 0) #[])
def lO(s0 s2 s3 s4:Str)(d1:Nat):Obj:=(bW (.type "tuple") none (iX #[(.str s0 d1),(.str s2 (d1+1)),(.str s3 (d1+2)),(.str s4 (d1+3))] 0) #[])
def jJ(s0:Str)(d1 d2 d3 d4:Nat):Obj:=(bW (.type "code") none (iW #[(.str s0 d1),(.str s0 (d1+1)),(.str n6 (d1+2)),(.int (eP d2) 0),(.int (eP d3) 0),(.int 0 0),(.int 0 0),(.int 3 0),(.ref d4),(.bool .true),(.int 181 0),(.ref (d4+1)),vN,vN,vN,(.ref (d4+2)),(.int (eP (d1+3)) 0),(.int (eP d2) 0),(.str n6 (d1+4))]) #[])
def Ds(s0 s2 s3 s4 s5:Str)(d1:Nat):Obj:=(bW (.type "tuple") none (iX #[(.str s0 d1),(.str s2 (d1+1)),(.str s3 (d1+2)),(.str s4 (d1+3)),(.str s5 (d1+4))] 0) #[])
def a0:Obj:=(bW (.type "tuple") none (iX #[] 0) #[])
def a1:Obj:=(bW vN none (iW #[]) #[])
def eM:Obj:=(bW (.type "builtin_function_or_method") none (iW #[(.builtin "type.__prepare__"),(.type "type")]) #[])
def Ib:Obj:=(bW (.type "dict") none (jN #[(en P n8 203 (.str n9 194)),(en P jK 207 (.int 5 206)),(en P lJ 208 (.ref 29)),(en P yd 210 (.ref 32)),(en P jG 211 vN)] 3) #[])
def nW:Obj:=ED 209 31
def mJ:Obj:=Hv 31
def GS:Obj:=ml P 221 7 42
def Nr:Obj:=mT wz 44 43 35 214
def Gu:Obj:=ml P 237 9 54
def MT:Obj:=mT n5 56 55 47 230
def Kh:Obj:=ml P 253 11 66
def MC:Obj:=mT yW 68 67 59 246
def M6:Obj:=ml P 269 13 78
def HB:Obj:=mT wI 80 79 71 262
def Hq:Obj:=ml P 285 15 90
def JN:Obj:=mT wM 92 91 83 278
def GN:Obj:=ml P 301 17 102
def Kw:Obj:=mT yK 104 103 95 294
def Jr:Obj:=ml P 317 19 114
def Km:Obj:=mT xK 116 115 107 310
def Ik:Obj:=sZ 8
def M5:Obj:=ml P 333 21 126
def Nn:Obj:=mT yc 128 127 119 326
def HD:Obj:=bq sS sS 344 24 1 131 348
def LU:Obj:=bq sI sI 353 27 2 138 358
def Lv:Obj:=bq uI uI 361 33 1 145 365
def HC:Obj:=(bW (.type "dict") none (jN #[(en P n8 375 (.str cf 351)),(en P jK 379 (.int 37 378)),(en P im 387 (.ref 165)),(en P tH 394 (.ref 172)),(en P gY 401 (.ref 179)),(en P jg 408 (.ref 186)),(en P jh 416 (.ref 193)),(en P lJ 417 (.ref 194)),(en P BG 419 (.ref 197)),(en P yd 421 (.ref 198)),(en P jG 422 vN)] 4) #[])
def LS:Obj:=L4 418 196
def GA:Obj:=ED 420 196
def MM:Obj:=Hv 196
def J7:Obj:=bq iq BA 437 55 3 208 443
def Gz:Obj:=bq im Eo 446 61 2 215 451
def Mp:Obj:=bq gY EX 454 64 1 222 459
def Hb:Obj:=bq jg Dw 462 70 1 229 466
def Mr:Obj:=bq jh DO 469 73 2 236 474
def Js:Obj:=Np P 432 53 445 214 461 479
def ND:Obj:=LY yp 245 244 201 425
def Nx:Obj:=(bW (.type "type") none (kH (kF jm [(.type "object")] [(.ref 196),(.type "object")] 195 jm true [] [(.ref 245),(.ref 292)] false none false)) #[none,none,(some (.str jm 368)),(some (.str jm 376)),(some (.builtin "object.__new__")),(some (.bool .true))])
def Jk:Obj:=bq iq CY 495 77 2 255 500
def HE:Obj:=bq im Eh 503 82 2 262 508
def IJ:Obj:=bq gY Bo 511 85 1 269 515
def NN:Obj:=bq jg EC 518 90 1 276 522
def Gn:Obj:=bq jh Dx 525 93 2 283 530
def LN:Obj:=Np P 490 75 502 261 517 534
def LH:Obj:=LY wD 292 291 248 483
def ID:Obj:=(bW (.type "tuple") none (iX #[vN] 0) #[])
def Jw:Obj:=bq oV oV 538 95 1 296 542
def MP:Obj:=(bW (.type "dict") none (jN #[(en P n2 547 (.int 0 548)),(en P n3 549 (.int 1 550)),(en P n4 551 (.int 2 552))] 3) #[])
def Jf:Obj:=bq sF sF 557 101 2 304 562
def NC:Obj:=bq tu tu 565 103 3 311 575
def IH:Obj:=bq uu uu 578 115 2 318 585
def KD:Obj:=bq ut ut 588 123 3 325 597
def MU:Obj:=bq uD uD 600 132 1 332 604
def NT:Obj:=bq vf vf 609 137 2 339 615
def IP:Obj:=jJ zh 618 143 2 346
def IB:Obj:=jJ n7 626 151 2 351
def MD:Obj:=jJ vW 632 167 1 356
def IG:Obj:=jJ xy 640 170 2 361
def JB:Obj:=bq nQ nQ 648 173 2 366 653
def Hs:Obj:=bq oY oY 656 175 2 373 661
def GG:Obj:=bq ur ur 664 177 3 380 675
def HY:Obj:=jJ xM 680 192 2 387
def Lj:Obj:=bq tI tI 686 195 2 392 691
def NI:Obj:=jJ wm 702 201 1 399
def Iv:Obj:=bq tR tR 708 205 1 404 714
def NL:Obj:=jJ yv 717 209 1 411
def Nv:Obj:=bq uy uy 723 213 1 416 728
def Jj:Obj:=bq t4 t4 731 218 1 423 738
def Jz:Obj:=bq u7 u7 741 227 1 430 745
def L7:Obj:=bq uh uh 748 231 1 437 753
def Lo:Obj:=jJ yb 756 236 1 444
def Lm:Obj:=bq kY kY 764 245 3 449 770
def Iz:Obj:=bq tO tO 773 247 2 456 778
def Nf:Obj:=bq nU nU 781 250 2 463 786
def MZ:Obj:=jJ vV 789 252 2 470
def ME:Obj:=bq sT sT 795 254 1 475 802
def Lp:Obj:=vY aaW n7 Vz nU nQ oY G9 809
def JQ:Obj:=lO nU nQ oY G9 817
def Kt:Obj:=bq iq DA 834 267 1 491 838
def Kr:Obj:=bq tZ Cv 841 271 2 498 848
def MQ:Obj:=bq sJ EY 851 286 2 505 856
def Nc:Obj:=bq uK Dn 859 290 2 512 864
def Mo:Obj:=bq uM DG 867 296 2 519 873
def Nj:Obj:=bq uU Ck 876 304 2 526 881
def II:Obj:=(bW (.type "dict") none (jN #[(en P n8 829 (.str dE 805)),(en P jK 833 (.int 265 832)),(en P iq 840 (.ref 497)),(en P tZ 850 (.ref 504)),(en P sJ 858 (.ref 511)),(en P uK 866 (.ref 518)),(en P uM 875 (.ref 525)),(en P uU 883 (.ref 532)),(en P lJ 886 (.ref 533)),(en P BG 888 (.ref 536)),(en P yd 890 (.ref 537)),(en P jG 891 vN)] 4) #[])
def Lh:Obj:=Iq ye 535 534 822
def NR:Obj:=L4 887 535
def JX:Obj:=ED 889 535
def Mx:Obj:=bq sw sw 894 309 1 540 902
def M9:Obj:=jJ xu 905 327 2 547
def GB:Obj:=bq nY nY 911 333 3 552 917
def Il:Obj:=bq tL tL 920 345 1 559 926
def Kq:Obj:=bq sW sW 931 350 2 566 936
def GM:Obj:=bq sX sX 939 354 2 573 945
def Iu:Obj:=bq uH uH 948 358 4 580 955
def IE:Obj:=bq sQ sQ 958 362 1 587 963
def IT:Obj:=bq u6 u6 966 366 2 594 973
def IY:Obj:=bq t8 t8 976 370 2 601 982
def HA:Obj:=bq sG sG 985 374 2 608 992
def K0:Obj:=bq tN tN 995 382 2 615 1005
def Kv:Obj:=fI P n1 929 82
def HV:Obj:=jJ wW 1008 403 1 622
def JT:Obj:=bq rZ rZ 1014 407 1 627 1019
def MB:Obj:=bq uk uk 1022 418 1 634 1028
def Mw:Obj:=bq uw uw 1031 427 2 641 1037
def Nh:Obj:=bq uF uF 1040 438 2 648 1047
def Ii:Obj:=bq vb vb 1050 456 1 655 1055
def JZ:Obj:=bq uQ uQ 1058 473 2 662 1066
def G2:Obj:=bq n0 n0 1069 485 3 669 1077
def Jt:Obj:=bq uP uP 1080 493 1 676 1090
def zk(s:aw)(m:Str)(t c:Nat):Obj:=fo (dn s) (dn s) s vN vN vN (.str m t) none (.ref c) vN
def l0:List Obj:=boot_o_0 P::boot_o_1 P::boot_o_2 P::boot_o_3 P::boot_o_4 P::boot_o_5 P::boot_o_6 P::boot_o_7 P::boot_o_8 P::boot_o_9 P::boot_o_10 P::a0::a1::(gZ aba 182 1 11)::(iu M2 13 3 164)::[]
def l1:List Obj:=(((l0 P).set 3 ((fI P n9 194 10))).set 12 ((fL 6)))++(a0::a1::(ib tM 190)::a0::(bF tT 0)::(bq tT tT 187 1 1 15 191)::(bG tT M2 0 164 20)::(bW (.type "tuple") none (iX #[(.type "ValueError")] 0) #[])::eM::(lE P dZ 203 5 29)::a0::a1::(gZ dZ 198 5 25)::(iu n9 27 24 194)::a0::Ib P::(bW (.type "type") none (kH (kF dZ [(.type "ValueError")] [(.ref 31),(.type "ValueError"),(.type "Exception"),(.type "BaseException"),(.type "object")] 30 dZ true [] [] false none false)) #[(some (.ref 22)),none,(some (.str dZ 196)),(some (.str dZ 204)),(some (.builtin "ValueError.__new__")),(some (.bool .true))])::nW::(iI 31)::(iN 31)::[])
def l2:List Obj:=((((l1 P).set 3 ((fI P n9 194 11))).set 12 ((fL 9))).set 31 ((bW (.type "type") none (kH (kF dZ [(.type "ValueError")] [(.ref 31),(.type "ValueError"),(.type "Exception"),(.type "BaseException"),(.type "object")] 30 dZ true [] [(.ref 44)] false none false)) #[(some (.ref 22)),none,(some (.str dZ 196)),(some (.str dZ 204)),(some (.builtin "ValueError.__new__")),(some (.bool .true))])))++(mJ::eM::(lE P wz 221 7 42)::a0::a1::(gZ wz 216 7 38)::(iu n9 40 37 194)::a0::GS P::Nr::(iI 44)::(iN 44)::[])
def l3:List Obj:=((((l2 P).set 3 ((fI P n9 194 12))).set 12 ((fL 12))).set 31 ((bW (.type "type") none (kH (kF dZ [(.type "ValueError")] [(.ref 31),(.type "ValueError"),(.type "Exception"),(.type "BaseException"),(.type "object")] 30 dZ true [] [(.ref 44),(.ref 56)] false none false)) #[(some (.ref 22)),none,(some (.str dZ 196)),(some (.str dZ 204)),(some (.builtin "ValueError.__new__")),(some (.bool .true))])))++(mJ::eM::(lE P n5 237 9 54)::a0::a1::(gZ n5 232 9 50)::(iu n9 52 49 194)::a0::Gu P::MT::(iI 56)::(iN 56)::[])
def l4:List Obj:=((((l3 P).set 3 ((fI P n9 194 13))).set 12 ((fL 15))).set 31 ((bW (.type "type") none (kH (kF dZ [(.type "ValueError")] [(.ref 31),(.type "ValueError"),(.type "Exception"),(.type "BaseException"),(.type "object")] 30 dZ true [] [(.ref 44),(.ref 56),(.ref 68)] false none false)) #[(some (.ref 22)),none,(some (.str dZ 196)),(some (.str dZ 204)),(some (.builtin "ValueError.__new__")),(some (.bool .true))])))++(mJ::eM::(lE P yW 253 11 66)::a0::a1::(gZ yW 248 11 62)::(iu n9 64 61 194)::a0::Kh P::MC::(iI 68)::(iN 68)::[])
def l5:List Obj:=((((l4 P).set 3 ((fI P n9 194 14))).set 12 ((fL 18))).set 31 ((sZ 4)))++(mJ::eM::(lE P wI 269 13 78)::a0::a1::(gZ wI 264 13 74)::(iu n9 76 73 194)::a0::M6 P::HB::(iI 80)::(iN 80)::[])
def l6:List Obj:=((((l5 P).set 3 ((fI P n9 194 15))).set 12 ((fL 21))).set 31 ((sZ 5)))++(mJ::eM::(lE P wM 285 15 90)::a0::a1::(gZ wM 280 15 86)::(iu n9 88 85 194)::a0::Hq P::JN::(iI 92)::(iN 92)::[])
def l7:List Obj:=((((l6 P).set 3 ((fI P n9 194 16))).set 12 ((fL 24))).set 31 ((sZ 6)))++(mJ::eM::(lE P yK 301 17 102)::a0::a1::(gZ yK 296 17 98)::(iu n9 100 97 194)::a0::GN P::Kw::(iI 104)::(iN 104)::[])
def l8:List Obj:=((((l7 P).set 3 ((fI P n9 194 17))).set 12 ((fL 27))).set 31 ((sZ 7)))++(mJ::eM::(lE P xK 317 19 114)::a0::a1::(gZ xK 312 19 110)::(iu n9 112 109 194)::a0::Jr P::Km::(iI 116)::(iN 116)::[])
def l9:List Obj:=((((l8 P).set 3 ((fI P cf 351 21))).set 12 ((fL 39))).set 31 (Ik))++(mJ::eM::(lE P yc 333 21 126)::a0::a1::(gZ yc 328 21 122)::(iu n9 124 121 194)::a0::M5 P::Nn::(iI 128)::(iN 128)::a0::a1::(ib Tf 347)::a0::(bF sS 12)::HD::(bG sS J5 12 342 136)::a0::a1::(dg mr lB 356)::a0::(bF sI 14)::LU::(bG sI cf 14 351 143)::a0::a1::(ib mr 364)::a0::(bF uI 15)::Lv::(bG uI cf 15 351 150)::[])
def qz:List Obj:=(((l9 P).set 3 ((fI P cf 351 22))).set 12 ((fL 42)))++(a0::eM::(Bk P jm im tH 375 37 387 165 394 401 417)::a0::(Eb 39 164 42 48)::(gZ jm 370 37 155)::(iu cf 157 154 351)::a0::a1::(dg eH kT 383)::a0::(eN im Ct 16 0)::(bq im Ct 380 39 2 159 385)::(eK im Ct cf 16 0 351 164)::a0::a1::(ib eH 391)::a0::(eN tH Do 16 1)::(bq tH Do 388 42 1 166 392)::(eK tH Do cf 16 1 351 171)::a0::a1::(ib eH 398)::a0::(eN gY EU 16 2)::(bq gY EU 395 45 1 173 399)::(eK gY EU cf 16 2 351 178)::a0::a1::(ib eH 405)::a0::(eN jg B3 16 3)::(bq jg B3 402 48 1 180 406)::(eK jg B3 cf 16 3 351 185)::a0::a1::(dg eH xF 412)::a0::(eN jh Bc 16 4)::(bq jh Bc 409 51 2 187 414)::(eK jh Bc cf 16 4 351 192)::a0::HC P::(Iq jm 196 195 368)::LS::GA::(iI 196)::(iN 196)::[])
def C6:List Obj:=((((qz P).set 3 ((fI P cf 351 23))).set 12 ((fL 45))).set 196 ((bW (.type "type") none (kH (kF jm [(.type "object")] [(.ref 196),(.type "object")] 195 jm true [] [(.ref 245)] false none false)) #[none,none,(some (.str jm 368)),(some (.str jm 376)),(some (.builtin "object.__new__")),(some (.bool .true))])))++(MM::eM::(Bk P yp iq im 432 53 445 214 453 461 479)::a0::(Eb 55 213 61 70)::(gZ yp 427 53 204)::(iu cf 206 203 351)::a0::a1::(jz eH mr lB 440)::a0::(eN iq BA 17 0)::J7::(eK iq BA cf 17 0 351 213)::a0::a1::(dg eH kT 449)::a0::(eN im Eo 17 1)::Gz::(eK im Eo cf 17 1 351 220)::a0::a1::(dg eH lB 457)::a0::(eN gY EX 17 2)::Mp::(eK gY EX cf 17 2 351 227)::a0::a1::(ib eH 465)::a0::(eN jg Dw 17 3)::Hb::(eK jg Dw cf 17 3 351 234)::a0::a1::(dg eH xF 472)::a0::(eN jh DO 17 4)::Mr::(eK jh DO cf 17 4 351 241)::(dg lB mr 477)::Js P::ND::(iI 245)::(iN 245)::[])
def xi:List Obj:=((((C6 P).set 3 ((fI P cf 351 24))).set 12 ((fL 48))).set 196 (Nx))++(MM::eM::(Bk P wD iq im 490 75 502 261 510 517 534)::a0::(Eb 77 260 82 90)::(gZ wD 485 75 251)::(iu cf 253 250 351)::a0::a1::(dg eH mr 498)::a0::(eN iq CY 18 0)::Jk::(eK iq CY cf 18 0 351 260)::a0::a1::(dg eH kT 506)::a0::(eN im Eh 18 1)::HE::(eK im Eh cf 18 1 351 267)::a0::a1::(ib eH 514)::a0::(eN gY Bo 18 2)::IJ::(eK gY Bo cf 18 2 351 274)::a0::a1::(ib eH 521)::a0::(eN jg EC 18 3)::NN::(eK jg EC cf 18 3 351 281)::a0::a1::(dg eH xF 528)::a0::(eN jh Dx 18 4)::Gn::(eK jh Dx cf 18 4 351 288)::(ib mr 533)::LN P::LH::(iI 292)::(iN 292)::[])
def zJ:List Obj:=(((xi P).set 3 ((fI P Bh 638 35))).set 12 ((fL 78)))++(ID::a0::a1::(ib mM 541)::a0::(bF oV 19)::Jw::(fo oV oV (tF 19) (.ref 295) vN vN (.str cf 351) none (.ref 301) vN)::MP P::a0::a1::(dg y9 tJ 560)::a0::(bF sF 22)::Jf::(bG sF kC 22 545 309)::a0::a1::(vY y9 tJ SQ EF AV wo Ek 568)::a0::(bF tu 23)::NC::(bG tu kC 23 545 316)::a0::a1::(lO wo Ek BB YV 581)::a0::(bF uu 24)::IH::(bG uu kC 24 545 323)::a0::a1::(bW (.type "tuple") none (iX #[(.str wo 591),(.str Ek 592),(.str EF 593),(.str UD 594),(.str acE 595),(.str gY 596)] 0) #[])::a0::(bF ut 25)::KD::(bG ut kC 25 545 330)::a0::a1::(ib BB 603)::a0::(bF uD 26)::MU::(bG uD kC 26 545 337)::a0::a1::(jz kU tJ abk 612)::a0::(bF vf 28)::NT::(bG vf wX 28 607 344)::a0::a1::(bF zh 29)::IP::(bG zh wX 29 607 349)::a0::a1::(bF n7 31)::IB::(bG n7 vZ 31 624 354)::a0::a1::(bF vW 32)::MD::(bG vW vZ 32 624 359)::[])
def Cw:List Obj:=(((zJ P).set 3 ((fI P fX 694 49))).set 12 ((fL 111)))++(a0::a1::(bF xy 34)::IG::(bG xy Bh 34 638 364)::a0::a1::(dg kU mM 651)::a0::(bF nQ 36)::JB::(bG nQ qI 36 646 371)::a0::a1::(dg kU mM 659)::a0::(bF oY 37)::Hs::(bG oY qI 37 646 378)::a0::a1::(bW (.type "tuple") none (iX #[(.str kU 667),(.str mM 668),(.str YN 669),(.str BB 670),(.str nY 671),(.str y9 672),(.str gY 673),(.str XM 674)] 0) #[])::a0::(bF ur 38)::GG::(bG ur qI 38 646 385)::a0::a1::(bF xM 40)::HY::(bG xM wV 40 678 390)::a0::a1::(dg y9 AV 689)::a0::(bF tI 41)::Lj::(bG tI wV 41 678 397)::a0::a1::(bF wm 46)::NI::(bG wm fX 46 694 402)::a0::a1::(jz wo nY Zu 711)::a0::(bF tR 47)::Iv::(bG tR fX 47 694 409)::a0::a1::(bF yv 48)::NL::(bG yv fX 48 694 414)::a0::a1::(dg ux CB 726)::a0::(bF uy 49)::Nv::(bG uy fX 49 694 421)::a0::a1::(lO ux CB mr Ni 734)::a0::(bF t4 50)::Jj::(bG t4 fX 50 694 428)::[])
def D3:List Obj:=(((Cw P).set 3 ((fI P dE 805 60))).set 12 ((fL 135)))++(a0::a1::(ib ux 744)::a0::(bF u7 51)::Jz::(bG u7 fX 51 694 435)::a0::a1::(dg ux lB 751)::a0::(bF uh 52)::L7::(bG uh fX 52 694 442)::a0::a1::(bF yb 53)::Lo::(bG yb fX 53 694 447)::a0::a1::(jz Si xF mM 767)::a0::(bF kY 55)::Lm::(bG kY j9 55 762 454)::a0::a1::(dg kU mM 776)::a0::(bF tO 56)::Iz::(bG tO j9 56 762 461)::a0::a1::(dg kU mM 784)::a0::(bF nU 57)::Nf::(bG nU j9 57 762 468)::a0::a1::(bF vV 58)::MZ::(bG vV j9 58 762 473)::a0::a1::(lO abL VE Yu lB 798)::a0::(bF sT 59)::ME::(bG sT j9 59 762 480)::Lp::JQ::[])
def EA:List Obj:=(((D3 P).set 3 ((fI P dE 805 61))).set 12 ((fL 138)))++(a0::eM::(bW (.type "dict") none (jN #[(en P n8 829 (.str dE 805)),(en P CC 831 (.str ye 830)),(en P jK 833 (.int 265 832)),(en P iq 840 (.ref 497)),(en P tZ 850 (.ref 504)),(en P sJ 858 (.ref 511)),(en P uK 866 (.ref 518)),(en P uM 875 (.ref 525)),(en P uU 883 (.ref 532)),(en P lJ 886 (.ref 533))] 10) #[])::a0::(bW vN none (iW #[(.int 267 0),(.int 4 0),(.ref 496),(.int 271 0),(.int 4 0),(.ref 503),(.int 286 0),(.int 4 0),(.ref 510),(.int 290 0),(.int 4 0),(.ref 517),(.int 296 0),(.int 4 0),(.ref 524),(.int 304 0),(.int 4 0),(.ref 531)]) #[])::(gZ ye 824 265 487)::(iu dE 489 486 805)::a0::a1::(ib eH 837)::a0::(eN iq DA 64 0)::Kt::(eK iq DA dE 64 0 805 496)::a0::a1::(lO eH mL Zg n3 844)::a0::(eN tZ Cv 64 1)::Kr::(eK tZ Cv dE 64 1 805 503)::a0::a1::(dg eH mM 854)::a0::(eN sJ EY 64 2)::MQ::(eK sJ EY dE 64 2 805 510)::a0::a1::(dg eH n3 862)::a0::(eN uK Dn 64 3)::Nc::(eK uK Dn dE 64 3 805 517)::a0::a1::(jz eH kT kU 870)::a0::(eN uM DG 64 4)::Mo::(eK uM DG dE 64 4 805 524)::a0::a1::(dg eH kT 879)::a0::(eN uU Ck 64 5)::Nj::(eK uU Ck dE 64 5 805 531)::(dg kU tJ 884)::II P::Lh::NR::JX::(iI 535)::(iN 535)::[])
def Ep:List Obj:=(((EA P).set 3 ((fI P n1 929 73))).set 12 ((fL 174)))++(a0::a1::(Ds mL CB n3 aas Ni 897)::a0::(bF sw 65)::Mx::(bG sw dE 65 805 545)::a0::a1::(bF xu 66)::M9::(bG xu dE 66 805 550)::a0::a1::(jz n3 kU tJ 914)::a0::(bF nY 67)::GB::(bG nY dE 67 805 557)::a0::a1::(jz Df kT YQ 923)::a0::(bF tL 68)::Il::(bG tL dE 68 805 564)::a0::a1::(dg G4 tM 934)::a0::(bF sW 70)::Kq::(bG sW n1 70 929 571)::a0::a1::(jz nX tM kT 942)::a0::(bF sX 71)::GM::(bG sX n1 71 929 578)::a0::a1::(lO nX qp tM Sa 951)::a0::(bF uH 72)::Iu::(bG uH n1 72 929 585)::a0::a1::(dg kT aaB 961)::a0::(bF sQ 73)::IE::(bG sQ n1 73 929 592)::a0::a1::(lO nX qp Ht JD 969)::a0::(bF u6 74)::IT::(bG u6 n1 74 929 599)::a0::a1::(jz nX qp JD 979)::a0::(bF t8 75)::IY::(bG t8 n1 75 929 606)::a0::a1::(lO nX qp TX KB 988)::a0::(bF sG 76)::HA::(bG sG n1 76 929 613)::a0::a1::(vY nX qp mL Ht AV Yz KB 998)::a0::(bF tN 77)::K0::(bG tN n1 77 929 620)::[])
def dH:List Obj:=(((Ep P).set 3 (Kv P)).set 12 ((fL 201)))++(a0::a1::(bF wW 78)::HV::(bG wW n1 78 929 625)::a0::a1::(dg mL A7 1017)::a0::(bF rZ 79)::JT::(bG rZ n1 79 929 632)::a0::a1::(jz ux GC Bd 1025)::a0::(bF uk 80)::MB::(bG uk n1 80 929 639)::a0::a1::(jz A7 Ez kT 1034)::a0::(bF uw 81)::Mw::(bG uw n1 81 929 646)::a0::a1::(lO mL Ez A7 UR 1043)::a0::(bF uF 82)::Nh::(bG uF n1 82 929 653)::a0::a1::(dg Bd ab6 1053)::a0::(bF vb 83)::Ii::(bG vb n1 83 929 660)::a0::a1::(Ds GK mL GC Df Bd 1061)::a0::(bF uQ 84)::JZ::(bG uQ n1 84 929 667)::a0::a1::(Ds GK mL Ez EF Df 1072)::a0::(bF n0 85)::G2::(bG n0 n1 85 929 674)::a0::a1::(vY G4 abY XX qp nX mL tM 1083)::a0::(bF uP 86)::Jt::(bG uP n1 86 929 681)::[])
end
theorem h0(w:av)(os:bL):E1 cR pF w 11 (some (.ref 6)) 12 ⟨boot_heap w.params,ng,boot_drawn,boot_toks,os⟩ (topStub pF)=some (Se (l0 w.params) 187 os,⟨DQ cR (.body (behindTheImports pF) ev),.body (behindTheImports pF) ev,⟨0,0,0,0⟩,[topFrame ⟨0,0,0,0⟩]⟩):=by kernel_rfl
theorem h1(w:av)(os:bL)(p:aG):xp cR p w 11 (some (.ref 6)) 1 1 (Se (l0 w.params) 187 os) (blockOf (behindTheImports pF) ev (.body (behindTheImports pF) ev) ⟨0,0,0,0⟩ [topFrame ⟨0,0,0,0⟩])=some (.next,(St (l0 w.params) 15 187 os).abs,.body (behindTheImports pF) ev,⟨0,0,0,0⟩):=by kernel_rfl
theorem g0(w:av)(os:bL)(p:aG)(b:List aw):eO cR p w 11 (some (.ref 6)) 1 225 (St (l0 w.params) 15 187 os) (piecesOf (cu (behindTheImports pF) 0 3) ev (.body b ev) ⟨0,0,0,0⟩ [topFrame ⟨0,0,0,0⟩])=some (.next,St (l1 w.params) 35 214 os,.body b ev,⟨5,0,6,8⟩):=by kernel_rfl
theorem g1(w:av)(os:bL)(p:aG)(b:List aw):eO cR p w 11 (some (.ref 6)) 1 214 (St (l1 w.params) 35 214 os) (piecesOf (cu (behindTheImports pF) 3 1) ev (.body b ev) ⟨5,0,6,8⟩ [topFrame ⟨0,0,0,0⟩])=some (.next,St (l2 w.params) 47 230 os,.body b ev,⟨7,0,8,8⟩):=by kernel_rfl
theorem g2(w:av)(os:bL)(p:aG)(b:List aw):eO cR p w 11 (some (.ref 6)) 1 214 (St (l2 w.params) 47 230 os) (piecesOf (cu (behindTheImports pF) 4 1) ev (.body b ev) ⟨7,0,8,8⟩ [topFrame ⟨0,0,0,0⟩])=some (.next,St (l3 w.params) 59 246 os,.body b ev,⟨9,0,10,8⟩):=by kernel_rfl
theorem g3(w:av)(os:bL)(p:aG)(b:List aw):eO cR p w 11 (some (.ref 6)) 1 214 (St (l3 w.params) 59 246 os) (piecesOf (cu (behindTheImports pF) 5 1) ev (.body b ev) ⟨9,0,10,8⟩ [topFrame ⟨0,0,0,0⟩])=some (.next,St (l4 w.params) 71 262 os,.body b ev,⟨11,0,12,8⟩):=by kernel_rfl
theorem g4(w:av)(os:bL)(p:aG)(b:List aw):eO cR p w 11 (some (.ref 6)) 1 214 (St (l4 w.params) 71 262 os) (piecesOf (cu (behindTheImports pF) 6 1) ev (.body b ev) ⟨11,0,12,8⟩ [topFrame ⟨0,0,0,0⟩])=some (.next,St (l5 w.params) 83 278 os,.body b ev,⟨13,0,14,8⟩):=by kernel_rfl
theorem g5(w:av)(os:bL)(p:aG)(b:List aw):eO cR p w 11 (some (.ref 6)) 1 214 (St (l5 w.params) 83 278 os) (piecesOf (cu (behindTheImports pF) 7 1) ev (.body b ev) ⟨13,0,14,8⟩ [topFrame ⟨0,0,0,0⟩])=some (.next,St (l6 w.params) 95 294 os,.body b ev,⟨15,0,16,8⟩):=by kernel_rfl
theorem g6(w:av)(os:bL)(p:aG)(b:List aw):eO cR p w 11 (some (.ref 6)) 1 214 (St (l6 w.params) 95 294 os) (piecesOf (cu (behindTheImports pF) 8 1) ev (.body b ev) ⟨15,0,16,8⟩ [topFrame ⟨0,0,0,0⟩])=some (.next,St (l7 w.params) 107 310 os,.body b ev,⟨17,0,18,8⟩):=by kernel_rfl
theorem g7(w:av)(os:bL)(p:aG)(b:List aw):eO cR p w 11 (some (.ref 6)) 1 214 (St (l7 w.params) 107 310 os) (piecesOf (cu (behindTheImports pF) 9 1) ev (.body b ev) ⟨17,0,18,8⟩ [topFrame ⟨0,0,0,0⟩])=some (.next,St (l8 w.params) 119 326 os,.body b ev,⟨19,0,20,8⟩):=by kernel_rfl
theorem g8(w:av)(os:bL)(p:aG)(b:List aw):eO cR p w 11 (some (.ref 6)) 1 320 (St (l8 w.params) 119 326 os) (piecesOf (cu (behindTheImports pF) 10 6) ev (.body b ev) ⟨19,0,20,8⟩ [topFrame ⟨0,0,0,0⟩])=some (.next,St (l9 w.params) 152 368 os,.body b ev,⟨33,0,36,29⟩):=by kernel_rfl
theorem g9(w:av)(os:bL)(p:aG)(b:List aw):eO cR p w 11 (some (.ref 6)) 1 347 (St (l9 w.params) 152 368 os) (piecesOf (cu (behindTheImports pF) 16 1) ev (.body b ev) ⟨33,0,36,29⟩ [topFrame ⟨0,0,0,0⟩])=some (.next,St (qz w.params) 201 425 os,.body b ev,⟨37,0,52,68⟩):=by kernel_rfl
theorem Xw(w:av)(os:bL)(p:aG)(b:List aw):eO cR p w 11 (some (.ref 6)) 1 375 (St (qz w.params) 201 425 os) (piecesOf (cu (behindTheImports pF) 17 1) ev (.body b ev) ⟨37,0,52,68⟩ [topFrame ⟨0,0,0,0⟩])=some (.next,St (C6 w.params) 248 483 os,.body b ev,⟨53,0,74,94⟩):=by kernel_rfl
theorem Tq(w:av)(os:bL)(p:aG)(b:List aw):eO cR p w 11 (some (.ref 6)) 1 372 (St (C6 w.params) 248 483 os) (piecesOf (cu (behindTheImports pF) 18 1) ev (.body b ev) ⟨53,0,74,94⟩ [topFrame ⟨0,0,0,0⟩])=some (.next,St (xi w.params) 295 538 os,.body b ev,⟨75,0,94,64⟩):=by kernel_rfl
theorem WV(w:av)(os:bL)(p:aG)(b:List aw):eO cR p w 11 (some (.ref 6)) 1 391 (St (xi w.params) 295 538 os) (piecesOf (cu (behindTheImports pF) 19 15) ev (.body b ev) ⟨75,0,94,64⟩ [topFrame ⟨0,0,0,0⟩])=some (.next,St (zJ w.params) 361 640 os,.body b ev,⟨169,0,169,8⟩):=byRow2 "special-get-raises" (P:=fun w=>∀(os:bL) (p:aG) (b:List aw),eO cR p w 11 (some (.ref 6)) 1 391 (St (xi w.params) 295 538 os) (piecesOf (cu (behindTheImports pF) 19 15) ev (.body b ev) ⟨75,0,94,64⟩ [topFrame ⟨0,0,0,0⟩])=some (.next,St (zJ w.params) 361 640 os,.body b ev,⟨169,0,169,8⟩)) (fun w os p b=>by kernel_rfl) (fun w os p b=>by kernel_rfl) w os p b
theorem QH(w:av)(os:bL)(p:aG)(b:List aw):eO cR p w 11 (some (.ref 6)) 1 378 (St (zJ w.params) 361 640 os) (piecesOf (cu (behindTheImports pF) 34 17) ev (.body b ev) ⟨169,0,169,8⟩ [topFrame ⟨0,0,0,0⟩])=some (.next,St (Cw w.params) 430 741 os,.body b ev,⟨218,0,226,55⟩):=by kernel_rfl
theorem Rq(w:av)(os:bL)(p:aG)(b:List aw):eO cR p w 11 (some (.ref 6)) 1 293 (St (Cw w.params) 430 741 os) (piecesOf (cu (behindTheImports pF) 51 13) ev (.body b ev) ⟨218,0,226,55⟩ [topFrame ⟨0,0,0,0⟩])=some (.next,St (D3 w.params) 484 822 os,.body b ev,⟨264,0,264,10⟩):=by kernel_rfl
theorem YJ(w:av)(os:bL)(p:aG)(b:List aw):eO cR p w 11 (some (.ref 6)) 1 386 (St (D3 w.params) 484 822 os) (piecesOf (cu (behindTheImports pF) 64 1) ev (.body b ev) ⟨264,0,264,10⟩ [topFrame ⟨0,0,0,0⟩])=some (.next,St (EA w.params) 540 894 os,.body b ev,⟨265,0,308,35⟩):=by kernel_rfl
theorem VT(w:av)(os:bL)(p:aG)(b:List aw):eO cR p w 11 (some (.ref 6)) 1 384 (St (EA w.params) 540 894 os) (piecesOf (cu (behindTheImports pF) 65 13) ev (.body b ev) ⟨265,0,308,35⟩ [topFrame ⟨0,0,0,0⟩])=some (.next,St (Ep w.params) 622 1008 os,.body b ev,⟨382,0,402,16⟩):=by kernel_rfl
theorem Wv(w:av)(os:bL)(p:aG)(b:List aw):eO cR p w 11 (some (.ref 6)) 1 282 (St (Ep w.params) 622 1008 os) (piecesOf (cu (behindTheImports pF) 78 9) ev (.body b ev) ⟨382,0,402,16⟩ [topFrame ⟨0,0,0,0⟩])=some (.next,St (dH w.params) 683 1093 os,.body b ev,⟨493,0,507,63⟩):=by kernel_rfl
theorem hf(w:av)(os:bL)(p:aG)(b:List aw):DJ cR p w 11 (some (.ref 6)) 2 (St (dH w.params) 683 1093 os).abs ⟨doneF .next,.body b ev,⟨493,0,507,63⟩,[topFrame ⟨0,0,0,0⟩]⟩=some (Se (dH w.params) 1093 os):=by kernel_rfl
theorem bd:behindTheImports pF=cu (behindTheImports pF) 0 3++(cu (behindTheImports pF) 3 1++(cu (behindTheImports pF) 4 1++(cu (behindTheImports pF) 5 1++(cu (behindTheImports pF) 6 1++(cu (behindTheImports pF) 7 1++(cu (behindTheImports pF) 8 1++(cu (behindTheImports pF) 9 1++(cu (behindTheImports pF) 10 6++(cu (behindTheImports pF) 16 1++(cu (behindTheImports pF) 17 1++(cu (behindTheImports pF) 18 1++(cu (behindTheImports pF) 19 15++(cu (behindTheImports pF) 34 17++(cu (behindTheImports pF) 51 13++(cu (behindTheImports pF) 64 1++(cu (behindTheImports pF) 65 13++(cu (behindTheImports pF) 78 9++([])))))))))))))))))):=by kernel_rfl
theorem run(w:av)(os:bL):topRun gR pF w 11 (some (.ref 6)) (12+(1+(225+(214+(214+(214+(214+(214+(214+(214+(320+(347+(375+(372+(391+(378+(293+(386+(384+(282+(2))))))))))))))))))))) ⟨boot_heap w.params,ng,boot_drawn,boot_toks,os⟩ (topStub pF)=some (Se (dH w.params) 1093 os):=
 first (h0 w os) (QU (h1 w os _) bd (fE (g0 w os _ _) (fE (g1 w os _ _) (fE (g2 w os _ _) (fE (g3 w os _ _) (fE (g4 w os _ _) (fE (g5 w os _ _) (fE (g6 w os _ _) (fE (g7 w os _ _) (fE (g8 w os _ _) (fE (g9 w os _ _) (fE (Xw w os _ _) (fE (Tq w os _ _) (fE (WV w os _ _) (fE (QH w os _ _) (fE (Rq w os _ _) (fE (YJ w os _ _) (fE (VT w os _ _) (fE (Wv w os _ _) (R6 (hf w os _ _)))))))))))))))))))))
def KK:nr→aq:=fun P=>
 (nat_lit 2,boot_o_2 P) ::
 (nat_lit 3,Kv P) ::
 (nat_lit 30,Ib P) ::
 (nat_lit 31,Ik) ::
 (nat_lit 32,nW) ::
 (nat_lit 43,GS P) ::
 (nat_lit 44,Nr) ::
 (nat_lit 55,Gu P) ::
 (nat_lit 56,MT) ::
 (nat_lit 67,Kh P) ::
 (nat_lit 68,MC) ::
 (nat_lit 79,M6 P) ::
 (nat_lit 80,HB) ::
 (nat_lit 91,Hq P) ::
 (nat_lit 92,JN) ::
 (nat_lit 103,GN P) ::
 (nat_lit 104,Kw) ::
 (nat_lit 115,Jr P) ::
 (nat_lit 116,Km) ::
 (nat_lit 127,M5 P) ::
 (nat_lit 128,Nn) ::
 (nat_lit 136,HD) ::
 (nat_lit 137,zk Be J5 342 136) ::
 (nat_lit 143,LU) ::
 (nat_lit 144,zk El cf 351 143) ::
 (nat_lit 150,Lv) ::
 (nat_lit 151,zk C8 cf 351 150) ::
 (nat_lit 195,HC P) ::
 (nat_lit 196,Nx) ::
 (nat_lit 197,LS) ::
 (nat_lit 198,GA) ::
 (nat_lit 213,J7) ::
 (nat_lit 214,fo (dn wg) (sq [72,97,108,102,46,95,95,105,110,105,116,95,95]) wg vN vN vN (.str cf 351) none (.ref 213) vN) ::
 (nat_lit 220,Gz) ::
 (nat_lit 221,fo (dn zy) (sq [72,97,108,102,46,104,111,108,100,115]) zy vN vN vN (.str cf 351) none (.ref 220) vN) ::
 (nat_lit 227,Mp) ::
 (nat_lit 228,fo (dn ym) (sq [72,97,108,102,46,104,97,108,118,101,115]) ym vN vN vN (.str cf 351) none (.ref 227) vN) ::
 (nat_lit 234,Hb) ::
 (nat_lit 235,fo (dn yn) (sq [72,97,108,102,46,115,104,111,119,110]) yn vN vN vN (.str cf 351) none (.ref 234) vN) ::
 (nat_lit 241,Mr) ::
 (nat_lit 242,fo (dn xN) (sq [72,97,108,102,46,97,108,105,107,101]) xN vN vN vN (.str cf 351) none (.ref 241) vN) ::
 (nat_lit 244,Js P) ::
 (nat_lit 245,ND) ::
 (nat_lit 260,Jk) ::
 (nat_lit 261,fo (dn xA) (sq [79,112,101,110,46,95,95,105,110,105,116,95,95]) xA vN vN vN (.str cf 351) none (.ref 260) vN) ::
 (nat_lit 267,HE) ::
 (nat_lit 268,fo (dn xw) (sq [79,112,101,110,46,104,111,108,100,115]) xw vN vN vN (.str cf 351) none (.ref 267) vN) ::
 (nat_lit 274,IJ) ::
 (nat_lit 275,fo (dn xZ) (sq [79,112,101,110,46,104,97,108,118,101,115]) xZ vN vN vN (.str cf 351) none (.ref 274) vN) ::
 (nat_lit 281,NN) ::
 (nat_lit 282,fo (dn xS) (sq [79,112,101,110,46,115,104,111,119,110]) xS vN vN vN (.str cf 351) none (.ref 281) vN) ::
 (nat_lit 288,Gn) ::
 (nat_lit 289,fo (dn x9) (sq [79,112,101,110,46,97,108,105,107,101]) x9 vN vN vN (.str cf 351) none (.ref 288) vN) ::
 (nat_lit 291,LN P) ::
 (nat_lit 292,LH) ::
 (nat_lit 295,ID) ::
 (nat_lit 301,Jw) ::
 (nat_lit 302,fo (dn ud) (dn ud) ud (.ref 295) vN vN (.str cf 351) none (.ref 301) vN) ::
 (nat_lit 303,MP P) ::
 (nat_lit 309,Jf) ::
 (nat_lit 310,zk EQ kC 545 309) ::
 (nat_lit 316,NC) ::
 (nat_lit 317,zk B4 kC 545 316) ::
 (nat_lit 323,IH) ::
 (nat_lit 324,zk EO kC 545 323) ::
 (nat_lit 330,KD) ::
 (nat_lit 331,zk Bi kC 545 330) ::
 (nat_lit 337,MU) ::
 (nat_lit 338,zk Ew kC 545 337) ::
 (nat_lit 344,NT) ::
 (nat_lit 345,zk DR wX 607 344) ::
 (nat_lit 349,IP) ::
 (nat_lit 350,zk vX wX 607 349) ::
 (nat_lit 354,IB) ::
 (nat_lit 355,zk yt vZ 624 354) ::
 (nat_lit 359,MD) ::
 (nat_lit 360,zk yi vZ 624 359) ::
 (nat_lit 364,IG) ::
 (nat_lit 365,zk yH Bh 638 364) ::
 (nat_lit 371,JB) ::
 (nat_lit 372,zk Dc qI 646 371) ::
 (nat_lit 378,Hs) ::
 (nat_lit 379,zk BX qI 646 378) ::
 (nat_lit 385,GG) ::
 (nat_lit 386,zk BJ qI 646 385) ::
 (nat_lit 390,HY) ::
 (nat_lit 391,zk zq wV 678 390) ::
 (nat_lit 397,Lj) ::
 (nat_lit 398,zk C3 wV 678 397) ::
 (nat_lit 402,NI) ::
 (nat_lit 403,zk yT fX 694 402) ::
 (nat_lit 409,Iv) ::
 (nat_lit 410,zk BN fX 694 409) ::
 (nat_lit 414,NL) ::
 (nat_lit 415,zk xG fX 694 414) ::
 (nat_lit 421,Nv) ::
 (nat_lit 422,zk DY fX 694 421) ::
 (nat_lit 428,Jj) ::
 (nat_lit 429,zk EG fX 694 428) ::
 (nat_lit 435,Jz) ::
 (nat_lit 436,zk AT fX 694 435) ::
 (nat_lit 442,L7) ::
 (nat_lit 443,zk DI fX 694 442) ::
 (nat_lit 447,Lo) ::
 (nat_lit 448,zk xE fX 694 447) ::
 (nat_lit 454,Lm) ::
 (nat_lit 455,zk D8 j9 762 454) ::
 (nat_lit 461,Iz) ::
 (nat_lit 462,zk Bu j9 762 461) ::
 (nat_lit 468,Nf) ::
 (nat_lit 469,zk B7 j9 762 468) ::
 (nat_lit 473,MZ) ::
 (nat_lit 474,zk y8 j9 762 473) ::
 (nat_lit 480,ME) ::
 (nat_lit 481,zk Dd j9 762 480) ::
 (nat_lit 482,Lp) ::
 (nat_lit 483,JQ) ::
 (nat_lit 496,Kt) ::
 (nat_lit 497,fo (dn yR) (sq [68,101,115,107,46,95,95,105,110,105,116,95,95]) yR vN vN vN (.str dE 805) none (.ref 496) vN) ::
 (nat_lit 503,Kr) ::
 (nat_lit 504,fo (dn yx) (sq [68,101,115,107,46,116,111,108,100]) yx vN vN vN (.str dE 805) none (.ref 503) vN) ::
 (nat_lit 510,MQ) ::
 (nat_lit 511,fo (dn zB) (sq [68,101,115,107,46,98,101,103,105,110]) zB vN vN vN (.str dE 805) none (.ref 510) vN) ::
 (nat_lit 517,Nc) ::
 (nat_lit 518,fo (dn wt) (sq [68,101,115,107,46,114,101,102,117,115,101,95,119,105,116,104,111,117,116,95,108,105,110,101]) wt vN vN vN (.str dE 805) none (.ref 517) vN) ::
 (nat_lit 524,Mo) ::
 (nat_lit 525,fo (dn yy) (sq [68,101,115,107,46,99,111,109,101]) yy vN vN vN (.str dE 805) none (.ref 524) vN) ::
 (nat_lit 531,Nj) ::
 (nat_lit 532,fo (dn xX) (sq [68,101,115,107,46,103,111]) xX vN vN vN (.str dE 805) none (.ref 531) vN) ::
 (nat_lit 534,II P) ::
 (nat_lit 535,Lh) ::
 (nat_lit 536,NR) ::
 (nat_lit 537,JX) ::
 (nat_lit 545,Mx) ::
 (nat_lit 546,zk Bb dE 805 545) ::
 (nat_lit 550,M9) ::
 (nat_lit 551,zk wn dE 805 550) ::
 (nat_lit 557,GB) ::
 (nat_lit 558,zk C0 dE 805 557) ::
 (nat_lit 564,Il) ::
 (nat_lit 565,zk Cd dE 805 564) ::
 (nat_lit 571,Kq) ::
 (nat_lit 572,zk Dl n1 929 571) ::
 (nat_lit 578,GM) ::
 (nat_lit 579,zk Br n1 929 578) ::
 (nat_lit 585,Iu) ::
 (nat_lit 586,zk BR n1 929 585) ::
 (nat_lit 592,IE) ::
 (nat_lit 593,zk DT n1 929 592) ::
 (nat_lit 599,IT) ::
 (nat_lit 600,zk Di n1 929 599) ::
 (nat_lit 606,IY) ::
 (nat_lit 607,zk A8 n1 929 606) ::
 (nat_lit 613,HA) ::
 (nat_lit 614,zk E5 n1 929 613) ::
 (nat_lit 620,K0) ::
 (nat_lit 621,zk DM n1 929 620) ::
 (nat_lit 625,HV) ::
 (nat_lit 626,zk wY n1 929 625) ::
 (nat_lit 632,JT) ::
 (nat_lit 633,zk EK n1 929 632) ::
 (nat_lit 639,MB) ::
 (nat_lit 640,zk DX n1 929 639) ::
 (nat_lit 646,Mw) ::
 (nat_lit 647,zk Ce n1 929 646) ::
 (nat_lit 653,Nh) ::
 (nat_lit 654,zk Dp n1 929 653) ::
 (nat_lit 660,Ii) ::
 (nat_lit 661,zk Dq n1 929 660) ::
 (nat_lit 667,JZ) ::
 (nat_lit 668,zk Bl n1 929 667) ::
 (nat_lit 674,G2) ::
 (nat_lit 675,zk Ef n1 929 674) ::
 (nat_lit 681,Jt) ::
 (nat_lit 682,zk BZ n1 929 681)::[]
def KA:List Addr:=2::3::30::31::32::43::44::55::56::67::68::79::80::91::92::103::104::115::116::127::128::136::137::143::144::150::151::195::196::197::198::213::214::220::221::227::228::234::235::241::242::244::245::260::261::267::268::274::275::281::282::288::289::291::292::295::301::302::303::309::310::316::317::323::324::330::331::337::338::344::345::349::350::354::355::359::360::364::365::371::372::378::379::385::386::390::391::397::398::402::403::409::410::414::415::421::422::428::429::435::436::442::443::447::448::454::455::461::462::468::469::473::474::480::481::482::483::496::497::503::504::510::511::517::518::524::525::531::532::534::535::536::537::545::546::550::551::557::558::564::565::571::572::578::579::585::586::592::593::599::600::606::607::613::614::620::621::625::626::632::633::639::640::646::647::653::654::660::661::667::668::674::675::681::682::[]
def Q(p:aG):aG:={p with main:={p.main with body:=pk [0,2,3,4,5,6,7,8,9,10,12,14,15,16,17,18,21,22,23,24,25,26,28,29,31,32,34,36,37,38,40,41,43,44,45,46,47,48,49,50,51,52,53,55,56,57,58,59,61,62,63,64,65,66,67,68,70,71,72,73,74,75,76,77,78,79,80,81,82,83,84,85,86] p.main.body}}
def lo:List Str:=[oV,KH]
theorem i0(w:av)(os:bL):(staticsOk (uO pF.main.body) (boot_heap w.params) (Se (dH w.params) 1093 os).heap&&namesBound pF (Se (dH w.params) 1093 os).heap&&gensDone (Se (dH w.params) 1093 os)&&laidKept (boot_heap w.params) (Se (dH w.params) 1093 os).heap)=true:=by kernel_rfl
theorem i1(w:av)(os:bL):Co (nu (fun x=>x.name) (uf (Q pF))) (Bq (Q pF)) [] (Se (dH w.params) 1093 os)=expectedOf (Q pF):=by kernel_rfl
theorem i2(w:av)(os:bL):(Se (dH w.params) 1093 os).heap.bltView=PL:=by kernel_rfl
theorem i3(w:av)(os:bL):(BL (Se (dH w.params) 1093 os).heap (lM (Q pF) lo) (nu (fun x=>x.name) (uf (Q pF))) (nu (fun x=>x.fst) (Cc (Q pF))) (nu (fun x=>x.name) (C5 (Q pF) (lM (Q pF) lo)))&&Bm (Se (dH w.params) 1093 os).heap (uO pF.main.body)&&(Se (dH w.params) 1093 os).heap.isNs fV&&(Se (dH w.params) 1093 os).heap.isNs rP&&EB (Q pF) (Se (dH w.params) 1093 os).heap&&(xlAt (Q pF) [] (Se (dH w.params) 1093 os)&&recOk [] (Se (dH w.params) 1093 os)))=true:=by kernel_rfl
theorem i4(w:av)(os:bL):CI (Q pF) (Se (dH w.params) 1093 os)=true:=by kernel_rfl
theorem i5(w:av)(os:bL):AX (Q pF) (sj (Q pF)) (Se (dH w.params) 1093 os)=pinGoodD (sj (Q pF)):=by kernel_rfl
theorem i6(w:av)(os:bL):AY (Q pF) (lM (Q pF) lo) (Se (dH w.params) 1093 os)=plainGoodE (Q pF) (lM (Q pF) lo):=by kernel_rfl
theorem i7(w:av)(os:bL):DK (Q pF) lo (Se (dH w.params) 1093 os)=plainGoodD (Q pF) lo:=by kernel_rfl
theorem i8(w:av)(os:bL):CJ (Q pF) (Se (dH w.params) 1093 os)=wideGood (Q pF):=by kernel_rfl
theorem i9(w:av)(os:bL):EH (Q pF) lo (Se (dH w.params) 1093 os)=clsGoodW (Q pF) lo:=by kernel_rfl
theorem ia(w:av)(os:bL):Hook.obs (kHook KK KA (fun _=>by kernel_rfl)) (Se (dH w.params) 1093 os)=Hook.val (kHook KK KA (fun _=>by kernel_rfl)) w:=by kernel_rfl
theorem io:opening pF=plainProg pF.main.scope.names:=by kernel_rfl
theorem ifn(s:Shared):PV pF s=some s:=by kernel_rfl
theorem Ye:LeftO PySem.Challenge.pw_shoutline_k71_orders_read (Q PySem.Challenge.pw_shoutline_k71_orders_read) lo (fun s=>xlAt (Q PySem.Challenge.pw_shoutline_k71_orders_read) [] s&&recOk [] s) (Hook.obs (kHook KK KA (fun _=>by kernel_rfl))) (Hook.val (kHook KK KA (fun _=>by kernel_rfl))) 10592 true:=by
 rw[YB];exact Q2 (H:=dH) io rfl ifn run rfl i0 i1 i2 i3 i4 i5 i6 i7 i8 i9 ia
end My
open PySem PySem.W PyProof.Rows
set_option maxRecDepth 100000 in
set_option maxHeartbeats 0 in
theorem PySem.Challenge.cw_shoutline_k71_orders_read_holds : PySem.Challenge.rw_shoutline_k71_orders_read.Holds := by
 w_on;o_law
 refine holds_open (q:=My.Q PySem.Challenge.pw_shoutline_k71_orders_read) (loose:=My.lo) (XP:=XL (My.Q PySem.Challenge.pw_shoutline_k71_orders_read) []) (YP:=Hook.says (kHook My.KK My.KA (fun _=>by kernel_rfl))) My.Ye (Hook.of (kHook My.KK My.KA (fun _=>by kernel_rfl))) (Hook.keeps (kHook My.KK My.KA (fun _=>by kernel_rfl)))
  (fun s e=>xl_of s (vg.mp e).1) XL.keeps (by rfl) (by rfl) (by rfl) (fun s e=>recFacts_of (vg.mp e).2) (by rfl) (by assumption)
  (by k_go) ⟨rfl,rfl,rfl,rfl,rfl,by k_go⟩ ?hw ?hc
 case hw=>w_witness2
 k_fill
 refine L2.RL (l:=PySem.Challenge.rw_shoutline_k71_orders_read) (n:=63) (k:=13) (x:="script") (CX:=L2.ba) (sp:=My.DN) rfl (by decide) rfl ⟨rfl,by decide,by decide⟩ (fun w h Y=>PySem.W.kIn_of Y) ?F ?S ?C
 case F=>
  intro w mg fa h KX G hmg;have T:∃T:My.Tx w (L2.Mi KX) mg,mg "law" = some (.ref T.f_law):=by
   dsimp only[L2.Mi]
   refine' Exists.imp (fun T _=>T.B0.m) (p:=fun _=>True) ⟨.mk ..,trivial⟩
   all_goals try first|refine' My.bD.of KX G ?_ ?_ ?_ ?_ ?_|refine' My.eZ.of ?_ ?_ ?_ ?_|refine' My.wF.of KX G ?_ ?_ ?_ ?_ ?_ ?_|refine' mg_of KX G ?_|refine mg_none_of KX G ?_|refine' L2.fG.mk ?_ ?_ ?_ ?_|refine' L2.Mk.mk ?_ ?_ ?_ ?_|refine' L2.fM.mk ?_ ?_ ?_|refine' ⟨_,rfl⟩|refine' L2.abw ?_ ?_ ?_ ?_ (by k_go) ?_
   all_goals try refine' My.KW [("open",_),("talk",_),("short",_),("turns",_),("least",_),("greatest",_),("paper",_)] ?_ (OV rfl) rfl
   all_goals try refine' My.KW [("turns",_),("least",_),("greatest",_),("paper",_)] ?_ (OV rfl) rfl
   all_goals try first|exact fun _ _ X t=>binds_K X rfl t rfl rfl rfl|(intro _ _ _ _ _ _ us hl;first|(obtain rfl:=My.len0 hl;rfl)|(obtain⟨_,rfl⟩:=My.qh hl;rfl)|(obtain⟨_,_,rfl⟩:=My.JO hl;rfl)|(obtain⟨_,_,_,rfl⟩:=My.Hz hl;rfl)|(obtain⟨_,_,_,_,rfl⟩:=My.RE hl;rfl))|k_is|kit_is|kts_exm|k_exc|(unfold L2.iH;k_exc)|rfl
   all_goals try k_is
  obtain⟨T,hT⟩:=T;have e0:=hmg.symm.trans hT;cases e0;exact⟨T.d_law,My.Rz T,fun base kb nb=>My.SZ T⟩
 case S=>exact fun K H a ns hl hO hS=>My.ace hl hS
 case C=>exact fun _ _ _ _ z=>z
#print axioms PySem.Challenge.cw_shoutline_k71_orders_read_holds
