import PyProof.Rows.All
import Wide.All
import OpenK.AllK
import Wide.FinOn
import Lean
import PyProof.EqAt
import PyProof.EqKinds
import PyProof.TupleCall
import PyProof.DictRoadsH
import PyProof.NeKinds
import KE.KLam
import KE.KNestM
import PyProof.ConsumeWalk
import PyProof.DictIter
import PyProof.DictWalks
import PyProof.ListStr
import PyProof.ZipIter
import PyProof.EnumStmt
import PyProof.ListRange
import PyProof.Rows.SortRuns
import KE.KSortTup
import PyProof.MinMaxWalk
import PyProof.WalkInts
import KE.KMinBuiltin
import KE.KSortKey
import PySem.Challenge.RW_mustrows_k61_what_is_sure
set_option Elab.async false
set_option linter.all false
set_option maxRecDepth 100000
set_option maxHeartbeats 4000000
set_option tactic.hygienic false
local macro_rules|`(tactic|obtain $p:rcasesPatMed:=$e:term)=>do
  let n:=(p.raw.reprint.getD "").foldl (λn c=>if c==',' then n+1 else n) 0
  let q:=Lean.mkIdent `hzz
  if n<2 then `(tactic|rcases $e:term with $p:rcasesPatMed) else `(tactic|(refine Classical.byContradiction fun $q=>?_;rcases $e:term with $p:rcasesPatMed;refine $q ?_;clear $q))
open PySem renaming wpAny_bind→Ix,wpAny_pure→Iy,Value→IA,Shared→IB,Str→IX,Addr→IZ,wpAny_holding→Jg,Around→Jj,Spec→Jp,codeAny_builtin→Jt,SetTable→Jv,wpAny_call_entry→Jx,wpAny_passesOwn→JF,wpAny_seqItems→JI,wpAny_newObj_type→JQ,wpAny_callSpecial?_slot→JR,plainId_quiet→JT,wpAny_truthy_bool→JW,wpAny_updateSeq→J4,wpAny_execs_cons→J5,Stmt→J6,Program→J9,wpAny_rule→Kf,wpAny_Call_Name_kw→Kg,Heap→Kl,wpAny_setState_of→Kt,mem_of_lookup→Kw,World→KB,wpAny_execs_nil→KC,wpAny_pyIter_list→KO,wpAny_mono→KP,wpAny_tryCatch→KY,wpAny_setField→KZ,wpAny_letGo→K0,wpAny_specialOf→K3,wpAny_isInstance→K8,wpAny_forIn_list→K9,wpAny_setField_rec→Lb,wpAny_notOrdered_dict→Le,Scope→Lh,wpAny_attempt→Ln,wpAny_field→LB,sizeLine_eq→LC,wpAny_typeOf→LH,wpAny_isTrue_Compare1→LP,wpAny_Assign_Name→LR,wpAny_Name→L0,NameKind→L3,Builtin→L5,wpAny_setEntries_of→L7,wpAny_loadPart'→Me,wpAny_typeNameOfWhole_keyiter→MC,wpAny_of_eq→MD,wpAny_fieldsOf→MS,isSubtype_stop→MT,IsPair→MZ,wpAny_storeSet_of→Na,wpAny_dictEntries→Nb,wpAny_Return_some→Nc,slot_dict_setitem→Nd,wpAny_typeNameOf_keyiter→Ni,wpAny_newList→Nj,wpAny_Dict_empty→Nt,Arguments→Nx,wpAny_load→NE,call_meets→NH,Result→NI,wpAny_runValue→NW,wpAny_newTuple→NX,Obj→N1,DictEntry→N6,codeAny_forLoop_any→N8,wpAny_standAt→Oi,wpAny_handled→Oj,Sem→Op,Pos→Ov,wpAny_sequenceKey→OC,wpAny_pyIter_slot→OD,wpAny_assign_Name→OE,concat_meets→OG,codeAny_mono→OH,Walks→OJ,wpAny_pyIter_zip→OV,wpAny_askSetting→OW,noFill_tuple_add→OX,wpAny_throw→O3,wpAny_BinOp→O4,wpAny_newFunctionEnv_cells→Pw,wpAny_If→Px,wpAny_Expr_any→Py,callType_codes→Pz,FuncData→PM
open PySem.Heap renaming get?_push_of_some→Iz,get?_push_size→IF,lt_size→IJ,get?_update_other→IP,get?_update_self→IY,size_push→JG,SameBut→JX,get?_none_of_le→NB,ExtBut→NC,update→PR
open List renaming length_map→IC,set_cons_zero→ID,set_cons_succ→IE,map_cons→IG,mem_cons_of_mem→IK,mem_cons_self→IN,length_cons→IU,all_eq_true→IW,getElem?_map→Ja,map_append→Jd,getElem?_set_self→Je,getElem?_set_ne→Jh,size_toArray→Jm,mem_cons→Jo,mem_of_getElem?→Jq,drop_eq_getElem_cons→Jr,map_congr_left→Js,length_append→Jy,range→JA,all_cons→JC,not_mem_nil→JE,map_map→JK,mem_append_left→JU,length_nil→JZ,append_assoc→J0,getElem?_eq_getElem→J8,length_filter_le→Ka,append_nil→Kb,nodup_nil→Kc,getElem_mem→Kh,length→Kk,mem_append_right→Kn,idxOf_lt_length_of_mem→Ko,getD_eq_getElem?_getD→KI,length_set→KM,length_filterMap_le→KT,mem_map_of_mem→K1,mem_singleton→K5,take_append_drop→K6,getElem?_append_left→La,foldl_cons→Ld,nodup_append→Lf,zip_cons_cons→Lv,take_of_length_le→Lw,nil_append→Lz,length_singleton→LD,getElem?_toArray→LF,getElem?_eq_none→LG,length_range→LI,flatMap_cons→LJ,ext_getElem?→LK,pairwise_append→LO,map_nil→LU,length_take→LV,extract_eq_take_drop→LX,filterMap_cons→LZ,getElem?_cons_succ→L8,eraseIdx_eq_take_drop_succ→Ml,nodup_cons→Mw,mem_append→Mx,reverse_append→Mz,set_set→MB,perm_ext_iff_of_nodup→MI,getElem?_append_right→MJ,map_id→MO,drop_length→M0,all_nil→Nh,getElem_toArray→NA,set_comm→NO,map_take→NP,map_drop→NQ,getElem?_take→NT,take_succ_eq_append_getElem→N2,reverse_perm→N3,pairwise_map→N4,mem_map→N5,lookup_cons→Om,any_eq_true→On,of_mem_zip→Ox,idxOf_cons→Oy,length_eraseIdx_of_lt→OR,getElem?_take_of_lt→O9,pairwise_singleton→Ph,pairwise_lt_range→Pm,not_of_lt_findIdx→Pn,getElem?_eraseIdx→Po,filter_eq_nil_iff→Pp,drop_of_length_le→Pq,all_map→Ps,singleton_append→PG,modify_zero_cons→PH,modify_succ_cons→PJ,getElem?_zipWith→PK,length_eraseIdx→PQ
open Bool renaming and_eq_true→II,false_eq_true→IT,eq_iff_iff→Ku,not_true→KG,false_ne_true→KS,and_true→Li,not_false→Ll,true_and→LA,not_eq_true'→LL,not_eq_false'→NU,or_eq_true→Oz,and_false→OU,or_false→Pa,and_self→Pb
open Nat renaming le_refl→IM,le_trans→IR,zero_le→Jf,ne_of_lt→Ji,lt_irrefl→JV,lt_succ_self→Kj,le_of_ble_eq_true→Kz,strongRecOn→KN,zero_add→K4,ne_of_gt→Lx,lt_of_lt_of_le→Ly,le_succ_of_le→LM,le_succ→LQ,not_lt_zero→My,succ_pos→ME,lt_trichotomy→MQ,lt_succ_of_lt→MR,reduceAdd→MY,reduceLT→Nn,mod_lt→No,le_of_lt→Np,pow_le_pow_right→NK,blt→NL,pow_succ→Oe,lt_or_ge→Of,mul_assoc→Pf,add_assoc→Pg,succ_mul→PE,lt_trans→PF
open PyProof.Rows renaming Keyed→IQ,wpS_bind→IS,wpS_pure→IV,SortSt→JB,wpS_forRange→Kr,callWith_builtin1→KH,wpS_mono→Lk,wpS_modify→Lm,listUpdate_at→LN,SortKind→Mc,get?_update_seq→Mf,callWith_type1→Mk,listItems_at→Mm,wpS_get→M5,plain_sorted→NF,entry_sorted→NG,wpS_lift→NV,kind_sorted→NY,Subscript_→Oo,args_sorted1→OI,seqEpoch_at→O5
open Ne renaming symm→Jb
open PySem.Obj renaming mapSeq→Jc,data_mapFields→JO,isFreed_of_fields→K7,cls_mapFields→Mj,putSet→Mo,mapFields→Ms,data_mapDictKeys→NJ,isFreed_of_dict→NN
open Option.some renaming injEq→Jk,inj→J7
open PySem.SetTable renaming below→Jl,turns→Ju,runEnd→Jz,Probe→Kp,bits→Kx,grown→KR,insertAt→L6,advance→Mg,toList_insertAt→MG,insertAt_perm→MP,leap→Nu,sizeAbove→Nz,fresh→Ol,slot→Ou,probeStart→Pe,layClean→PB
open PySem.Heap.SameBut renaming update→Jw
open PySem.PassesOwn renaming never→JD
open PyProof.Rows.SortSt renaming mk'→JJ
open PySem.Str renaming ofString→JM,length_append→Mh,length→NZ
open Array renaming getElem?_eq_getElem→JN,toList_append→JS,length_toList→JY,getElem?_toList→Km,toList_push→Ky,getElem?_eq_none→Lu,toList_extract→Mq,getElem_toList→Mr,getElem?_setIfInBounds→Mu,forIn_toList→MF,toList_reverse→Nw,size_extract→NS,size_push→Ot,toList_setIfInBounds→ON,getElem?_eq_none_iff→OO,getD→OP,getElem?_replicate→O2,toList→Pl,toList_modify→PV
open Int renaming toNat_natCast→Kd,toNat_of_nonneg→NR,emod_nonneg→OL,eq_ofNat_of_zero_le→Pt
open PySem.Calls renaming spliced_cons→Ke,spliced_nil→KV,call_function_entry→LW,Name_function_global→OM,callWith_builtin→Pk,evalArgs_plain→PP
open PySem.Value renaming type→Ki,none→Kv,bool→KA,ref→Ny,builtin→OY,notImplemented→PA
open List.Nodup renaming length_le_of_subset→Kq
open PySem.Builtin.Tuple renaming tupleHashOf→KF
open Classical renaming byContradiction→KJ
open PySem.Builtin.List renaming listSameRef→KL,listExtendWith→Lr
open PySem.SetTable.layClean renaming free→KQ
open ForInStep renaming yield→KU
open PySem.SeqAt renaming EqAt→KW
open PySem.SetTable.probe renaming go→K2
open List.Perm renaming refl→Lg,swap→Og,append_left→OT
open Break.runK renaming match_1→Lj
open PySem.F renaming plain_min_loop→Lo,plain_max_loop→Lp,plainAttrs_list→L4,plain_extend_loop→MK,args_tuple_add_2→ML,plainAttrs_dict→MM,entry_tuple_add→MN,slot_tuple_add→MV,entry_min_loop→MW,entry_max_loop→MX,slot_zip_next→ND,type_dict_setdefault→Oa,slot_dict_setdefault→Ob,slot_list_remove→OK,slot_dict_keyiterator_next→O1,slot_dict_get→O8,slot_tuple_iterator_next→Pj,args_dict_setdefault_3→PN,entry_dict_setdefault→PU
open List.cons renaming injEq→Lq,inj→Oq
open PySem.Builtin.Str renaming strSliceIndices→Ls
open PySem.Shared renaming TypeIs→LY
open PySem.Builtin.Builtins renaming bindParams→L9
open PySem.SetTable.below renaming go→Mn
open Option renaming toList_none→MA,getD_some→N0
open PySem.NameKind renaming free→MH
open PySem.W renaming cellsFrom_some→MU,kla_fn→Nk,CodeHd→Nl,kia_one→N9,view→O0
open PySem.MeetsSeq renaming plain_remove_loop→Nf,entry_remove_loop→Ng
open List.Pairwise renaming nil→Nq,map→Nr
open PySem.Builtin.SmallTypes renaming nextOf→Nv
open PySem.Walks renaming list→NM
open PySem.Builtin.Range renaming rangeSize→N7
open PySem.Builtin.Dict renaming notOrdered→Oh,showsAll→Os
open PySem.AutoSeq1 renaming wpAny_loadPart'→OA,sub_tuple_tuple→OB
open PySem.pickOrder renaming go→OF
open Nat.succ renaming inj→OQ
open PySem.Txt renaming join→OZ
open PySem.SeqAt.EqAt renaming str_str→O6,of_refs→O7,same→PC
open PySem.IsRange renaming new→Pi
open PySem.Around renaming under_plainId→Pu
open PySem.IsL renaming update→PD
open Function renaming comp_def→PL
open PyProof.Rows.F renaming entry_set_update_loop→PT
open Option renaming some→U,none→B
open Bool renaming false→Y,true→V
namespace L2
open PySem PySem.W
noncomputable def defArgs (s:J6):Nx:=match s with
 |.FunctionDef _ a _ _ _ _ _ _ _ _=>a
 |_=>{posonlyargs:=[],args:=[],vararg:=B,kwonlyargs:=[],kw_defaults:=[],kwarg:=B,defaults:=[]}
noncomputable def defBody (s:J6):List J6:=match s with
 |.FunctionDef _ _ b _ _ _ _ _ _ _=>b
 |_=>[]
noncomputable def defScope (s:J6):Lh:=match s with
 |.FunctionDef _ _ _ _ _ _ sc _ _ _=>sc
 |_=>{kind:=.function,names:=[],isGenerator:=Y,isCoroutine:=Y}
noncomputable def Ef (h:Kl):Frag:=(JA h.objs.size).filterMap λa=>(h.get? a).bind λo=>if(o.cls != .none||a==mainGlobals)&&o.cls != .type "list" then U (a,o) else B
noncomputable abbrev FSig:=IX×IX×Nx×FuncBody×Lh×IZ×List (IX×IZ)×IA×IZ
noncomputable def Gs (fd:PM):FSig:=(fd.name,fd.qualname,fd.params,fd.body,fd.scope,fd.globals,fd.closure,fd.defaults,fd.builtins)
noncomputable def G8 (K:Frag) (x:IX):Option FSig:=match nsIn K mainGlobals x with
 |some (U (.ref f))=>(match K.lookup f with
  |some ⟨_,_,.func fd,_⟩=>if codeIn K fd.code x then U (Gs fd) else B
  |_=>B)
 |_=>B
noncomputable def BI (x:IX) (st:J6):FSig:=(x,x,defArgs st,.stmts (defBody st),defScope st,mainGlobals,[],.none,builtinsNs)
noncomputable def vk (K:Frag) (x:IX):Option IA:=match nsIn K mainGlobals x with
 |some (U (.ref f))=>(match K.lookup f with
  |some ⟨_,_,.func fd,_⟩=>U fd.code
  |_=>B)
 |_=>B
noncomputable def G1:N1:={cls:=.none,data:=.fields #[]}
noncomputable abbrev Tb:=List (IZ×IX)
noncomputable def YfH (tb:Tb) (defs:List (IX×J6)) (bl:List IX) (cs:List (IX×IZ)) (s:IB):=
 (λ(h:Kl) (K:Frag)=>(defs.map (λp=>G8 K p.1),bl.map (nsIn K mainGlobals),cs.map (λp=>vk K p.1),tb.map (λq=>h.get? q.1),(tb.zip cs).map (λq=>codeHdIn K q.2.2 q.1.1),tb.map (λq=>K.lookup q.1))) s.heap (Ef s.heap)
noncomputable def YaH (tb:Tb) (defs:List (IX×J6)) (bl:List IX) (cs:List (IX×IZ)) (_:KB):=
 (defs.map (λp=>U (BI p.1 p.2)),bl.map (λ_=>U (B:Option IA)),cs.map (λp=>U (Ny p.2)),tb.map (λ_=>U G1),(tb.zip cs).map (λ_=>V),tb.map (λ_=>(B:Option N1)))
end L2
namespace K61
open PySem L2
noncomputable def top (i:Nat):J6:=PySem.Challenge.pw_mustrows_k61_what_is_sure.main.body.getD i (.Pass ⟨0,0,0,0⟩)
noncomputable abbrev mJ:J6:=top 1
noncomputable abbrev lG:J6:=top 2
noncomputable abbrev kU:J6:=top 4
noncomputable abbrev yJ:J6:=top 3
noncomputable abbrev vp:J6:=top 6
noncomputable abbrev jq:J6:=top 8
noncomputable abbrev ji:J6:=top 15
noncomputable abbrev mw:J6:=top 14
noncomputable abbrev kR:J6:=top 13
noncomputable abbrev gh:J6:=top 12
noncomputable abbrev jN:J6:=top 18
noncomputable abbrev o7:J6:=top 16
noncomputable abbrev tZ:J6:=top 19
noncomputable abbrev m3:J6:=top 17
noncomputable abbrev hY:J6:=top 11
noncomputable abbrev tW:J6:=top 9
noncomputable abbrev rh:J6:=top 7
noncomputable abbrev mB:J6:=top 10
noncomputable abbrev yg:J6:=top 21
noncomputable abbrev kW:J6:=top 25
noncomputable abbrev cP:J6:=top 22
noncomputable abbrev k6:J6:=top 24
noncomputable abbrev ki:J6:=top 26
noncomputable abbrev fX:J6:=top 23
noncomputable abbrev jr:J6:=top 30
noncomputable abbrev Gz:J6:=top 31
noncomputable abbrev im:J6:=top 29
noncomputable abbrev m6:J6:=top 32
noncomputable abbrev jh:J6:=top 34
noncomputable abbrev ij:J6:=top 33
noncomputable abbrev BS:J6:=top 28
noncomputable abbrev Ck:J6:=top 36
noncomputable abbrev jo:J6:=top 39
noncomputable abbrev jp:J6:=top 40
noncomputable abbrev gj:J6:=top 41
noncomputable abbrev jf:J6:=top 42
noncomputable abbrev mn:J6:=top 43
noncomputable abbrev gY:J6:=top 44
noncomputable abbrev i6:J6:=top 45
noncomputable abbrev kG:J6:=top 46
noncomputable abbrev fE:J6:=top 47
noncomputable abbrev gA:J6:=top 48
noncomputable abbrev jZ:J6:=top 49
noncomputable abbrev iA:J6:=top 50
noncomputable abbrev kr:J6:=top 51
noncomputable abbrev gy:J6:=top 52
noncomputable abbrev dU:J6:=top 53
noncomputable abbrev iw:J6:=top 54
noncomputable abbrev jd:J6:=top 55
noncomputable abbrev jV:J6:=top 56
noncomputable abbrev kN:J6:=top 57
noncomputable abbrev fy:J6:=top 58
noncomputable abbrev jQ:J6:=top 59
noncomputable abbrev gn:J6:=top 60
noncomputable abbrev jl:J6:=top 61
noncomputable abbrev s_law:J6:=top 62
noncomputable abbrev blK:List IX:=["all","any","dict","enumerate","isinstance","len","list","max","min","range","set","sorted","str","tuple","zip"]
noncomputable def defsK:List (IX×J6):=([("stand_of",mJ),("blanks_of",lG),("exchanged",kU),("moved",yJ),("filled",vp),("letters_of",jq),("binding_of",ji),("bindings",mw),("is_linked",kR),("search_order",gh),("places_of",jN),("grouped",o7),("picked",tZ),("extended",m3),("joined_from",hY),("joined",tW),("answers",rh),("fit_with",mB),("fresh",yg),("two_terms",kW),("deciding_letters",cP),("is_unlike",k6),("two_cells",ki),("broken_cells",fX),("urgency_of",jr),("age",Gz),("next_broken",im),("is_clash",m6)]:List (IX×J6))++([("same_moves",jh),("fresh_moves",ij),("full",BS),("sure",Ck),("_law_mixed",jo),("_law_words",jp),("_law_numbers",gj),("_law_drawn",jf),("_law_row",mn),("_law_tables",gY),("_law_stand",i6),("_law_term",kG),("_law_patterns",fE),("_law_letters",gA),("_law_rule",jZ),("_law_fitted",iA),("_law_fits",kr),("_law_cell_of",gy),("_law_is_broken",dU),("_law_broken",iw),("_law_keeps",jd),("_law_copy",jV),("_law_made",kN),("_law_question",fy),("_law_sure",jQ),("_law_is_told",gn),("_law_right",jl),("law",s_law)]:List (IX×J6))
end K61
section
open PySem
noncomputable def Dx:List Nat:=((PySem.Challenge.pw_mustrows_k61_what_is_sure.main.body.zipIdx.filter λp=>match p.1 with|.FunctionDef .. =>V|_=>Y).map (·.2))
noncomputable def tbK:L2.Tb:=[(74,"search_order.<locals>.<lambda>")]
noncomputable def csK:List (IX×IZ):=[("search_order",76)]
set_option maxHeartbeats 0 in
theorem K61.hl0:PySem.W.LeftO PySem.Challenge.rw_mustrows_k61_what_is_sure.row.prog (O0 PySem.Challenge.pw_mustrows_k61_what_is_sure Dx) [] (λ_=>V) (L2.YfH tbK K61.defsK K61.blK csK) (L2.YaH tbK K61.defsK K61.blK csK) 2000:=λw=>by kernel_rfl
set_option maxHeartbeats 0 in
theorem K61.hl1:PySem.Challenge.rw_mustrows_k61_what_is_sure.wellSaid=V:=by kernel_rfl
set_option maxHeartbeats 0 in
theorem K61.hl7:(PySem.W.chainsOk (O0 PySem.Challenge.pw_mustrows_k61_what_is_sure Dx)&&PySem.W.opensWell PySem.Challenge.rw_mustrows_k61_what_is_sure.row.prog&&(PySem.W.frees PySem.Challenge.rw_mustrows_k61_what_is_sure.row.toRowW&&PySem.Challenge.rw_mustrows_k61_what_is_sure.row.within.isEmpty))=V:=by kernel_rfl
end
namespace L2
open PySem PySem.Spec PyProof.Rows
noncomputable abbrev Key:=Sum Int IX
inductive D where
 |non|bl (b:Bool)|int (i:Int)|str (x:IX)|tup (ds:List D)|lst (ds:List D)|dK (ks:List Key) (vs:List D)
 |dD (ks vs:List D)|ptr (a:IZ)
mutual
noncomputable def D.beq:D->D->Bool
 |.non,.non=>V
 |.bl a,.bl b=>a==b
 |.int a,.int b=>a==b
 |.str a,.str b=>decide (a=b)
 |.tup a,.tup b=>D.beqs a b
 |.lst a,.lst b=>D.beqs a b
 |.dK ka a,.dK kb b=>decide (ka=kb)&&D.beqs a b
 |.dD ka a,.dD kb b=>D.beqs ka kb&&D.beqs a b
 |.ptr a,.ptr b=>decide (a=b)
 |_,_=>Y
noncomputable def D.beqs:List D->List D->Bool
 |[],[]=>V
 |a::as,b::bs=>D.beq a b&&D.beqs as bs
 |_,_=>Y
end
mutual
theorem D.beq_iff:∀(a b:D),D.beq a b=V↔a=b
 |.non,b=>by cases b<;>simp[D.beq]
 |.bl a,b=>by cases b<;>simp[D.beq]
 |.int a,b=>by cases b<;>simp[D.beq]
 |.str a,b=>by cases b<;>simp[D.beq]
 |.tup a,b=>by cases b<;>simp[D.beq];exact D.beqs_iff a _
 |.lst a,b=>by cases b<;>simp[D.beq];exact D.beqs_iff a _
 |.dK ka a,b=>by cases b<;>simp[D.beq];rw[D.beqs_iff a];simp
 |.dD ka a,b=>by cases b<;>simp[D.beq];rw[D.beqs_iff ka,D.beqs_iff a]
 |.ptr a,b=>by cases b<;>simp[D.beq]
theorem D.beqs_iff:∀(a b:List D),D.beqs a b=V↔a=b
 |[],b=>by cases b<;>simp[D.beqs]
 |a::as,b=>by cases b<;>simp[D.beqs];rw[D.beq_iff a,D.beqs_iff as]
end
noncomputable instance:DecidableEq D:=λa b=>if h:D.beq a b=V then isTrue ((D.beq_iff a b).mp h) else isFalse λe=>h ((D.beq_iff a b).mpr e)
noncomputable abbrev DEnv:=List (Option (D×Bool))
class Md where
 P:J9
 w:KB
 K:PySem.W.Frag
 mg:IX->Option IA
 base:Kl
 tb:List (IZ×IX)
 os:OsState
 gens:Array GenState
open Md
variable[Md]
inductive Rl where|f|p|o (i:Nat)
noncomputable abbrev Mp:=IZ->Option (Rl×N1)
noncomputable def upd (M:Mp) (a:IZ) (x:Option (Rl×N1)):Mp:=λb=>if b=a then x else M b
omit [Md] in
theorem aq {M:Mp}:upd M a x a=x:=if_pos rfl
omit [Md] in
theorem av {M:Mp}(h:b≠a):upd M a x b=M b:=if_neg h
noncomputable def Rl.ok (m:Bool):Rl->Bool|.f=>V|.p=>Y|.o _=>m
noncomputable def Rd (m:Bool) (M:Mp) (a:IZ) (o:N1):Prop:=∃k,M a=U (k,o)/\k.ok m=V
noncomputable def Sub (m:Bool) (M:Mp) (m':Bool) (M':Mp):Prop:=∀a o,Rd m M a o->Rd m' M' a o
noncomputable def Ext (M M':Mp):Prop:=∀a,M' a=M a\/(M a=B/\∃o,M' a=U (.f,o))
theorem Ext.refl:Ext M M:=λ_=>.inl rfl
theorem Ext.trans (h:Ext M N) (g:Ext N O):Ext M O:=λa=>by
 rcases h a with e|⟨e,o,e'⟩<;>rcases g a with q|⟨q,o',q'⟩<;>grind
theorem Ext.sub (h:Ext M M'):Sub m M m M':=λa o ⟨k,e,hk⟩=>⟨k,by rcases h a with z|z<;>grind,hk⟩
noncomputable def cW:Nat->D->Bool
 |_,.int _=>V
 |_,.str _=>V
 |n+1,.tup ds=>ds.all (cW n)
 |_,_=>Y
mutual
noncomputable def cH (w:KB):D->Int
 |.int i=>hashInt i
 |.str x=>hashStr w x
 |.tup ds=>reduceHash (KF (vw w ds))
 |_=>0
noncomputable def vw (w:KB):List D->List Int
 |[]=>[]
 |d::ds=>cH w d::vw w ds
end
noncomputable def uD:D->Bool|.tup _=>V|_=>Y
noncomputable def LstO (o:N1) (vs:List IA):Prop:=vs.length<=sizeLine/\∃n,o={cls:=.type "list",data:=.seq vs.toArray n}
noncomputable def TupO (o:N1) (vs:List IA):Prop:=vs.length<=sizeLine/\o.cls=.type "tuple"/\∃n,o.data=.seq vs.toArray n
noncomputable def kD:Key->D
 |.inl i=>.int i
 |.inr x=>.str x
noncomputable def kOk:Bool->D->Bool
 |b,.int _=>!b
 |b,.str _=>!b
 |b,.tup ds=>b&&cW 8 (.tup ds)
 |_,_=>Y
noncomputable def DcO (b:Bool) (o:N1) (ks:List D) (us vs:List IA):Prop:=ks.length<=sizeLine/\o.ExactDict/\ks.Nodup/\ks.all (kOk b)=V/\∃es ep,o.data=.dict es ep/\
 es.toList.map (·.hash)=ks.map (cH w)/\es.toList.map (·.key)=us/\es.toList.map (·.val)=vs
noncomputable def Ks:List Key->List IA->Prop
 |[],vs=>vs=[]
 |.inl i::ks,vs=>∃t r,vs=.int i t::r/\Ks ks r
 |.inr x::ks,vs=>∃t r,vs=.str x t::r/\Ks ks r
mutual
noncomputable def R (m:Bool) (M:Mp):D->IA->Prop
 |.non,v=>v=.none
 |.bl b,v=>v=.bool b
 |.int i,v=>∃t,v=.int i t
 |.str x,v=>∃t,v=.str x t
 |.tup ds,v=>∃a o vs,v=.ref a/\Rd m M a o/\TupO o vs/\Rs m M ds vs
 |.lst ds,v=>∃a o vs,v=.ref a/\Rd m M a o/\LstO o vs/\Rs m M ds vs
 |.dK ks ds,v=>∃a o us vs,v=.ref a/\Rd m M a o/\DcO Y o (ks.map kD) us vs/\Ks ks us/\Rs m M ds vs
 |.dD ks ds,v=>∃a o us vs,v=.ref a/\Rd m M a o/\DcO V o ks us vs/\Rs m M ks us/\Rs m M ds vs
 |.ptr a,v=>v=.ref a
noncomputable def Rs (m:Bool) (M:Mp):List D->List IA->Prop
 |[],vs=>vs=[]
 |d::ds,vs=>∃v r,vs=v::r/\R m M d v/\Rs m M ds r
end
noncomputable def Cm (m:Bool) (M:Mp):D->N1->Prop
 |.lst ds,o=>∃vs,LstO o vs/\Rs m M ds vs
 |.dK ks ds,o=>∃us vs,DcO Y o (ks.map kD) us vs/\Ks ks us/\Rs m M ds vs
 |.dD ks ds,o=>∃us vs,DcO V o ks us vs/\Rs m M ks us/\Rs m M ds vs
 |_,_=>False
noncomputable abbrev C (M:Mp):D->N1->Prop:=Cm Y M
mutual
theorem R.to (h:Sub m M m' M'):∀{d v},R m M d v->R m' M' d v
 |.non,v,r=>by exact r
 |.bl b,v,r=>by exact r
 |.int i,v,r=>by exact r
 |.str x,v,r=>by exact r
 |.tup ds,v,r=>by obtain⟨a,o,vs,e,q,t,rs⟩:=r;exact⟨a,o,vs,e,h _ _ q,t,Rs.to h rs⟩
 |.lst ds,v,r=>by obtain⟨a,o,vs,e,q,t,rs⟩:=r;exact⟨a,o,vs,e,h _ _ q,t,Rs.to h rs⟩
 |.dK ks ds,v,r=>by obtain⟨a,o,us,vs,e,q,t,rk,rs⟩:=r;exact⟨a,o,us,vs,e,h _ _ q,t,rk,Rs.to h rs⟩
 |.dD ks ds,v,r=>by obtain⟨a,o,us,vs,e,q,t,rk,rs⟩:=r;exact⟨a,o,us,vs,e,h _ _ q,t,Rs.to h rk,Rs.to h rs⟩
 |.ptr a,v,r=>by exact r
theorem Rs.to (h:Sub m M m' M'):∀{ds vs},Rs m M ds vs->Rs m' M' ds vs
 |[],vs,r=>r
 |d::ds,vs,r=>by obtain⟨v,r,e,h1,h2⟩:=r;exact⟨v,r,e,h1.to h,Rs.to h h2⟩
end
theorem Cm.to (c:Cm m M d o) (h:Sub m M m' M'):Cm m' M' d o:=by
 cases d with
 |lst ds=>obtain⟨vs,h1,h2⟩:=c;exact⟨vs,h1,h2.to h⟩
 |dK ks ds=>obtain⟨us,vs,h1,h2,h3⟩:=c;exact⟨us,vs,h1,h2,h3.to h⟩
 |dD ks ds=>obtain⟨us,vs,h1,h2,h3⟩:=c;exact⟨us,vs,h1,h2.to h,h3.to h⟩
 |_=>exact c
theorem Cm.rep (c:Cm m M d o) (h:Sub m M m' M') (q:Rd m' M' a o):R m' M' d (.ref a):=by
 cases d with
 |lst ds=>obtain⟨vs,h1,h2⟩:=c;exact⟨a,o,vs,rfl,q,h1,h2.to h⟩
 |dK ks ds=>obtain⟨us,vs,h1,h2,h3⟩:=c;exact⟨a,o,us,vs,rfl,q,h1,h2,h3.to h⟩
 |dD ks ds=>obtain⟨us,vs,h1,h2,h3⟩:=c;exact⟨a,o,us,vs,rfl,q,h1,h2.to h,h3.to h⟩
 |_=>exact False.elim c
theorem Sub.weak:Sub Y M m M:=λa o ⟨k,e,h⟩=>⟨k,e,by cases k<;>simp_all [Rl.ok]⟩
theorem R.weak (r:R Y M d v):R m M d v:=r.to Sub.weak
theorem Rs.weak (r:Rs Y M d v):Rs m M d v:=r.to Sub.weak
theorem R.up (r:R m M d v) (h:Ext M M'):R m M' d v:=r.to h.sub
theorem Rs.up (r:Rs m M d v) (h:Ext M M'):Rs m M' d v:=r.to h.sub
theorem Rs.length:∀{ds vs},Rs m M ds vs->ds.length=vs.length
 |[],_,h=>by subst h;rfl
 |d::ds,_,⟨v,r,e,_,h⟩=>by subst e;simp[Rs.length h]
theorem Rs.get:∀{ds vs} {i:Nat}{d},Rs m M ds vs->ds[i]?=U d->∃v,vs[i]?=U v/\R m M d v
 |[],_,_,_,_,e=>by simp at e
 |x::ds,_,0,d,⟨v,r,rfl,h,_⟩,e=>by simp_all
 |x::ds,_,i+1,d,⟨v,r,rfl,_,h⟩,e=>by simpa using Rs.get (i:=i) h (by simpa using e)
theorem Rs.append:∀{ds vs es us},Rs m M ds vs->Rs m M es us->Rs m M (ds++es) (vs++us)
 |[],_,_,_,rfl,t=>t
 |d::ds,_,_,_,⟨v,r,rfl,h,h2⟩,t=>⟨v,_,rfl,h,Rs.append h2 t⟩
theorem Rs.one (h:R m M d v):Rs m M [d] [v]:=⟨v,[],rfl,h,rfl⟩
theorem Rs.drop:∀{ds vs} (n:Nat),Rs m M ds vs->Rs m M (ds.drop n) (vs.drop n)
 |_,_,0,h=>h
 |[],_,n+1,h=>by subst h;rfl
 |d::ds,_,n+1,⟨v,r,rfl,_,h⟩=>Rs.drop n h
theorem Rs.take:∀{ds vs} (n:Nat),Rs m M ds vs->Rs m M (ds.take n) (vs.take n)
 |_,_,0,_=>rfl
 |[],_,n+1,h=>by subst h;rfl
 |d::ds,_,n+1,⟨v,r,rfl,q,h⟩=>⟨v,_,rfl,q,Rs.take n h⟩
structure Cx where
 A:Jj
 N:List IX
 env:Env
 fn:Bool
noncomputable def Vis (sc:Lh) (x:IX):Prop:=sc.names.lookup x=U .local\/sc.names.lookup x=U .cell\/sc.names.lookup x=U .free
noncomputable def Loc (sc:Lh) (x:IX):Prop:=sc.names.lookup x=U .local\/sc.names.lookup x=U .cell
noncomputable def B5 (env:Env) (h:Kl) (m:IX->Option IA) (x:IX) (u:IA):Prop:=
 (env.kindOf x=U .local/\m x=U u)\/((env.kindOf x=U .cell\/env.kindOf x=U .free)/\∃c,env.cells.lookup x=U c/\h.IsCell c (U u))
structure Mod:Prop where
 kin:K.In base
 glob:base.Ns mainGlobals mg
 blt:∃mb,base.Ns builtinsNs mb/\∀x:IX,x≠"__name__"->mb x=bootBuiltins x
 nolimit:base.NoLimit
 bmain:∃bm ob,mg "__builtins__"=U (.ref bm)/\bm≠builtinsNs/\base.get? bm=U ob/\ob.cls=.type "module"/\ob.dict=U builtinsNs/\ob.data=.plain
structure Room (k:Nat) (A:Jj):Prop where
 hd:A.handled=B
 dp:A.depth+3*k+5<recursionLimit
 un:A.units+16*k+200<cLine
structure Cx.Ok (X:Cx):Prop where
 mod:Mod
 kind:X.env.scope.kind=.function
 glob:X.env.globals=mainGlobals
 blt:X.env.builtins=builtinsNs
 inj:∀x y c,X.env.cells.lookup x=U c->X.env.cells.lookup y=U c->x=y
 has:∀x,(X.env.kindOf x=U .cell\/X.env.kindOf x=U .free)->∃c,X.env.cells.lookup x=U c
 room:Room 0 X.A
noncomputable def TabOk (M:Mp) (h:Kl):Prop:=∀q∈tb,M q.1=B/\∃ps,h.get? q.1=U {cls:=.none,data:=.fields ps}/\TriplesOk ps.toList/\
 ∀pos cv,codeAmong pos ps.toList=U cv->∃c oc vs t,cv=.ref c/\M c=U (.f,oc)/\oc.data=.fields vs/\vs[1]?=U (.str q.2 t)
structure Free (X:Cx) (M:Mp) (a:IZ):Prop where
 m:M a=B
 l:a≠X.env.locals
 c:∀x,X.env.cells.lookup x≠U a
 t:∀q∈tb,a≠q.1
 s:a≠sysModules
noncomputable def Va (M:Mp) (i:Nat) (d:D) (u:IA):Bool->Prop
 |false=>R Y M d u
 |true=>∃a o,u=.ref a/\M a=U (.o i,o)/\C M d o
noncomputable def Ow (o:N1):Prop:=o.cls≠.type "tuple"/\∀vs,o.data≠.fields vs
structure Inv (X:Cx) (M:Mp) (δ:DEnv) (s:IB):Prop where
 ok:X.Ok
 og:s.os=Md.os/\s.gens=gens
 heap:∀a k o,M a=U (k,o)->s.heap.get? a=U o
 base:∀a o,base.get? a=U o->M a=U (.p,o)
 loc:∃m,s.heap.Ns X.env.locals m/\∀i x d b,X.N[i]?=U x->δ[i]?=U (U (d,b))->Vis X.env.scope x->∃u,B5 X.env s.heap m x u/\Va M i d u b
 free:M X.env.locals=B
 cell:∀x c,X.env.cells.lookup x=U c->(∃v,s.heap.IsCell c v)/\(M c=B\/(X.fn=Y/\∃o,M c=U (.p,o)))
 tabs:TabOk M s.heap
 own:∀a i o,M a=U (.o i,o)->Ow o
 uni:∀a b i o o',M a=U (.o i,o)->M b=U (.o i,o')->a=b
 len:δ.length=X.N.length
 sys:∀k o,M sysModules=U (k,o)->k=.p
noncomputable abbrev WP (X:Cx) (t:Op α) (Q:α->IB->Prop) (s:IB):Prop:=wpAny (model P w) X.A t Q (λ_ _=>False) s
end L2
namespace L2
open PySem PySem.Spec PyProof.Rows Md
variable[Md]
theorem rdf:Rd Y M a o↔M a=U (.f,o):=⟨λ⟨k,e,h⟩=>by cases k<;>simp_all [Rl.ok],λe=>⟨.f,e,rfl⟩⟩
theorem Va.to {M M':Mp}(h:Va M i d u b) (hs:Sub Y M Y M') (ho:∀a o,M a=U (.o i,o)->M' a=U (.o i,o)):Va M' i d u b:=by
 cases b with
 |false=>exact R.to hs h
 |true=>obtain⟨a,o,e,q,c⟩:=h;exact⟨a,o,e,ho _ _ q,c.to hs⟩
theorem TabOk.to {M M':Mp}(h:TabOk M hp) (hs:Sub Y M Y M') (hn:∀q∈tb,M' q.1=B) (k:∀q∈tb,∀o,hp.get? q.1=U o->hp'.get? q.1=U o):TabOk M' hp':=λq hq=>by
 obtain⟨_,ps,e,t,r⟩:=h q hq;refine⟨hn q hq,ps,k q hq _ e,t,λpos cv z=>?_⟩
 obtain⟨c,oc,vs,t,e1,e2,e3⟩:=r pos cv z;exact⟨c,oc,vs,t,e1,rdf.mp (hs _ _ (rdf.mpr e2)),e3⟩
theorem nE {env:Env}{h h':Kl}(l:B5 env h m x u) (k:∀c o,env.cells.lookup x=U c->h.get? c=U o->h'.get? c=U o):B5 env h' m x u:=by
 rcases l with l|⟨q,c,e,o,h1,h2⟩
 ·exact .inl l
 ·exact .inr ⟨q,c,e,o,k c o e h1,h2⟩
section
variable{X:Cx}{M M':Mp}{δ:DEnv}{s s':IB}
theorem Inv.wr (I:Inv X M δ s) (fp:List IZ) (hf:∀b∈fp,Free X M b) (k:∀b o,b∉fp->s.heap.get? b=U o->s'.heap.get? b=U o) (hg:s'.os=s.os/\s'.gens=s.gens:=by exact⟨rfl,rfl⟩):Inv X M δ s':=by
 have hc:∀x c o,X.env.cells.lookup x=U c->s.heap.get? c=U o->s'.heap.get? c=U o:=λx c o e=>k c o λz=>(hf c z).c x e
 refine⟨I.ok,⟨hg.1.trans I.og.1,hg.2.trans I.og.2⟩,λa r o e=>k a o (λz=>by have:=(hf a z).m;simp_all) (I.heap a r o e),I.base,?_,I.free,λx c e=>?_,I.tabs.to (λ_ _ h=>h) (λq h=>(I.tabs q h).1) λq hq o=>k _ o λz=>(hf _ z).t q hq rfl,I.own,I.uni,I.len,I.sys⟩
 ·obtain⟨m,⟨o,es,ep,h1,h2⟩,hl⟩:=I.loc
  refine⟨m,⟨o,es,ep,k _ o (λz=>(hf _ z).l rfl) h1,h2⟩,λi x d b e1 e2 e3=>?_⟩
  obtain⟨u,l,v⟩:=hl i x d b e1 e2 e3;exact⟨u,nE l λc o=>hc x c o,v⟩
 ·obtain⟨⟨v,o,h1,h2⟩,h3⟩:=I.cell x c e
  exact⟨⟨v,o,hc x c o e h1,h2⟩,h3⟩
theorem Inv.kp (I:Inv X M δ s) (k:∀b o,s.heap.get? b=U o->s'.heap.get? b=U o) (hg:s'.os=s.os/\s'.gens=s.gens:=by exact⟨rfl,rfl⟩):Inv X M δ s':=I.wr [] (λ_ h=>nomatch h) (λb o _=>k b o) hg
theorem Inv.tok (I:Inv X M δ s):Inv X M δ {s with toks:=t}:=I.kp λ_ _ h=>h
theorem Inv.push (I:Inv X M δ s):Inv X M δ {s with heap:=s.heap.push o,toks:=t}:=I.kp λ_ _ h=>Iz _ h
theorem Inv.re (I:Inv X M δ s) (hs:Sub Y M Y M') (ho:∀i a o,M a=U (.o i,o)->M' a=U (.o i,o)) (hp:∀a o,M a=U (.p,o)->(Md.base.get? a=U o\/∃x,X.env.cells.lookup x=U a)->M' a=U (.p,o))
  (hn:∀a k o,M' a=U (k,o)->M a=U (k,o)\/(s.heap.get? a=U o/\Free X M a/\∀i,k≠.o i)):Inv X M' δ s:=by
 have ow:∀{a i o},M' a=U (.o i,o)->M a=U (.o i,o):=λ{a i o} e=>(hn a _ o e).elim id λz=>absurd rfl (z.2.2 i)
 have nn:∀{a},M a=B->¬Free X M a->M' a=B:=λ{a} e hf=>by
  cases q:M' a with
  |none=>rfl
  |some p=>rcases hn a p.1 p.2 q with z|z;simp_all;exact absurd z.2.1 hf
 refine⟨I.ok,I.og,λa k o e=>?_,λa o e=>hp a o (I.base a o e) (.inl e),?_,nn I.free λz=>z.l rfl,λx c e=>⟨(I.cell x c e).1,(I.cell x c e).2.imp (λf=>nn f λz=>z.c x e) λ⟨f,o,q⟩=>⟨f,o,hp c o q (.inr ⟨x,e⟩)⟩⟩,I.tabs.to hs (λq h=>nn (I.tabs q h).1 λz=>z.t q h rfl) λ_ _ _ h=>h,λa i o e=>I.own a i o (ow e),λa b i o o' e e'=>I.uni a b i o o' (ow e) (ow e'),I.len,λk o e=>(hn _ k o e).elim (I.sys k o) λz=>absurd rfl z.2.1.s⟩
 ·rcases hn a k o e with z|z
  ·exact I.heap a k o z
  ·exact z.1
 ·obtain⟨m,h1,hl⟩:=I.loc
  refine⟨m,h1,λi x d b e1 e2 e3=>?_⟩
  obtain⟨u,l,v⟩:=hl i x d b e1 e2 e3;exact⟨u,l,v.to hs (ho i)⟩
theorem eP (h:M a=B):Sub m M m (upd M a x):=λb o ⟨k,e,z⟩=>⟨k,by rw[av (λq=>by simp_all)];exact e,z⟩
theorem fF (h:M a=B):Ext M (upd M a (U (.f,o))):=λb=>by
 by_cases q:b=a
 ·subst q;exact .inr ⟨h,o,aq⟩
 ·exact .inl (av q)
theorem Inv.put (I:Inv X M δ s) (hf:Free X M a) (e:s.heap.get? a=U o) (hk:∀i,k≠.o i:=by exact λ_ h=>nomatch h):Inv X (upd M a (U (k,o))) δ s:=by
 have ne:∀{b x},M b=U x->b≠a:=λh q=>by subst q;rw[hf.m]at h;cases h
 refine I.re (eP hf.m) (λi b o h=>by rw[av (ne h)];exact h) (λb o h _=>by rw[av (ne h)];exact h) λb k' o' h=>?_
 by_cases q:b=a
 ·subst q;rw[aq]at h;cases h;exact .inr ⟨e,hf,hk⟩
 ·rw[av q]at h;exact .inl h
theorem Inv.fresh (I:Inv X M δ s) (h:s.heap.objs.size<=a):Free X M a:=by
 have no:∀{b o},s.heap.get? b=U o->a≠b:=λe q=>by subst q;exact absurd (IJ e) (by exact Nat.not_lt.mpr h)
 refine⟨?_,?_,λx e=>?_,λq hq=>?_,λz=>?_⟩
 ·cases q:M a with
  |none=>rfl
  |some p=>exact absurd rfl (no (I.heap a p.1 p.2 q))
 ·obtain⟨m,⟨o,es,ep,h1,h2⟩,_⟩:=I.loc
  exact no h1
 ·obtain⟨⟨v,o,h1,h2⟩,_⟩:=I.cell x a e
  exact no h1 rfl
 ·obtain⟨_,ps,e,_⟩:=I.tabs q hq
  exact no e
 ·obtain⟨o,es,ep,h1,_⟩:=I.ok.mod.glob
  have:=IJ (I.heap _ _ _ (I.base _ _ h1));rw[z]at h;exact absurd (Ly this h) (by decide)
theorem Inv.new (I:Inv X M δ s) (hf:o.isFreed=Y:=by rfl):Inv X (upd M s.heap.objs.size (U (.f,o))) δ {s with heap:=s.heap.push o,toks:=t}:=
 I.push.put (I.fresh (IM _)) (IF _ hf)
theorem Inv.kIn (I:Inv X M δ s):K.In s.heap:=I.ok.mod.kin.keeps λb o e=>I.heap _ _ _ (I.base b o e)
theorem Inv.bk (I:Inv X M δ s):∀b o,Md.base.get? b=U o->s.heap.get? b=U o:=λb o e=>I.heap _ _ _ (I.base b o e)
theorem AV {N:List IX}(hN:N.Nodup) {i j:Nat}(a:N[i]?=U x) (b:N[j]?=U x):i=j:=by
 obtain⟨h1,e1⟩:=List.getElem?_eq_some_iff.mp a
 obtain⟨h2,e2⟩:=List.getElem?_eq_some_iff.mp b
 exact(List.getElem_inj hN).mp (e1.trans e2.symm)
structure Lc (X:Cx) (i:Nat) (x:IX):Prop where
 n:X.N[i]?=U x
 nd:X.N.Nodup
 l:X.env.scope.names.lookup x=U .local\/(X.env.scope.names.lookup x=U .cell/\X.fn=V)
theorem Inv.cne (I:Inv X M δ s) (e:X.env.cells.lookup x=U c):c≠X.env.locals:=λz=>by
 obtain⟨⟨v,o,ho,hd⟩,_⟩:=I.cell x c e;obtain⟨m,⟨o',es,ep,ho',hd',_⟩,_⟩:=I.loc
 simp_all
theorem Inv.store {Q:Unit->IB->Prop}(I:Inv X M δ s) (hx:Lc X i x) (r:Va M i d u b) (h:∀s' c,Inv X M (δ.set i (U (d,b))) s'->JX c s.heap s'.heap->(c=X.env.locals\/X.env.cells.lookup x=U c)->Q () s'):WP X (storeName X.env x u) Q s:=by
 obtain⟨m,hn,hl⟩:=id I.loc;have hi:i<δ.length:=by rw[I.len];exact(List.getElem?_eq_some_iff.mp hx.n).1
 have go:∀{h':Kl}{t:Nat}{m':IX->Option IA}{c},h'.Ns X.env.locals m'->JX c s.heap h'->(c=X.env.locals\/(X.fn=V/\X.env.cells.lookup x=U c/\h'.IsCell c (U u)))->B5 X.env h' m' x u->(∀y v,y≠x->B5 X.env s.heap m y v->B5 X.env h' m' y v)->Q () {s with heap:=h',toks:=t}:=by
  intro h' t m' c hn' hs hc lx ly;have mc:M c=B:=by
   rcases hc with rfl|⟨f,e,_⟩
   ·exact I.free
   ·exact(I.cell x c e).2.elim id λz=>by simp_all
  have k:∀b o,b≠c->s.heap.get? b=U o->h'.get? b=U o:=λb o q e=>(hs.2 b q).trans e
  have ck:∀y d,X.env.cells.lookup y=U d->d≠c->∀v,s.heap.IsCell d v->h'.IsCell d v:=λy d e q v ⟨o,h1,h2⟩=>⟨o,k d o q h1,h2⟩
  refine h _ c ⟨I.ok,I.og,λa r o e=>k a o (λz=>by subst z;simp_all) (I.heap a r o e),I.base,⟨m',hn',λj y e b' e1 e2 e3=>?_⟩,I.free,λy d e=>⟨?_,(I.cell y d e).2⟩,I.tabs.to (λ_ _ h=>h) (λq h=>(I.tabs q h).1) λq hq o=>k _ o ?_,I.own,I.uni,by simpa using I.len,I.sys⟩ hs (hc.imp id λz=>z.2.1)
  ·by_cases hj:j=i
   ·subst hj
    rw[hx.n]at e1;cases e1;rw[Je hi]at e2;cases e2
    exact⟨u,lx,r⟩
   ·rw[Jh (Jb hj)]at e2
    obtain⟨v,l,q⟩:=hl j y e b' e1 e2 e3;exact⟨v,ly y v (λz=>hj (AV hx.nd e1 (z▸hx.n))) l,q⟩
  ·by_cases q:d=c
   ·subst q
    rcases hc with rfl|⟨_,_,z⟩
    ·exact absurd rfl (I.cne e)
    ·exact⟨_,z⟩
   ·obtain⟨⟨v,z⟩,_⟩:=I.cell y d e
    exact⟨v,ck y d e q v z⟩
  ·rintro rfl
   obtain⟨_,ps,e,_⟩:=I.tabs q hq
   rcases hc with z|⟨_,e',o,z⟩
   ·obtain⟨o,es,ep,h1,h2,_⟩:=hn;rw[<-z,e]at h1;cases h1;cases h2
   ·obtain⟨⟨v,o,h1,h2⟩,_⟩:=I.cell x _ e';rw[e]at h1;cases h1;cases h2
 rcases hx.l with hk|⟨hk,hf⟩
 ·refine wpAny_storeName_local hk hn (λh' hn' hs=>go hn' hs (.inl rfl) (.inl ⟨hk,by simp⟩) λy v hy l=>?_) (by rw[I.ok.kind];rfl)
  rcases l with l|⟨q,c,e,z⟩
  ·exact .inl ⟨l.1,by simp[hy,l.2]⟩
  ·exact .inr ⟨q,c,e,z.sameBut hs (I.cne e)⟩
 ·obtain⟨c,hc⟩:=I.ok.has x (.inl hk)
  obtain⟨⟨v₀,z⟩,_⟩:=I.cell x c hc;refine wpAny_storeName_cell I.ok.kind hk hc z λh' hc' hs=>go (t:=s.toks) (hn.sameBut hs (Jb (I.cne hc))) hs (.inr ⟨hf,hc,hc'⟩) (.inr ⟨.inl hk,c,hc,hc'⟩) λy v hy l=>?_
  rcases l with l|⟨q,d,e,z'⟩
  ·exact .inl l
  ·exact .inr ⟨q,d,e,z'.sameBut hs λq=>hy (I.ok.inj _ _ _ e (q▸hc))⟩
theorem Inv.chg (I:Inv X M δ s) (e:δ[i]?=U (U (d,V))) (hN:X.N[i]?=U x) (hv:Vis X.env.scope x) (nd:X.N.Nodup) (q:M a=U (.o i,o)) (k:∀b ob,b≠a->s.heap.get? b=U ob->s'.heap.get? b=U ob) (h1:s'.heap.get? a=U o') (h2:Ow o') (h3:C M d' o') (hg:s'.os=s.os/\s'.gens=s.gens:=by exact⟨rfl,rfl⟩):
  Inv X (upd M a (U (.o i,o'))) (δ.set i (U (d',V))) s'/\Sub Y M Y (upd M a (U (.o i,o')))/\∀b ob,M b=U (.p,ob)↔upd M a (U (.o i,o')) b=U (.p,ob):=by
 obtain⟨m,hn,hl⟩:=id I.loc;obtain⟨u,l,a',o₁,rfl,q',c⟩:=hl i x d V hN e hv;obtain rfl:=I.uni _ _ _ _ _ q q';have hi:i<δ.length:=(List.getElem?_eq_some_iff.mp e).1
 have hs:Sub Y M Y (upd M a (U (.o i,o'))):=λb ob r=>by
  rw[rdf]at r⊢;rw[av (λz=>by subst z;simp_all)];exact r
 have kc:∀y c,X.env.cells.lookup y=U c->c≠a:=λy c e z=>by
  subst z;rcases(I.cell y c e).2 with z|⟨_,_,z⟩<;>simp_all
 have ne:∀{b},M b=B->upd M a (U (.o i,o')) b=B:=λ{b} h=>by
  rw[av (λz=>by subst z;simp_all)];exact h
 have kp:∀b ob,M b=U (.p,ob)↔upd M a (U (.o i,o')) b=U (.p,ob):=λb ob=>by
  by_cases z:b=a
  ·subst z;rw[aq];simp_all
  ·rw[av z]
 have kl:∀{y v},B5 X.env s.heap m y v->B5 X.env s'.heap m y v:=λl=>nE l λc o e=>k c o (kc _ c e)
 have ow:∀{b j ob},upd M a (U (.o i,o')) b=U (.o j,ob)->∃ob',M b=U (.o j,ob'):=λ{b j ob} z=>by
  by_cases z2:b=a
  ·subst z2;rw[aq]at z;cases z;exact⟨_,q⟩
  ·rw[av z2]at z;exact⟨_,z⟩
 refine⟨⟨I.ok,⟨hg.1.trans I.og.1,hg.2.trans I.og.2⟩,λb r ob z=>?_,λb ob z=>(kp b ob).mp (I.base b ob z),⟨m,?_,λj y e b' e1 e2 e3=>?_⟩,ne I.free,λy c z=>⟨?_,(I.cell y c z).2.imp ne λ⟨f,o,q⟩=>⟨f,o,(kp c o).mp q⟩⟩,I.tabs.to hs (λq h=>ne (I.tabs q h).1) λr hr o=>k _ o λz=>?_,λb j ob z=>?_,λb c j ob oc z z'=>?_,by simpa using I.len,λr ob z=>?_⟩,hs,kp⟩
 ·by_cases z2:b=a
  ·subst z2;rw[aq]at z;cases z;exact h1
  ·rw[av z2]at z;exact k b ob z2 (I.heap b r ob z)
 ·obtain⟨oL,es,ep,z1,z2⟩:=hn
  exact⟨oL,es,ep,k _ _ (λz=>by have:=I.free;rw[z,q]at this;cases this) z1,z2⟩
 ·by_cases hj:j=i
  ·subst hj
   rw[hN]at e1;cases e1;rw[Je hi]at e2;cases e2
   exact⟨_,kl l,a,o',rfl,aq,h3.to hs⟩
  ·rw[Jh (Jb hj)]at e2
   obtain⟨v,l,r⟩:=hl j y e b' e1 e2 e3;exact⟨v,kl l,r.to hs λb ob z=>by rw[av (λz2=>by subst z2;rw[q]at z;cases z;exact hj rfl)];exact z⟩
 ·obtain⟨⟨v,oc,z1,z2⟩,_⟩:=I.cell y c z
  exact⟨v,oc,k c oc (kc y c z) z1,z2⟩
 ·have:=(I.tabs r hr).1;simp_all
 ·by_cases z2:b=a
  ·subst z2;rw[aq]at z;cases z;exact h2
  ·rw[av z2]at z;exact I.own b j ob z
 ·obtain⟨_,w1⟩:=ow z;obtain⟨_,w2⟩:=ow z';exact I.uni _ _ _ _ _ w1 w2
 ·rw[av (λz2=>by rw[<-z2]at q;exact nomatch I.sys _ _ q)]at z;exact I.sys _ _ z
noncomputable def dis (i:Nat) (M:Mp):Mp:=λa=>match M a with|some (.o j,o)=>if j=i then B else U (.o j,o)|x=>x
theorem xN (h:M a=U (k,o)) (hk:k≠.o i):dis i M a=U (k,o):=by unfold dis;rw[h];cases k<;>simp_all
theorem uZ (h:dis i M a=U (k,o)):M a=U (k,o)/\k≠.o i:=by
 unfold dis at h;split at h
 ·split at h
  ·cases h
  ·cases h;exact⟨by assumption,λz=>by injection z;contradiction⟩
 ·cases q:M a with
  |none=>simp_all
  |some x=>obtain⟨k',o'⟩:=x;cases k'<;>simp_all
theorem Aa (h:M a=B):dis i M a=B:=by unfold dis;rw[h]
theorem Inv.setOwn (I:Inv X M δ s) (f:Free X M a) (e:s.heap.get? a=U o) (c:C M d o) (hx:Lc X i x) {Q:Unit->IB->Prop}
  (h:∀s' M' c,Inv X M' (δ.set i (U (d,V))) s'->Sub Y M Y M'->(∀b ob,M b=U (.p,ob)↔M' b=U (.p,ob))->JX c s.heap s'.heap->(c=X.env.locals\/X.env.cells.lookup x=U c)->(∀b,M b=B->b≠a->M' b=B)->Q () s'):WP X (storeName X.env x (.ref a)) Q s:=by
 have ow:Ow o:=by
  cases d with
  |lst ds=>obtain⟨vs,⟨_,n,rfl⟩,_⟩:=c;exact⟨by simp,λ_ z=>nomatch z⟩
  |dK ks ds=>obtain⟨us,vs,⟨_,h1,_,_,es,ep,h2,_⟩,_⟩:=c;exact⟨by rw[h1.1];simp,λ_ z=>by rw[h2]at z;cases z⟩
  |dD ks ds=>obtain⟨us,vs,⟨_,h1,_,_,es,ep,h2,_⟩,_⟩:=c;exact⟨by rw[h1.1];simp,λ_ z=>by rw[h2]at z;cases z⟩
  |_=>exact False.elim c
 have hs:Sub Y M Y (upd (dis i M) a (U (.o i,o))):=λb ob q=>by
  rw[rdf]at q⊢;rw[av (λz=>by subst z;rw[f.m]at q;cases q)];exact xN q λz=>nomatch z
 have hp:∀b ob,M b=U (.p,ob)↔upd (dis i M) a (U (.o i,o)) b=U (.p,ob):=λb ob=>by
  by_cases z:b=a
  ·subst z;rw[aq,f.m];simp
  ·rw[av z];exact⟨λq=>xN q (λz=>nomatch z),λq=>(uZ q).1⟩
 have nn:∀b,M b=B->b≠a->upd (dis i M) a (U (.o i,o)) b=B:=λb q z=>by rw[av z];exact Aa q
 have ow':∀{b j ob},upd (dis i M) a (U (.o i,o)) b=U (.o j,ob)->(b=a/\j=i/\ob=o)\/(j≠i/\M b=U (.o j,ob)):=λ{b j ob} z=>by
  by_cases z2:b=a
  ·subst z2;rw[aq]at z;cases z;exact .inl ⟨rfl,rfl,rfl⟩
  ·rw[av z2]at z;obtain⟨h1,h2⟩:=uZ z;exact .inr ⟨λq=>h2 (by rw[q]),h1⟩
 have J:Inv X (upd (dis i M) a (U (.o i,o))) (δ.set i B) s:=by
  refine⟨I.ok,I.og,λb r ob z=>?_,λb ob z=>(hp b ob).mp (I.base b ob z),?_,nn _ I.free (Jb f.l),λy c z=>⟨(I.cell y c z).1,(I.cell y c z).2.imp (λq=>nn _ q λw=>f.c y (w▸z)) λ⟨g,o,q⟩=>⟨g,o,(hp c o).mp q⟩⟩,I.tabs.to hs (λq h=>nn _ (I.tabs q h).1 (Jb (f.t q h))) λ_ _ _ h=>h,λb j ob z=>?_,λb c j ob oc z z'=>?_,by simpa using I.len,λr ob z=>by rw[av (Jb f.s)]at z;exact I.sys _ _ (uZ z).1⟩
  ·by_cases z2:b=a
   ·subst z2;rw[aq]at z;cases z;exact e
   ·rw[av z2]at z;exact I.heap b r ob (uZ z).1
  ·obtain⟨m,hn,hl⟩:=id I.loc
   refine⟨m,hn,λj y e b' e1 e2 e3=>?_⟩
   have hj:j≠i:=λz=>by subst z;rw[List.getElem?_set]at e2;split at e2<;>simp_all
   rw[Jh (Jb hj)]at e2
   obtain⟨v,l,r⟩:=hl j y e b' e1 e2 e3;exact⟨v,l,r.to hs λb ob z=>by rw[av (λz2=>by subst z2;rw[f.m]at z;cases z)];exact xN z λw=>hj (by injection w)⟩
  ·rcases ow' z with⟨_,_,rfl⟩|⟨_,z⟩
   ·exact ow
   ·exact I.own _ _ _ z
  ·rcases ow' z with⟨rfl,rfl,_⟩|⟨h1,z⟩<;>rcases ow' z' with⟨rfl,h2,_⟩|⟨h3,z'⟩
   ·rfl
   ·exact absurd rfl h3
   ·exact absurd h2 h1
   ·exact I.uni _ _ _ _ _ z z'
 refine J.store hx (d:=d) (b:=V) ⟨a,o,rfl,aq,c.to hs⟩ λs' c I' h1 h2=>h s' _ c ?_ hs hp h1 h2 nn
 rw[MB]at I';exact I'
theorem Inv.frz (I:Inv X M δ s) (e:δ[i]?=U (U (d,V))) (hN:X.N[i]?=U x) (hv:Vis X.env.scope x) (nd:X.N.Nodup):∃M',Sub Y M Y M'/\(∀a o,M a=U (.p,o)↔M' a=U (.p,o))/\(∀a,M a=B↔M' a=B)/\Inv X M' (δ.set i (U (d,Y))) s:=by
 obtain⟨m,hn,hl⟩:=id I.loc;obtain⟨u,l,a,o,rfl,q,c⟩:=hl i x d V hN e hv;have hi:i<δ.length:=(List.getElem?_eq_some_iff.mp e).1
 have hs:Sub Y M Y (upd M a (U (.f,o))):=λb ob r=>by
  rw[rdf]at r⊢;rw[av (λz=>by subst z;simp_all)];exact r
 have hp:∀b ob,M b=U (.p,ob)↔upd M a (U (.f,o)) b=U (.p,ob):=λb ob=>by
  by_cases z:b=a
  ·subst z;rw[aq];simp_all
  ·rw[av z]
 have hn0:∀b,M b=B↔upd M a (U (.f,o)) b=B:=λb=>by
  by_cases z:b=a
  ·subst z;rw[aq];simp_all
  ·rw[av z]
 have ow:∀{b j ob},upd M a (U (.f,o)) b=U (.o j,ob)->M b=U (.o j,ob):=λ{b j ob} z=>by
  by_cases z2:b=a
  ·subst z2;rw[aq]at z;cases z
  ·rw[av z2]at z;exact z
 refine⟨_,hs,hp,hn0,I.ok,I.og,λb r ob z=>?_,λb ob z=>(hp b ob).mp (I.base b ob z),⟨m,hn,λj y e b' e1 e2 e3=>?_⟩,(hn0 _).mp I.free,λy c z=>⟨(I.cell y c z).1,(I.cell y c z).2.imp (hn0 c).mp λ⟨f,o,q⟩=>⟨f,o,(hp c o).mp q⟩⟩,I.tabs.to hs (λq h=>(hn0 _).mp (I.tabs q h).1) λ_ _ _ h=>h,λb j ob z=>I.own b j ob (ow z),λb c j ob oc z z'=>I.uni b c j ob oc (ow z) (ow z'),by simpa using I.len,λr ob z=>by rw[av (λz2=>by rw[<-z2]at q;exact nomatch I.sys _ _ q)]at z;exact I.sys _ _ z⟩
 ·by_cases z2:b=a
  ·subst z2;rw[aq]at z;cases z;exact I.heap _ _ _ q
  ·rw[av z2]at z;exact I.heap b r ob z
 ·by_cases hj:j=i
  ·subst hj
   rw[hN]at e1;cases e1;rw[Je hi]at e2;cases e2
   exact⟨_,l,c.rep hs (rdf.mpr aq)⟩
  ·rw[Jh (Jb hj)]at e2
   obtain⟨v,l,r⟩:=hl j y e b' e1 e2 e3;exact⟨v,l,r.to hs λb ob z=>by rw[av (λz2=>by subst z2;rw[q]at z;cases z;exact hj rfl)];exact z⟩
end
end L2
namespace L2
open PySem PySem.Spec PyProof.Rows Md
variable[Md]
structure Sx (M M':Mp):Prop where
 f:Sub Y M Y M'
 p:∀a o,M a=U (.p,o)->M' a=U (.p,o)
 n:∀a o,M' a=U (.p,o)->M a=U (.p,o)
theorem Sx.refl:Sx M M:=⟨λ_ _ h=>h,λ_ _ h=>h,λ_ _ h=>h⟩
theorem Sx.trans (a:Sx M N) (b:Sx N O):Sx M O:=⟨λ_ _ h=>b.f _ _ (a.f _ _ h),λ_ _ h=>b.p _ _ (a.p _ _ h),λ_ _ h=>a.n _ _ (b.n _ _ h)⟩
theorem Ext.sx (h:Ext M M'):Sx M M':=⟨h.sub,λa o e=>by rcases h a with z|z<;>grind,λa o e=>by rcases h a with z|z<;>grind⟩
section
variable{X X':Cx}{M M' M1:Mp}{δ δ1:DEnv}{s s1:IB}
open Classical in
noncomputable def pin (X:Cx) (M:Mp) (h:Kl):Mp:=λa=>if Free X M a then(h.get? a).map λo=>(.p,o) else M a
open Classical in
noncomputable def unp (X:Cx) (M:Mp) (h:Kl) (M1:Mp):Mp:=λa=>if Free X M a/\h.get? a≠B then B else M1 a
theorem uE (h:M a=U x):pin X M hp a=U x:=by unfold pin;rw[if_neg λf=>by rw[f.m]at h;cases h];exact h
theorem lj:Sub m M m (pin X M hp):=λa o ⟨k,e,h⟩=>⟨k,uE e,h⟩
set_option tactic.hygienic true in
theorem Inv.pin (I:Inv X M δ s):Inv X (pin X M s.heap) δ s:=I.re lj (λ_ _ _=>uE) (λ_ _ h _=>uE h) λa k o e=>by
 unfold L2.pin at e;split at e
 ·rename_i f
  cases q:s.heap.get? a with
  |none=>simp_all
  |some o'=>rw[q]at e;cases e;exact .inr ⟨rfl,f,λ_ h=>nomatch h⟩
 ·exact .inl e
set_option tactic.hygienic true in
theorem Inv.unp (I:Inv X M δ s) (J:Inv X M1 δ1 s1) (e:Sx (L2.pin X M s.heap) M1):Inv X (unp X M s.heap M1) δ1 s1/\Sx M (unp X M s.heap M1)/\Sub Y M1 Y (unp X M s.heap M1)/\(∀a,M1 a=B->unp X M s.heap M1 a=B)/\(∀a i o,M1 a=U (.o i,o)->unp X M s.heap M1 a=U (.o i,o))/\∀a o,Free X M a->s.heap.get? a=U o->s1.heap.get? a=U o/\Free X (unp X M s.heap M1) a:=by
 have key:∀{a o},Free X M a->s.heap.get? a=U o->M1 a=U (.p,o):=λ{a o} f q=>e.p a o (by unfold L2.pin;rw[if_pos f,q];rfl)
 have keep:∀{a k o},M1 a=U (k,o)->(k=.p->¬Free X M a)->L2.unp X M s.heap M1 a=U (k,o):=λ{a k o} q h=>by
  unfold L2.unp;rw[if_neg];exact q
  rintro⟨f,z⟩
  cases w:s.heap.get? a with
  |none=>exact z w
  |some o'=>have:=key f w;rw[q]at this;cases this;exact h rfl f
 refine⟨J.re (λa o q=>rdf.mpr (keep (rdf.mp q) λz=>nomatch z)) (λi a o q=>keep q λz=>nomatch z) (λa o q h=>keep q λ_ f=>?_) (λa k o q=>.inl ?_),⟨λa o q=>rdf.mpr (keep (rdf.mp (e.f _ _ (lj _ _ q))) λz=>nomatch z),λa o q=>keep (e.p a o (uE q)) λ_ f=>(by rw[f.m]at q;cases q),λa o q=>?_⟩,λa o q=>rdf.mpr (keep (rdf.mp q) (λz=>nomatch z)),λa q=>(by unfold L2.unp;split<;>first|rfl|exact q),λa i o q=>keep q (λz=>nomatch z),λa o f q=>⟨J.heap _ _ _ (key f q),?_,f.l,f.c,f.t,f.s⟩⟩
 ·rcases h with h|⟨x,h⟩
  ·have:=I.base _ _ h;rw[f.m]at this;cases this
  ·exact f.c x h
 ·unfold L2.unp at q;split at q;cases q;exact q
 ·unfold L2.unp at q;split at q
  ·cases q
  ·rename_i z
   have:=e.n a o q;unfold L2.pin at this;split at this
   ·rename_i f;cases w:s.heap.get? a<;>simp_all
   ·exact this
 ·unfold L2.unp;exact if_pos ⟨f,by simp[q]⟩
open Classical in
noncomputable def cal (m ko:Bool) (M:Mp) (h:Kl) (ex:List IZ):Mp:=λa=>match M a with
 |some (.o i,o)=>U (if m then .f else if ko then .o i else .p,o)
 |some x=>U x
 |none=>if a∈ex\/(∃q∈tb,a=q.1) then B else(h.get? a).map λo=>(.p,o)
open Classical in
noncomputable def bak (M:Mp) (h:Kl) (M1:Mp):Mp:=λa=>match M a with
 |some x=>U x
 |none=>if h.get? a≠B then B else match M1 a with|some (.f,o)=>U (.f,o)|_=>B
theorem oV:Sub m M Y (cal m ko M hp ex):=λa o ⟨k,e,h⟩=>by
 refine rdf.mpr ?_;unfold cal;rw[e];cases k<;>simp_all [Rl.ok]
theorem th:Ext M (bak M hp M1):=λa=>by
 unfold bak;cases e:M a with
 |some x=>exact .inl rfl
 |none=>
  dsimp only;split
  ·exact .inl rfl
  ·cases q:M1 a with
   |none=>exact .inl rfl
   |some x=>obtain⟨k,o⟩:=x;cases k<;>first|exact .inl rfl|exact .inr ⟨rfl,_,rfl⟩
set_option tactic.hygienic true in
theorem Inv.ret (I:Inv X M δ s) (J:Inv X' M1 δ1 s1) (hf:∀b∈ex,Free X M b) (hx:∀b∈ex,M1 b=B) (e:Sx (cal m ko M s.heap ex) M1) (eo:∀a i o,cal m ko M s.heap ex a=U (.o i,o)->M1 a=U (.o i,o)):Inv X (bak M s.heap M1) δ s1/\Sub Y M1 m (bak M s.heap M1):=by
 have c1:∀{a k o},M a=U (k,o)->∃k',cal m ko M s.heap ex a=U (k',o)/\(k'=.f->k.ok m=V)/\(k=.f->k'=.f):=λ{a k o} h=>by
  unfold cal;rw[h];cases k<;>cases m<;>cases ko<;>simp_all [Rl.ok]
 have c2:∀{a o},M a=B->s.heap.get? a=U o->a∉ex->(∀q∈tb,a≠q.1)->cal m ko M s.heap ex a=U (.p,o):=λ{a o} h q h1 h2=>by
  unfold cal;rw[h];dsimp only;rw[if_neg (by rintro(z|⟨q,z1,z2⟩);exact h1 z;exact h2 q z1 z2),q];rfl
 have k1:∀{a k o},cal m ko M s.heap ex a=U (k,o)->M1 a=U (k,o):=λ{a k o} h=>by
  cases k with
  |f=>exact rdf.mp (e.f _ _ (rdf.mpr h))
  |p=>exact e.p _ _ h
  |o i=>exact eo _ _ _ h
 have k2:∀{a o},M a=B->s.heap.get? a=U o->a∉ex->(∀q∈tb,a≠q.1)->s1.heap.get? a=U o:=λh q h1 h2=>J.heap _ _ _ (k1 (c2 h q h1 h2))
 have k3:∀{a k o},M a=U (k,o)->s1.heap.get? a=U o:=λh=>by obtain⟨k',h1,_⟩:=c1 h;exact J.heap _ _ _ (k1 h1)
 have nl:∀q∈tb,X.env.locals≠q.1:=λq hq z=>by
  obtain⟨_,ps,h,_⟩:=I.tabs q hq;obtain⟨_,⟨o,es,ep,h1,h2,_⟩,_⟩:=I.loc;rw[z,h]at h1;cases h1;cases h2
 have nc:∀x c,X.env.cells.lookup x=U c->∀q∈tb,c≠q.1:=λx c z q hq w=>by
  obtain⟨_,ps,h,_⟩:=I.tabs q hq;obtain⟨⟨v,o,h1,h2⟩,_⟩:=I.cell x c z;rw[w,h]at h1;cases h1;cases h2
 have sub:Sub Y M1 m (bak M s.heap M1):=λa o q=>by
  rw[rdf]at q;unfold Rd bak;cases h:M a with
  |some x=>
   obtain⟨k,o'⟩:=x;obtain⟨k',h1,h3,_⟩:=c1 h;have:=k1 h1;rw[q]at this;cases this;exact⟨k,rfl,h3 rfl⟩
  |none=>
   dsimp only;rw[if_neg,q];exact⟨.f,rfl,rfl⟩;intro z;cases w:s.heap.get? a with
   |none=>exact z w
   |some o'=>have:=k1 (c2 h w (λz=>by rw[hx a z]at q;cases q) λr hr z=>by have:=(J.tabs r hr).1;rw[<-z,q]at this;cases this);rw[q]at this;cases this
 have of:∀{a x},M a=U x->bak M s.heap M1 a=U x:=λh=>by unfold bak;rw[h]
 have no:∀{a o},M a=B->s.heap.get? a=U o->bak M s.heap M1 a=B:=λh q=>by unfold bak;rw[h];dsimp only;rw[if_pos (by simp[q])]
 have ow:∀{a i o},bak M s.heap M1 a=U (.o i,o)->M a=U (.o i,o):=λ{a i o} q=>by
  unfold bak at q;cases h:M a with
  |some x=>rw[h]at q;exact q
  |none=>rw[h]at q;dsimp only at q;split at q;cases q;split at q<;>cases q
 have sf:Sub Y M Y (bak M s.heap M1):=λa o q=>rdf.mpr (of (rdf.mp q))
 obtain⟨m0,⟨oL,es,ep,hL,hL2⟩,hl⟩:=id I.loc;have xl:X.env.locals∉ex:=λz=>(hf _ z).l rfl
 have xc:∀x c,X.env.cells.lookup x=U c->c∉ex:=λx c e z=>(hf _ z).c x e
 have kc:∀x c o,X.env.cells.lookup x=U c->s.heap.get? c=U o->s1.heap.get? c=U o:=λx c o z q=>by
  cases h:M c with
  |none=>exact k2 h q (xc x c z) (nc x c z)
  |some y=>obtain⟨k,o'⟩:=y;have:=I.heap _ _ _ h;rw[q]at this;cases this;exact k3 h
 refine⟨⟨I.ok,J.og,λa k o q=>?_,λa o q=>of (I.base a o q),⟨m0,⟨oL,es,ep,k2 I.free hL xl nl,hL2⟩,λi x d b e1 e2 e3=>?_⟩,no I.free hL,λx c z=>?_,λq hq=>?_,λa i o q=>I.own _ _ _ (ow q),λa b i o o' q q'=>I.uni _ _ _ _ _ (ow q) (ow q'),I.len,λk o q=>?_⟩,sub⟩
 ·unfold bak at q
  cases h:M a with
  |some x=>rw[h]at q;cases q;exact k3 h
  |none=>
   rw[h]at q;dsimp only at q;split at q
   ·cases q
   ·split at q
    ·cases q;exact J.heap _ _ _ (by assumption)
    ·cases q
 ·obtain⟨u,l,v⟩:=hl i x d b e1 e2 e3
  exact⟨u,nE l λc o=>kc x c o,v.to sf λa o=>of⟩
 ·obtain⟨⟨v,o,h1,h2⟩,h3⟩:=I.cell x c z
  exact⟨⟨v,o,kc x c o z h1,h2⟩,h3.imp (λq=>no q h1) λ⟨f,o,q⟩=>⟨f,o,of q⟩⟩
 ·obtain⟨hn,ps,h1,h2,h3⟩:=J.tabs q hq
  obtain⟨hn0,ps0,h0,_⟩:=I.tabs q hq;refine⟨no hn0 h0,ps,h1,h2,λpos cv z=>?_⟩
  obtain⟨c,oc,vs,t,e1,e2,e3,e4⟩:=h3 pos cv z;refine⟨c,oc,vs,t,e1,?_,e3,e4⟩
  obtain⟨k,w,_⟩:=sub c oc (rdf.mpr e2);cases k with
  |f=>exact w
  |p=>rename_i z;cases z
  |o i=>
   unfold bak at w;cases h:M c with
   |some x=>rw[h]at w;cases w;exact absurd e3 ((I.own _ _ _ h).2 vs)
   |none=>rw[h]at w;dsimp only at w;split at w;cases w;split at w<;>cases w
 ·unfold bak at q
  cases h:M sysModules with
  |some x=>rw[h]at q;cases q;exact I.sys _ _ h
  |none=>
   rw[h]at q;dsimp only at q;split at q
   ·cases q
   ·split at q
    ·rename_i w;exact nomatch J.sys _ _ w
    ·cases q
end
end L2
namespace L2
open PySem
noncomputable def ae {α β:Type}(x:Option α) (f:α->Option β):Option β:=match x with|some a=>f a|none=>B
theorem ag {α β:Type}{x:Option α}{f:α->Option β}{b:β}(h:ae x f=U b):∃a,x=U a/\f a=U b:=by
 cases x with
 |none=>cases h
 |some a=>exact⟨a,rfl,h⟩
noncomputable def b2 {α:Type}(g:D->D->Option α) (x y:Option D):Option α:=ae x λa=>ae y (g a)
theorem iP {α:Type}{g:D->D->Option α}{x y:Option D}{d:α}(h:b2 g x y=U d):∃a b,x=U a/\y=U b/\g a b=U d:=by
 obtain⟨a,h1,h2⟩:=ag h;obtain⟨b,h2,h3⟩:=ag h2;exact⟨a,b,h1,h2,h3⟩
noncomputable def gd {α:Type}(c:Bool) (x:α):Option α:=if c=V then U x else B
theorem gF {α:Type}{c:Bool}{x y:α}(h:gd c x=U y):c=V/\y=x:=by unfold gd at h;split at h<;>simp_all
noncomputable def lim:Nat:=1000000
theorem aw {n:Nat}(h:n<=lim):n<=sizeLine:=IR h (by decide)
noncomputable def rd (m:Bool) (i:Nat) (δ:DEnv):Option D:=match δ[i]? with|some (U (d,o))=>if(o&&!m)=V then B else U d|_=>B
noncomputable def bI (C:Int->Int->Bool) (g:Int->Int->D) (x y:D):Option D:=match x,y with|.int i,.int j=>gd (C i j) (g i j)|_,_=>B
noncomputable def Ii:Int->Int->Bool:=λi j=>decide ((-(2 ^ 64)<i/\i<2 ^ 64)\/(-(2 ^ 64)<j/\j<2 ^ 64))
noncomputable def Ib:Int->Int->Bool:=λ_ j=>decide (0<j/\j<1073741824)
noncomputable def H9:Int->Int->Bool:=λ_ j=>decide (0<j)
noncomputable def bY:Option D->Option D->Option D:=b2 (bI (λ_ _=>V) λi j=>.int (i+j))
noncomputable def uP:Option D->Option D->Option D:=b2 (bI Ii λi j=>.int (i*j))
noncomputable def gO:Option D->Option D->Option D:=b2 (bI Ib λi j=>.int (i / j))
noncomputable def bW:Option D->Option D->Option D:=b2 (bI H9 λi j=>.int (i%j))
noncomputable def cI (g:Int->Int->Bool):Option D->Option D->Option Bool:=b2 λx y=>match x,y with|.int i,.int j=>U (g i j)|_,_=>B
noncomputable abbrev gLt:Int->Int->Bool:=λi j=>decide (i<j)
noncomputable abbrev gGt:Int->Int->Bool:=λi j=>decide (j<i)
noncomputable abbrev gGe:Int->Int->Bool:=λi j=>decide (j<=i)
noncomputable def tyB (x:Option D):Option Bool:=match x with|some (.bl b)=>U b|_=>B
noncomputable def ofB (x:Option Bool):Option D:=match x with|some b=>U (.bl b)|none=>B
noncomputable def mN (x y:Option Bool):Option Bool:=match x with|some V=>y|some Y=>U Y|none=>B
noncomputable def orO (x y:Option Bool):Option Bool:=match x with|some V=>U V|some Y=>y|none=>B
noncomputable def fM (x:Option Bool):Option Bool:=match x with|some c=>U (!c)|none=>B
noncomputable def GZ (x y:Option D):Option D:=match tyB x with|some V=>y|some Y=>U (.bl Y)|none=>B
noncomputable def ifV {α:Type}(c:Option Bool) (x y:Option α):Option α:=match c with|some V=>x|some Y=>y|none=>B
noncomputable def aa (x:Option D) (y:Option (List D)):Option (List D):=match x,y with|some d,U ds=>U (d::ds)|_,_=>B
noncomputable def bF (x:Option (List D)):Option D:=ae x λds=>gd (decide (ds.length<=lim)) (.tup ds)
noncomputable def cX (x:Option (List D)):Option D:=ae x λds=>gd (decide (ds.length<=lim)) (.lst ds)
noncomputable def okD:Nat->D->Bool
 |_,.non=>V
 |_,.int _=>V
 |_,.str _=>V
 |n+1,.tup ds=>ds.all (okD n)
 |n+1,.lst ds=>ds.all (okD n)
 |_,_=>Y
noncomputable def ok2 (x y:D):Bool:=okD 16 x&&okD 16 y
noncomputable def eqO:Option D->Option D->Option Bool:=b2 λd e=>gd (ok2 d e) (decide (d=e))
noncomputable def neO (x y:Option D):Option Bool:=fM (eqO x y)
noncomputable def dm:D->Option (List D)
 |.lst ds=>U ds
 |.tup ds=>U ds
 |_=>B
noncomputable def inO:Option D->Option D->Option Bool:=b2 λd e=>ae (dm e) λes=>gd (okD 16 d&&es.all (okD 16)) (decide (d∈es))
noncomputable def bC (x y:Option D):Option Bool:=fM (inO x y)
mutual
noncomputable def D.flat:D->Bool
 |.non=>V|.bl _=>V|.int _=>V|.str _=>V
 |.tup ds=>D.flats ds
 |.lst _=>Y|.dK _ _=>Y|.dD _ _=>Y|.ptr _=>Y
noncomputable def D.flats:List D->Bool
 |[]=>V
 |d::ds=>d.flat&&D.flats ds
end
theorem D.flats_all:∀ds:List D,D.flats ds=ds.all D.flat
 |[]=>rfl
 |d::ds=>by simp only[D.flats,JC,D.flats_all ds]
noncomputable def ixN (n:Nat) (i:Int):Option Nat:=if 0<=i then(if i<n then U i.toNat else B) else if -(n:Int)<=i then U (i+n).toNat else B
noncomputable def atI {α:Type}(xs:List α) (i:Int):Option α:=(ixN xs.length i).bind λj=>xs[j]?
noncomputable def ixO:Option D->Option D->Option D:=b2 λd e=>match e with|.int i=>ae (dm d) λds=>atI ds i|_=>B
noncomputable def AN:Option D->Option D->Option D:=b2 λd e=>match d,e with|.str z,.int i=>if z.length<=lim then ae (atI z.cps.toList i) λc=>U (.str ⟨#[c]⟩) else B|_,_=>B
noncomputable def cE (x:Option D):Option D:=ae x λd=>ae (dm d) λds=>U (.int ds.length)
noncomputable def EL (x:Option D):Option D:=ae x λd=>match d with|.str z=>if z.length<=lim then U (.int z.length) else B|_=>B
noncomputable def eQ (x:Option D):Option D:=ae x λd=>ae (dm d) λds=>U (.lst ds)
noncomputable def cK (x:Option D):Option D:=ae x λd=>ae (dm d) λds=>U (.tup ds)
noncomputable def sIx (n d:Nat):Option Int->Nat
 |none=>d
 |some v=>if v<0 then(v+(n:Int)).toNat else min v.toNat n
noncomputable def rG {α:Type}(ds:List α) (lo hi:Option Int):List α:=(ds.drop (sIx ds.length 0 lo)).take (sIx ds.length ds.length hi - sIx ds.length 0 lo)
noncomputable def oX (x:IX) (lo hi:Option Int):IX:=if((Ls lo hi 1 x.length).length==x.length)=V then x else⟨((Ls lo hi 1 x.length).filterMap (x.cps[·]?)).toArray⟩
noncomputable def cx (x:Option D):Option (Option Int):=match x with|some (.int i)=>U (U i)|_=>B
noncomputable def b3 {α:Type}(g:D->Option Int->Option Int->Option α) (x:Option D) (l u:Option (Option Int)):Option α:=ae x λx=>ae l λl=>ae u λu=>g x l u
noncomputable def wC:Option D->Option (Option Int)->Option (Option Int)->Option D:=b3 λd l u=>match d with|.lst ds=>U (.lst (rG ds l u))|_=>B
noncomputable def iZ:Option D->Option (Option Int)->Option (Option Int)->Option D:=b3 λd l u=>match d with|.str z=>if z.length<=lim then U (.str (oX z l u)) else B|_=>B
noncomputable def Gu:Option D->Option D->Option D:=b2 λx y=>match x,y with|.str i,.str j=>if i.length+j.length<=lim then U (.str (i++j)) else B|_,_=>B
noncomputable def Bp:Option D->Option D->Option D:=b2 λx y=>match x,y with|.tup i,.tup j=>if i.length+j.length<=lim then U (.tup (i++j)) else B|_,_=>B
noncomputable def pY:Option D->Option D->Option D:=b2 λx y=>match x,y with|.lst i,.lst j=>if i.length+j.length<=lim then U (.lst (i++j)) else B|_,_=>B
noncomputable def Aw:Option D->Option D->Option D:=b2 λx y=>match x,y with|.lst i,.lst j=>if(decide (i.length+j.length<=lim)&&(D.flats i&&D.flats j))=V then U (.lst (i++j)) else B|_,_=>B
noncomputable def zF (x:Option D):Option D:=match x with|some (.int i)=>U (.int (-i))|_=>B
noncomputable def tyD:D->Option String
 |.tup _=>U "tuple"|.lst _=>U "list"|_=>B
noncomputable def HW (t c:String):Bool:=t==c
noncomputable def EO (c:String) (x:Option D):Option D:=ae x λd=>ae (tyD d) λt=>U (.bl (HW t c))
noncomputable def wg:List D->Option (List IX)
 |[]=>U []
 |.str i::ds=>(match wg ds with|some l=>U (i::l)|none=>B)
 |_=>B
noncomputable def sv:List D->Option (List Bool)
 |[]=>U []
 |.bl b::ds=>(match sv ds with|some bs=>U (b::bs)|none=>B)
 |_=>B
noncomputable def AL:Option D->Option D->Option D:=b2 λx y=>match x,y with|.str z,.lst ds=>ae (wg ds) λys=>if(ys.map (·.length)).sum+ys.length*z.length<=16777216 then U (.str (OZ z ys)) else B|_,_=>B
noncomputable def GV (x:Option D):Option D:=match x with|some (.lst ds)=>ae (sv ds) λbs=>U (.bl (bs.any id))|_=>B
noncomputable def Gf (x:Option D):Option D:=match x with|some (.lst ds)=>ae (sv ds) λbs=>U (.bl (bs.all id))|_=>B
noncomputable def G3:Option D->Option D->Option D:=b2 λx d=>match x with
 |.lst ds=>if okD 16 d=V/\ds.all (okD 16)=V/\ds.idxOf d<ds.length/\ds.length<=lim then U (.int (ds.idxOf d)) else B
 |_=>B
noncomputable def wP (x:Option D):Option Bool:=match x with|some d=>U (decide (d=.non))|none=>B
noncomputable def zw (x:Option D):Option Bool:=match x with
 |some .non=>U Y
 |some (.bl b)=>U b
 |some (.int i)=>U (i != 0)
 |some (.str y)=>if y.length<=lim then U ((y.length:Int) != 0) else B
 |some (.lst ds)=>U (!ds.isEmpty)
 |some (.tup ds)=>U (!ds.isEmpty)
 |_=>B
inductive Out where
 |next (δ:DEnv)|ret (d:D) (fr:Bool)|brk (δ:DEnv)|cont (δ:DEnv)
noncomputable def nextO (δ:DEnv):Option Out:=U (.next δ)
noncomputable def ak (x:Option Out) (k:DEnv->Option Out):Option Out:=match x with|some (.next δ)=>k δ|o=>o
noncomputable def ifO (c:Option Bool) (x y:Option Out):Option Out:=match c with|some V=>x|some Y=>y|none=>B
noncomputable def aH (i:Nat) (x:Option D) (δ:DEnv):Option Out:=match x with|some d=>if i<δ.length then U (.next (δ.set i (U (d,Y)))) else B|none=>B
noncomputable def eC (i:Nat) (x:Option D) (δ:DEnv):Option Out:=match x with|some d=>if i<δ.length then U (.next (δ.set i (U (d,V)))) else B|none=>B
noncomputable def aW (x:Option D):Option Out:=match x with|some d=>U (.ret d Y)|none=>B
noncomputable def c9 (x:Option D):Option Out:=match x with|some d=>U (.ret d V)|none=>B
noncomputable def aV (i:Nat) (δ:DEnv):Option D:=match δ[i]? with|some (U (d,V))=>U d|_=>B
noncomputable def iE (i:Nat) (δ:DEnv):DEnv:=match δ[i]? with|some (U (d,V))=>δ.set i (U (d,Y))|_=>δ
noncomputable def jA (i:Nat) (x:Option D) (δ:DEnv):Option Out:=match aV i δ,x with|some (.lst ds),U d=>if ds.length<lim then U (.next (δ.set i (U (.lst (ds++[d]),V)))) else B|_,_=>B
noncomputable def Cw (i:Nat) (x:Option D) (δ:DEnv):Option Out:=match aV i δ,x with|some (.lst ds),U (.lst es)=>if ds.length+es.length<=lim then U (.next (δ.set i (U (.lst (ds++es),V)))) else B|_,_=>B
noncomputable def GX (x:Option D) (τ:D->DEnv->Option DEnv) (δ:DEnv):Option Out:=match x with|some d=>(match τ d δ with|some δ'=>U (.next δ')|none=>B)|none=>B
noncomputable def af (i:Nat) (d:D) (δ:DEnv):Option DEnv:=if i<δ.length then U (δ.set i (U (d,Y))) else B
noncomputable def toNil (ds:List D) (δ:DEnv):Option DEnv:=match ds with|[]=>U δ|_=>B
noncomputable def ah (τ:D->DEnv->Option DEnv) (υ:List D->DEnv->Option DEnv) (ds:List D) (δ:DEnv):Option DEnv:=match ds with|d::r=>ae (τ d δ) (υ r)|[]=>B
noncomputable def aL (υ:List D->DEnv->Option DEnv) (d:D) (δ:DEnv):Option DEnv:=match d with|.tup ds=>υ ds δ|_=>B
noncomputable def bA (x:Option D):Option (List D):=match x with|some (.lst ds)=>U ds|_=>B
noncomputable def rB (x:Option D):Option (List D):=match x with|some (.tup ds)=>U ds|_=>B
noncomputable def iK (lo:Int) (n:Nat):List D:=(JA n).map λ(i:Nat)=>.int (lo+(i:Int))
noncomputable def rD (x:Option D):Option (List D):=match x with|some (.int j)=>if(decide (-(2 ^ 62)<=j/\j<2 ^ 62))=V then U (iK 0 j.toNat) else B|_=>B
noncomputable def am (body:D->DEnv->Option Out):List D->DEnv->Option Out
 |[],δ=>U (.next δ)
 |d::ds,δ=>match body d δ with
  |some (.next δ')=>am body ds δ'
  |some (.cont δ')=>am body ds δ'
  |some (.brk δ')=>U (.next δ')
  |some (.ret e fr)=>U (.ret e fr)
  |none=>B
noncomputable def aP (t:DEnv->Option Bool) (b:DEnv->Option Out):Nat->DEnv->Option Out
 |0,_=>B
 |n+1,δ=>match t δ with
  |none=>B
  |some Y=>U (.next δ)
  |some V=>match b δ with
   |some (.next δ')=>aP t b n δ'
   |some (.cont δ')=>aP t b n δ'
   |some (.brk δ')=>U (.next δ')
   |some (.ret e fr)=>U (.ret e fr)
   |none=>B
noncomputable def shO (x:Option (D×Bool)):Option D:=match x with|some (d,_)=>U d|none=>B
noncomputable def frO (x:Option (D×Bool)):Option D:=match x with|some (.tup _,V)=>B|some (d,V)=>U d|_=>B
noncomputable def flO (x:Option (D×Bool)):Option D:=match x with|some (.lst ds,V)=>if D.flats ds=V then U (.lst ds) else B|_=>B
noncomputable def cz (n:Nat) (ds:List D):DEnv:=ds.map (λd=>U (d,Y))++List.replicate (n - ds.length) B
noncomputable def jC (x:Option Out):Option (D×Bool):=match x with|some (.ret d fr)=>U (d,fr)|some (.next _)=>U (.non,Y)|_=>B
noncomputable def bv (n np:Nat) (g:DEnv->Option Out) (ds:List D):Option (D×Bool):=if ds.length=np then jC (g (cz n ds)) else B
noncomputable def aJ (h:D->Option (Option D)):List D->Option (List D)
 |[]=>U []
 |d::ds=>match h d with
  |none=>B
  |some B=>aJ h ds
  |some (U y)=>match aJ h ds with
   |some l=>U (y::l)
   |none=>B
noncomputable def aG (bo:Bool) (bs:List Bool) (δ:DEnv):DEnv:=List.zipWith (λ(b:Bool) (o:Option (D×Bool))=>if b=V then(match o with|some (d,ow)=>if(ow&&!bo)=V then B else U (d,Y)|none=>B) else B) bs δ
noncomputable def au (τ:D->DEnv->Option DEnv) (ft:DEnv->Option Bool) (fe:DEnv->Option D) (δ:DEnv) (d:D):Option (Option D):=ae (τ d δ) λδ'=>match ft δ' with|some V=>(match fe δ' with|some y=>U (U y)|none=>B)|some Y=>U B|none=>B
noncomputable def bj (bo:Bool) (bs:List Bool) (τ:D->DEnv->Option DEnv) (ft:DEnv->Option Bool) (fe:DEnv->Option D) (δ:DEnv) (ds:List D):Option (List D):=if ds.length<=lim then aJ (au τ ft fe (aG bo bs δ)) ds else B
noncomputable def aj (x:Option (List D)):Option D:=match x with|some ds=>U (.lst ds)|none=>B
noncomputable def mh (x:Option (List D)):Option (List D):=match x with|some ds=>if D.flats ds=V then U ds else B|none=>B
noncomputable def qW:D->Option Key
 |.int i=>U (.inl i)
 |.str x=>U (.inr x)
 |_=>B
noncomputable def bM {κ β:Type}[DecidableEq κ] (k:κ):List κ->List β->Option β
 |x::ks,d::ds=>if x=k then U d else bM k ks ds
 |_,_=>B
noncomputable def fq {κ β:Type}[DecidableEq κ] (k:κ) (v:β):List κ->List β->List β
 |x::ks,d::ds=>(if x=k then v else d)::fq k v ks ds
 |_,_=>[]
noncomputable def kh {κ β:Type}[DecidableEq κ] (k:κ) (v:β) (ks:List κ) (ds:List β):List β:=if k∈ks then fq k v ks ds else ds++[v]
noncomputable def bH {κ:Type}[DecidableEq κ] (k:κ) (ks:List κ):List κ:=if k∈ks then ks else ks++[k]
noncomputable def iI (x k:Option D):Option (Option D):=match x,k with
 |some (.dK ks vs),U d=>(match qW d with|some kk=>U (bM kk ks vs)|none=>B)
 |some (.dD ks vs),U d=>if(cW 8 d&&uD d)=V then U (bM d ks vs) else B
 |_,_=>B
noncomputable def EP (x k:Option D):Option D:=match iI x k with|some (U d)=>U d|_=>B
noncomputable def F8 (k x:Option D):Option Bool:=match iI x k with|some o=>U o.isSome|none=>B
noncomputable def pI (x:D) (k v:D):Option D:=match x with
 |.dK ks vs=>(match qW k with|some kk=>if ks.length<lim then U (.dK (bH kk ks) (kh kk v ks vs)) else B|none=>B)
 |.dD ks vs=>if(cW 8 k&&uD k&&decide (ks.length<lim))=V then U (.dD (bH k ks) (kh k v ks vs)) else B
 |_=>B
noncomputable def Ar (i:Nat) (k v:Option D) (δ:DEnv):Option Out:=match aV i δ,k,v with
 |some x,U k,U v=>(match pI x k v with|some y=>U (.next (δ.set i (U (y,V))))|none=>B)
 |_,_,_=>B
noncomputable def sdO (i:Nat) (k v:Option D) (δ:DEnv):Option (D×DEnv):=match aV i δ,k,v with
 |some x,U kd,U vd=>(match iI (U x) (U kd)with
  |some (U d)=>U (d,δ)
  |some B=>(match pI x kd vd with|some y=>U (vd,δ.set i (U (y,V)))|none=>B)
  |none=>B)
 |_,_,_=>B
noncomputable def ifX (t:Option (Bool×DEnv)) (g1 g2:DEnv->Option Out):Option Out:=match t with
 |some (V,δ)=>g1 δ
 |some (Y,δ)=>g2 δ
 |none=>B
noncomputable def yA (x:Option D):Option (List D):=match x with|some (.dD ks vs)=>U ks|_=>B
noncomputable def cO (x k y:Option D):Option D:=match iI x k,y with|some o,U z=>U (o.getD z)|_,_=>B
noncomputable def yp (x:Option D):Option D:=match x with|some (.dD ks vs)=>U (.lst ks)|_=>B
noncomputable def ud:D->Option (D×D)
 |.tup [k,v]=>if(cW 8 k&&uD k)=V then U (k,v) else B
 |_=>B
noncomputable def iG:List D->Option (List (D×D))
 |[]=>U []
 |d::ds=>match ud d,iG ds with|some p,U ps=>U (p::ps)|_,_=>B
noncomputable def oB:List D->List D->List (D×D)->List D×List D
 |ks,vs,[]=>(ks,vs)
 |ks,vs,p::ps=>oB (bH p.1 ks) (kh p.1 p.2 ks vs) ps
noncomputable def jR (x:Option D):Option D:=match x with|some (.lst ds)=>(match iG ds with|some ps=>if ds.length<lim then U (.dD (oB [] [] ps).1 (oB [] [] ps).2) else B|none=>B)|_=>B
end L2
namespace L2
open PySem PySem.Spec PyProof.Rows Md
variable[Md]
noncomputable def plE:Expr->Bool|.Starred .. =>Y|.Slice .. =>Y|.Set .. =>Y|.Call (.Name ..) [] [] _=>Y|_=>V
theorem bB (h:plE e=V):starEach (e::es) v=(Y,eval e v)::starEach es v:=by cases e<;>first|rfl|cases h
theorem vD (h:plE e=V):subscripted e Y o i=operate [o,i] (getItem o i):=by cases e<;>first|rfl|cases h
theorem nL (h:plE e=V):behindInMarks op e=Y:=by cases e<;>first|rfl|cases h
theorem kK (h:plE e=V):foldedSetIterable e v x=pure x:=by cases e<;>first|rfl|cases h
theorem w0 (h:plE e=V):attributeBase e n v t=t:=by
 cases e with
 |Call f as ks p=>cases f<;>first|rfl|(cases as<;>first|rfl|(cases ks<;>first|rfl|cases h))
 |_=>rfl
noncomputable abbrev Post (X:Cx) (M:Mp) (δ:DEnv) (m:Bool) (d:D) (Q:IA->IB->Prop):Prop:=∀v s' M',Ext M M'->Inv X M' δ s'->R m M' d v->Q v s'
structure DE (X:Cx) (m:Bool) (e:Expr) (f:DEnv->Option D):Prop where
 pl:plE e=V
 ev:∀{M δ s d} {Q:IA->IB->Prop},Inv X M δ s->f δ=U d->Post X M δ m d Q->WP X (eval e X.env) Q s
noncomputable abbrev PostF (X:Cx) (M:Mp) (δ:DEnv) (d:D) (Q:IA->IB->Prop):Prop:=∀a o s' M',Ext M M'->Inv X M' δ s'->Free X M' a->s'.heap.get? a=U o->C M' d o->Q (.ref a) s'
structure DF (X:Cx) (e:Expr) (f:DEnv->Option D):Prop where
 pl:plE e=V
 ev:∀{M δ s d} {Q:IA->IB->Prop},Inv X M δ s->f δ=U d->PostF X M δ d Q->WP X (eval e X.env) Q s
noncomputable def DT (X:Cx) (e:Expr) (f:DEnv->Option Bool):Prop:=∀{M δ s c} {Q:Bool->IB->Prop},Inv X M δ s->f δ=U c->(∀s' M',Ext M M'->Inv X M' δ s'->Q c s')->WP X (isTrue e X.env (eval e X.env)) Q s
noncomputable def DW (X:Cx) (op:BoolOp) (es:List Expr) (f:DEnv->Option Bool):Prop:=∀{M δ s c} {Q:Bool->IB->Prop},Inv X M δ s->f δ=U c->(∀s' M',Ext M M'->Inv X M' δ s'->Q c s')->WP X (allTrue op es X.env) Q s
structure DA (X:Cx) (m:Bool) (es:List Expr) (f:DEnv->Option (List D)):Prop where
 pl:es.all plE=V
 ev:∀{M δ s ds} {Q:List IA->IB->Prop},Inv X M δ s->f δ=U ds->(∀vs s' M',Ext M M'->Inv X M' δ s'->Rs m M' ds vs->Q vs s')->∀pos,WP X (spliced (backTo pos (starEach es X.env))) Q s
theorem thn {α:Type}{t:Op α}{Q Q':α->IB->Prop}{M:Model}{A:Jj}{E:IA->IB->Prop}{s:IB}(h:wpAny M A t Q E s) (hQ:∀a s,Q a s->Q' a s):wpAny M A t Q' E s:=KP h hQ λ_ _ x=>x
section
variable{X:Cx}{M M':Mp}{δ:DEnv}{s:IB}{Q:IA->IB->Prop}{a b:Expr}{fa fb:DEnv->Option D}{m m' mm:Bool}{pos:Ov}
theorem Post.to (k:Post X M δ m d Q) (h:Ext M M'):Post X M' δ m d Q:=λv s' M'' e=>k v s' M'' (h.trans e)
theorem PostF.to (k:PostF X M δ d Q) (h:Ext M M'):PostF X M' δ d Q:=λa o s' M'' e=>k a o s' M'' (h.trans e)
theorem DF.share (h:DF X a fa):DE X m a fa:=⟨h.pl,λI e k=>h.ev I e λb o s' M' x I' f q c=>k _ s' _ (x.trans (fF f.m)) (I'.put f q) (c.rep (λ_ _ q=>Sub.weak _ _ (eP f.m _ _ q)) ⟨.f,aq,rfl⟩)⟩
structure Nm (X:Cx) (i:Nat) (x:IX):Prop where
 n:X.N[i]?=U x
 v:Vis X.env.scope x
 d:(x==("__debug__":IX))=Y
 c:(x==("__classdict__":IX))=Y
theorem Inv.load {E:IA->IB->Prop}(I:Inv X M δ s) (h:Nm X i x) (e:δ[i]?=U (U (d,o))) (k:∀v,Va M i d v o->Q v s):wpAny (model P w) X.A (loadName X.env x) Q E s:=by
 obtain⟨m,hn,hl⟩:=I.loc;obtain⟨u,l,r⟩:=hl i x d o h.n e h.v
 rcases l with⟨hk,hm⟩|⟨hk|hk,c,hc,hcell⟩
 ·exact wpAny_loadName_local I.ok.kind hk hn hm (k u r)
 ·exact wpAny_loadName_cell I.ok.kind hk hc hcell (k u r)
 ·exact wpAny_loadName_free I.ok.kind hk hc hcell (k u r) h.c
theorem Va.rep {o:Bool}(h:Va M i d v o) (hb:o=V->m=V):R m M d v:=by
 cases o with
 |false=>exact R.weak h
 |true=>obtain⟨a,o,rfl,q,c⟩:=h;exact c.rep Sub.weak ⟨_,q,hb rfl⟩
theorem wS (h:rd m i δ=U d):∃b,δ[i]?=U (U (d,b))/\(b=V->m=V):=by
 unfold rd at h;split at h
 ·simp_all
 ·cases h
theorem nv (m:Bool) (h:Nm X i x):DE X m (.Name x pos) (rd m i):=⟨rfl,λI e k=>by
 obtain⟨b,e,hb⟩:=wS e;exact L0 (I.load h e λv r=>k v _ _ Ext.refl I (r.rep hb)) h.d⟩
theorem F2:DE X m (.Constant (.int i) j pos) (λ_=>U (.int i)):=⟨rfl,λI e k=>by cases e;exact wpAny_Constant_int (k _ _ _ Ext.refl I.tok ⟨_,rfl⟩)⟩
theorem Ff:DE X m (.Constant (.str x) j pos) (λ_=>U (.str x)):=⟨rfl,λI e k=>by cases e;exact Calls.Constant_str (k _ _ _ Ext.refl I.tok ⟨_,rfl⟩)⟩
theorem HH:DE X m (.Constant (.bool x) j pos) (λ_=>U (.bl x)):=⟨rfl,λI e k=>by cases e;exact Constant_bool (k _ _ _ Ext.refl I rfl)⟩
theorem EW:DE X m (.Constant .none j pos) (λ_=>U .non):=⟨rfl,λI e k=>by cases e;exact Constant_none (k _ _ _ Ext.refl I rfl)⟩
theorem R.tt (h:R m M d v):R V M d v:=h.to λa o ⟨k,e,q⟩=>⟨k,e,by cases k<;>simp_all [Rl.ok]⟩
noncomputable def OpS (X:Cx) (f:IA->IA->Op IA) (g:D->D->Option D):Prop:=∀{M δ s x y v u d mm} {Q:IA->IB->Prop},Inv X M δ s->R V M x v->R V M y u->g x y=U d->Post X M δ mm d Q->WP X (f v u) Q s
theorem two {α β:Type}{g:D->D->Option α}{d:α}{f:IA->IA->Op β}{Q:β->IB->Prop}(ha:DE X m a fa) (hb:DE X m' b fb) (I:Inv X M δ s) (e:b2 g (fa δ) (fb δ)=U d) (k:∀x y v u s' M',Ext M M'->Inv X M' δ s'->R m M' x v->R m' M' y u->g x y=U d->WP X (f v u) Q s'):
  WP X (eval a X.env) (λv s₁=>WP X (eval b X.env) (λu s₂=>WP X (f v u) Q s₂) s₁) s:=by
 obtain⟨x,y,e1,e2,e3⟩:=iP e;exact ha.ev I e1 λv s1 M1 x1 I1 r1=>hb.ev I1 e2 λu s2 M2 x2 I2 r2=>k x y v u s2 M2 (x1.trans x2) I2 (r1.up x2) r2 e3
theorem wB {g:D->D->Option D}(ho:OpS X (binaryOp op) g) (ha:DE X m a fa) (hb:DE X m' b fb):DE X mm (.BinOp a op b pos) (λδ=>b2 g (fa δ) (fb δ)):=
 ⟨rfl,λI e k=>O4 (two ha hb I e λx y v u s2 M2 x2 I2 r1 r2 e3=>ho I2 r1.tt r2.tt e3 (Post.to k x2))⟩
theorem opI {f:IA->IA->Op IA}{C:Int->Int->Bool}{g:Int->Int->Int}
  (rule:∀(i j:Int) (t u:Tok) (s:IB) (Q:IA->IB->Prop),C i j=V->Q (.int (g i j) s.toks) {s with toks:=s.toks+1}->WP X (f (.int i t) (.int j u)) Q s):
  OpS X f (bI C λi j=>.int (g i j)):=λ{M δ s x y v u d mm Q} I r1 r2 e k=>by
 cases x<;>cases y<;>try cases e
 obtain⟨hc,rfl⟩:=gF e;obtain⟨t,rfl⟩:=r1;obtain⟨t',rfl⟩:=r2;exact rule _ _ _ _ _ _ hc (k _ _ _ Ext.refl I.tok ⟨_,rfl⟩)
theorem EX (ha:DE X m a fa) (hb:DE X m' b fb):DE X mm (.BinOp a .Add b pos) (λδ=>bY (fa δ) (fb δ)):=wB (opI λ_ _ _ _ _ _ _ q=>add_int q) ha hb
theorem Fu (ha:DE X m a fa) (hb:DE X m' b fb):DE X mm (.BinOp a .Mult b pos) (λδ=>uP (fa δ) (fb δ)):=wB (opI λi j _ _ _ _ c q=>mul_int q (by
 rcases of_decide_eq_true c with⟨h1,h2⟩|⟨h1,h2⟩
 ·exact .of_left (intBits_le_64 h1 h2)
 ·exact .of_right (intBits_le_64 h1 h2))) ha hb
theorem EY (ha:DE X m a fa) (hb:DE X m' b fb):DE X mm (.BinOp a .FloorDiv b pos) (λδ=>gO (fa δ) (fb δ)):=wB (opI λi j _ _ _ _ c q=>by
 have c:=of_decide_eq_true c;exact floordiv_int (by lia) (by rw[Int.fdiv_eq_ediv_of_nonneg i (by lia)];exact q) (.inl (PyProof.noPylong_small (by lia)))) ha hb
theorem F3 (ha:DE X m a fa) (hb:DE X m' b fb):DE X mm (.BinOp a .Mod b pos) (λδ=>bW (fa δ) (fb δ)):=wB (opI λi j _ _ _ _ c q=>by
 have c:=of_decide_eq_true c;exact mod_int' (by lia) (by rw[Int.fmod_eq_emod_of_nonneg i (by lia)];exact q)) ha hb
noncomputable def CmS (X:Cx) (op:CmpOp) (g:D->D->Option Bool):Prop:=∀{M δ s x y v u c} {Q:IA->IB->Prop},Inv X M δ s->R V M x v->R V M y u->g x y=U c->(∀s',Inv X M δ s'->Q (.bool c) s')->WP X (compareOp op v u) Q s
theorem vv (h:ofB x=U d):∃c,x=U c/\d=.bl c:=by
 cases x with
 |none=>cases h
 |some c=>cases h;exact⟨c,rfl,rfl⟩
theorem CX {g:D->D->Option Bool}(ho:CmS X op g) (ha:DE X m a fa) (hb:DE X m' b fb):DE X mm (.Compare a [op] [b] pos) (λδ=>ofB (b2 g (fa δ) (fb δ))):=
 ⟨rfl,λI e k=>by
  obtain⟨c,e',rfl⟩:=vv e;exact wpAny_Compare1 (two (f:=compareOp op) ha hb I e' λx y v u s2 M2 x2 I2 r1 r2 e3=>ho I2 r1.tt r2.tt e3 λs3 I3=>k _ s3 M2 x2 I3 rfl) (nL hb.pl)⟩
theorem yC {g:D->D->Option Bool}(ho:CmS X op g) (ha:DE X m a fa) (hb:DE X m' b fb):DT X (.Compare a [op] [b] pos) (λδ=>b2 g (fa δ) (fb δ)):=λI e k=>
 LP (two (f:=compareOp op) ha hb I e λx y v u s2 M2 x2 I2 r1 r2 e3=>ho I2 r1.tt r2.tt e3 λs3 I3=>JW (k s3 M2 x2 I3)) (nL hb.pl)
theorem cmI {g:Int->Int->Bool}(rule:∀(i j:Int) (t u:Tok) (s:IB) (Q:IA->IB->Prop),Q (.bool (g i j)) s->WP X (compareOp op (.int i t) (.int j u)) Q s):CmS X op (λx y=>match x,y with|.int i,.int j=>U (g i j)|_,_=>B):=
 λ{M δ s x y v u c Q} I r1 r2 e k=>by
 cases x<;>cases y<;>try cases e
 obtain⟨t,rfl⟩:=r1;obtain⟨t',rfl⟩:=r2;exact rule _ _ _ _ _ _ (k _ I)
theorem HF:CmS X .Lt (λx y=>match x,y with|.int i,.int j=>U (gLt i j)|_,_=>B):=cmI λ_ _ _ _ _ _ q=>lt_int q
theorem HQ:CmS X .Gt (λx y=>match x,y with|.int i,.int j=>U (gGt i j)|_,_=>B):=cmI λ_ _ _ _ _ _ q=>gt_int q
theorem Hw:CmS X .GtE (λx y=>match x,y with|.int i,.int j=>U (gGe i j)|_,_=>B):=cmI λ_ _ _ _ _ _ q=>ge_int q
theorem GH {g:Int->Int->Bool}(ho:CmS X op (λx y=>match x,y with|.int i,.int j=>U (g i j)|_,_=>B)) (ha:DE X m a fa) (hb:DE X m' b fb):DT X (.Compare a [op] [b] pos) (λδ=>cI g (fa δ) (fb δ)):=yC ho ha hb
theorem uK (h:tyB x=U c):x=U (.bl c):=by unfold tyB at h;split at h<;>simp_all
noncomputable def plT:Expr->Bool|.UnaryOp .Not .. =>Y|.BoolOp .. =>Y|.IfExp .. =>Y|.Compare .. =>Y|_=>V
theorem zk (h:plT e=V):isTrue e v t=(do let v <-t;standAt e.pos;holding [v] (truthy v)):=by
 cases e with
 |UnaryOp op x p=>cases op<;>first|rfl|cases h
 |_=>first|rfl|cases h
theorem Fa (h:plT a=V) (ha:DE X m a fa):DT X a (λδ=>tyB (fa δ)):=λI e k=>
 isTrue_plain (ha.ev I (uK e) λv s1 M1 x1 I1 r1=>by cases r1;exact JW (k _ _ x1 I1)) (zk h)
variable{ga gb:DEnv->Option Bool}{es:List Expr}{fs:DEnv->Option (List D)}
theorem Fp (ha:DT X a ga):DW X op [a] ga:=λ{M δ s c Q} I e k=>by
 cases op
 ·exact Ix (ha I e λs1 M1 x1 I1=>by cases c<;>exact Iy (k _ _ x1 I1))
 ·exact Ix (ha I e λs1 M1 x1 I1=>by cases c<;>exact Iy (k _ _ x1 I1))
theorem E9 (ha:DT X a ga) (hb:DW X .And (b::es) gb):DW X .And (a::b::es) (λδ=>mN (ga δ) (gb δ)):=λ{M δ s c Q} I e k=>by
 cases q:ga δ with
 |none=>simp[mN,q]at e
 |some g=>
  simp only[mN,q]at e;refine Ix (ha I q λs1 M1 x1 I1=>?_)
  cases g
  ·cases e;exact Iy (k _ _ x1 I1)
  ·exact hb I1 e λs2 M2 x2=>k _ _ (x1.trans x2)
theorem Hg (ha:DT X a ga) (hb:DW X .Or (b::es) gb):DW X .Or (a::b::es) (λδ=>orO (ga δ) (gb δ)):=λ{M δ s c Q} I e k=>by
 cases q:ga δ with
 |none=>simp[orO,q]at e
 |some g=>
  simp only[orO,q]at e;refine Ix (ha I q λs1 M1 x1 I1=>?_)
  cases g
  ·exact hb I1 e λs2 M2 x2=>k _ _ (x1.trans x2)
  ·cases e;exact Iy (k _ _ x1 I1)
theorem Ep (h:DW X op es ga):DT X (.BoolOp op es pos) ga:=λI e k=>h I e k
theorem FY (ha:DT X a ga):DT X (.UnaryOp .Not a pos) (λδ=>fM (ga δ)):=λ{M δ s c Q} I e k=>by
 cases q:ga δ with
 |none=>simp[fM,q]at e
 |some g=>
  simp only[fM,q]at e;cases e;exact isTrue_not (ha I q k)
theorem EB {op:BoolOp}(ha:DE X mm a fa):DE X mm (.BoolOp op [a] pos) fa:=⟨rfl,λI e k=>BoolOp_one (ha.ev I e k)⟩
theorem Ex (ha:DE X m a fa) (hb:DE X mm (.BoolOp .And (b::es) pos) fb):DE X mm (.BoolOp .And (a::b::es) pos) (λδ=>GZ (fa δ) (fb δ)):=⟨rfl,λ{M δ s d Q} I e k=>by
 cases q:tyB (fa δ)with
 |none=>simp[GZ,q]at e
 |some g=>
  simp only[GZ,q]at e;refine BoolOp_and (ha.ev I (uK q) λv s1 M1 x1 I1 r1=>?_)
  cases r1;refine JW ?_
  cases g
  ·cases e;exact k _ _ _ x1 I1 rfl
  ·exact hb.ev I1 e (Post.to k x1)⟩
theorem ES {c:Expr}{fc:DEnv->Option Bool}(hc:DT X c fc) (ha:DE X mm a fa) (hb:DE X mm b fb):DE X mm (.IfExp c a b pos) (λδ=>ifV (fc δ) (fa δ) (fb δ)):=⟨rfl,λ{M δ s d Q} I e k=>by
 cases q:fc δ with
 |none=>simp[ifV,q]at e
 |some g=>
  simp only[ifV,q]at e;refine wpAny_IfExp (hc I q λs1 M1 x1 I1=>?_)
  cases g
  ·exact hb.ev I1 e (Post.to k x1)
  ·exact ha.ev I1 e (Post.to k x1)⟩
theorem v6 (h:aa x y=U l):∃d ds,x=U d/\y=U ds/\l=d::ds:=by unfold aa at h;split at h<;>simp_all
theorem cL:DA X m [] (λ_=>U []):=⟨rfl,λI e k pos=>by cases e;exact KV (k [] _ _ Ext.refl I rfl)⟩
theorem aT (ha:DE X m a fa) (hr:DA X m es fs):DA X m (a::es) (λδ=>aa (fa δ) (fs δ)):=⟨by simp[ha.pl,hr.pl],λI e k pos=>by
 obtain⟨d,ds,e1,e2,rfl⟩:=v6 e;rw[bB ha.pl];exact Ke (ha.ev I e1 λv s1 M1 x1 I1 r1=>hr.ev I1 e2 (λvs s2 M2 x2 I2 r2=>k (v::vs) _ _ (x1.trans x2) I2 ⟨v,vs,rfl,r1.up x2,r2⟩) pos)⟩
theorem Inv.newT (I:Inv X M δ s) (r:Rs m M ds vs) (h:ds.length<=lim) (k:Post X M δ m (.tup ds) Q):Q (.ref s.heap.objs.size) {s with heap:=s.heap.push {cls:=.type "tuple",data:=.seq vs.toArray},toks:=t}:=by
 have f:=I.fresh (IM _);exact k _ _ _ (fF f.m) I.new ⟨_,_,vs,rfl,⟨.f,aq,rfl⟩,⟨by rw[<-r.length];exact aw h,rfl,_,rfl⟩,r.to (eP f.m)⟩
theorem Inv.newL (I:Inv X M δ s) (r:Rs Y M ds vs) (h:ds.length<=lim) (k:PostF X M δ (.lst ds) Q):Q (.ref s.heap.objs.size) {s with heap:=s.heap.push {cls:=.type "list",data:=.seq vs.toArray},toks:=t}:=
 k _ _ _ _ Ext.refl I.push (I.fresh (IM _)) (IF _ rfl) ⟨vs,⟨by rw[<-r.length];exact aw h,_,rfl⟩,r⟩
theorem FT {x1:Nat}(h:DA X m es fs):DE X m (.Tuple es x1 pos) (λδ=>bF (fs δ)):=⟨rfl,λI e k=>by
 obtain⟨ds,e1,e2⟩:=ag e;obtain⟨hl,rfl⟩:=gF e2;exact wpAny_Tuple_spliced (h.ev I e1 (λvs s1 M1 x1 I1 r1=>⟨by rw[<-r1.length];exact aw (of_decide_eq_true hl),I1.newT r1 (of_decide_eq_true hl) (Post.to k x1)⟩) pos)⟩
theorem Fm (h:DA X Y es fs):DF X (.List es pos) (λδ=>cX (fs δ)):=⟨rfl,λI e k=>by
 obtain⟨ds,e1,e2⟩:=ag e;obtain⟨hl,rfl⟩:=gF e2;exact wpAny_List_spliced (h.ev I e1 (λvs s1 M1 x1 I1 r1=>⟨by rw[<-r1.length];exact aw (of_decide_eq_true hl),I1.newL r1 (of_decide_eq_true hl) (PostF.to k x1)⟩) pos)⟩
end
end L2
namespace L2
open PySem PySem.Spec PyProof.Rows Md
variable[Md]
theorem CG (h:okD n (.tup ds)=V):∃k,n=k+1/\ds.all (okD k)=V:=by cases n with|zero=>cases h|succ k=>exact⟨k,rfl,h⟩
theorem C9 (h:okD n (.lst ds)=V):∃k,n=k+1/\ds.all (okD k)=V:=by cases n with|zero=>cases h|succ k=>exact⟨k,rfl,h⟩
theorem shp (hd:okD n d=V) (r:R m M d u):(d=.non/\u=.none)\/(∃i t,d=.int i/\u=.int i t)\/(∃i t,d=.str i/\u=.str i t)\/
  (∃ds a o vs k,d=.tup ds/\u=.ref a/\n=k+1/\ds.all (okD k)=V/\Rd m M a o/\TupO o vs/\Rs m M ds vs)\/∃ds a o vs k,d=.lst ds/\u=.ref a/\n=k+1/\ds.all (okD k)=V/\Rd m M a o/\LstO o vs/\Rs m M ds vs:=by
 cases d with
 |non=>exact .inl ⟨rfl,r⟩
 |int i=>obtain⟨t,rfl⟩:=r;exact .inr (.inl ⟨_,_,rfl,rfl⟩)
 |str i=>obtain⟨t,rfl⟩:=r;exact .inr (.inr (.inl ⟨_,_,rfl,rfl⟩))
 |tup ds=>obtain⟨a,o,vs,rfl,r1,r2,r3⟩:=r;obtain⟨k,rfl,h⟩:=CG hd;exact .inr (.inr (.inr (.inl ⟨_,a,o,vs,k,rfl,rfl,rfl,h,r1,r2,r3⟩)))
 |lst ds=>obtain⟨a,o,vs,rfl,r1,r2,r3⟩:=r;obtain⟨k,rfl,h⟩:=C9 hd;exact .inr (.inr (.inr (.inr ⟨_,a,o,vs,k,rfl,rfl,rfl,h,r1,r2,r3⟩)))
 |_=>simp[okD]at hd
theorem Rd.eq (h:Rd m M a o) (h':Rd m' M a o'):o=o':=by obtain⟨_,e,_⟩:=h;obtain⟨_,e',_⟩:=h';rw[e]at e';cases e';rfl
theorem TupO.inj (h:TupO o us) (h':TupO o vs):us=vs:=by obtain⟨_,_,n,e⟩:=h;obtain⟨_,_,n',e'⟩:=h';rw[e]at e';injection e' with z;simpa using congrArg Pl z
theorem LstO.inj (h:LstO o us) (h':LstO o vs):us=vs:=by obtain⟨_,n,rfl⟩:=h;obtain⟨_,n',e'⟩:=h';injection e' with _ _ z;injection z with z;simpa using congrArg Pl z
theorem Rs.inj' {n n':Nat}(f:∀{d e v},okD n d=V->okD n' e=V->R m M d v->R m' M e v->d=e):∀{ds es vs},ds.all (okD n)=V->es.all (okD n')=V->Rs m M ds vs->Rs m' M es vs->ds=es
 |[],es,_,_,_,r,r'=>by subst r;cases es with|nil=>rfl|cons e es=>obtain⟨_,_,z,_⟩:=r';cases z
 |d::ds,es,_,hd,he,r,r'=>by
  obtain⟨x,t,rfl,r1,r2⟩:=r;cases es with
  |nil=>cases r'
  |cons e es=>
   obtain⟨_,_,z,q1,q2⟩:=r';cases z;rw[JC,II]at hd he;rw[f hd.1 he.1 r1 q1,Rs.inj' f hd.2 he.2 r2 q2]
theorem R.inj:∀{n n' d e v},okD n d=V->okD n' e=V->R m M d v->R m' M e v->d=e:=by
 intro n
 induction n using KN with
 |ind n ih=>
 intro n' d e v hd he r r'
 rcases shp hd r with⟨rfl,rfl⟩|⟨i,t,rfl,rfl⟩|⟨i,t,rfl,rfl⟩|⟨ds,a,o,vs,k,rfl,rfl,rfl,h1,q1,t1,r1⟩|⟨ds,a,o,vs,k,rfl,rfl,rfl,h1,q1,t1,r1⟩<;>rcases shp he r' with⟨rfl,z⟩|⟨j,t',rfl,z⟩|⟨j,t',rfl,z⟩|⟨es,b,o',us,k',rfl,z,_,h2,q2,t2,r2⟩|⟨es,b,o',us,k',rfl,z,_,h2,q2,t2,r2⟩<;>cases z<;>try rfl
 ·obtain rfl:=q1.eq q2;obtain rfl:=t1.inj t2;rw[Rs.inj' (ih k (Kj k)) h1 h2 r1 r2]
 ·obtain rfl:=q1.eq q2;obtain⟨_,_,rfl⟩:=t2;exact absurd t1.2.1 (by simp)
 ·obtain rfl:=q1.eq q2;obtain⟨_,_,rfl⟩:=t1;exact absurd t2.2.1 (by simp)
 ·obtain rfl:=q1.eq q2;obtain rfl:=t1.inj t2;rw[Rs.inj' (ih k (Kj k)) h1 h2 r1 r2]
noncomputable abbrev Hm (M:Mp) (h:Kl):Prop:=∀a k o,M a=U (k,o)->h.get? a=U o
theorem TupO.is (h:TupO o vs) (H:Hm M hp) (q:Rd m M a o):IsTup hp a vs.toArray:=by obtain⟨k,e,_⟩:=q;exact⟨o,H a k o e,h.2⟩
theorem LstO.is (h:LstO o vs) (H:Hm M hp) (q:Rd m M a o):hp.IsList a vs.toArray:=by obtain⟨k,e,_⟩:=q;obtain⟨_,n,rfl⟩:=h;exact⟨_,H a k _ e,rfl,n,rfl⟩
theorem LstO.pl (h:LstO o vs) (H:Hm M hp) (q:Rd m M a o):PlainL hp a vs.toArray:=by obtain⟨k,e,_⟩:=q;obtain⟨_,n,rfl⟩:=h;exact⟨_,n,H a k _ e,rfl,rfl,rfl⟩
theorem Cq:∀(ds es:List D),ds.length=es.length->((JA ds.length).all λj=>decide (ds[j]?=es[j]?))=decide (ds=es):=by
 intro ds es hl;rw[Ku,IW,decide_eq_true_iff];constructor
 ·intro h
  refine LK λj=>?_
  by_cases hj:j<ds.length
  ·exact of_decide_eq_true (h j (List.mem_range.mpr hj))
  ·simp_all
 ·rintro rfl;simp
theorem DJ (ds es:List D):(((JA (min ds.length es.length)).all λj=>decide (ds[j]?=es[j]?))&&ds.length==es.length)=decide (ds=es):=by
 by_cases hl:ds.length=es.length
 ·rw[hl,Nat.min_self,beq_self_eq_true,Li,<-hl,Cq ds es hl]
 ·rw[beq_false_of_ne hl,OU];exact(decide_eq_false λz=>hl (by rw[z])).symm
open SeqAt in
theorem FF {s:IB}{A:Jj}{k:Nat}(ih:∀{d e u w},okD k d=V->okD k e=V->R m M d u->R m' M e w->EqAt A s u w (decide (d=e)))
  (hd:ds.all (okD k)=V) (he:es.all (okD k)=V) (r1:Rs m M ds us) (r2:Rs m' M es vs):∀j (h1:j<us.toArray.size) (h2:j<vs.toArray.size),EqAt A s us.toArray[j] vs.toArray[j] (decide (ds[j]?=es[j]?)):=λj h1 h2=>by
 have l1:=r1.length;have l2:=r2.length;simp only[Jm]at h1 h2;obtain⟨d,e1⟩:∃d,ds[j]?=U d:=⟨ds[j]'(by lia),by simp⟩
 obtain⟨e,e2⟩:∃e,es[j]?=U e:=⟨es[j]'(by lia),by simp⟩
 obtain⟨u,hu,ru⟩:=r1.get e1;obtain⟨v,hv,rv⟩:=r2.get e2;have q:=ih ((List.all_eq_true.mp hd) _ (Jq e1)) ((List.all_eq_true.mp he) _ (Jq e2)) ru rv
 simp_all
open SeqAt in
theorem zV {s:IB}(H:Hm M s.heap):∀(n:Nat) {d e u w} (A:Jj),okD n d=V->okD n e=V->A.units+n+1<cLine->R m M d u->R m' M e w->
  RcAt A s u w (decide (d=e))/\EqAt A s u w (decide (d=e))/\RcNeAt A s u w (!decide (d=e)):=by
 intro n
 induction n using KN with
 |ind n ih=>
 intro d e u w A hd he hA rd re;have hu:A.units<cLine:=by lia
 rcases shp hd rd with⟨rfl,rfl⟩|⟨i,t',rfl,rfl⟩|⟨i,t',rfl,rfl⟩|⟨ds,a,o,vs,k,rfl,rfl,rfl,hd',q1,t1,hr⟩|⟨ds,a,o,vs,k,rfl,rfl,rfl,hd',q1,t1,hr⟩<;>rcases shp he re with⟨rfl,rfl⟩|⟨j,t,rfl,rfl⟩|⟨j,t,rfl,rfl⟩|⟨es,b,o2,us,k',rfl,rfl,z,he',q2,t2,hr2⟩|⟨es,b,o2,us,k',rfl,rfl,z,he',q2,t2,hr2⟩<;>(try have hta:=t1.is H q1)<;>try have htb:=t2.is H q2
 ·exact⟨RcAt.none_none,EqAt.same _,RcNeAt.none_none⟩
 ·exact⟨RcAt.none_int j t,EqAt.none_int j t,RcNeAt.none_int j t⟩
 ·exact⟨RcAt.none_str j t,EqAt.none_str j t,RcNeAt.none_str j t⟩
 ·exact⟨RcAt.none_tuple htb hu,EqAt.none_tuple htb hu,RcNeAt.none_tuple htb hu⟩
 ·exact⟨RcAt.none_list htb hu,EqAt.none_list htb hu,RcNeAt.none_list htb hu⟩
 ·exact⟨RcAt.int_none i t',EqAt.int_none i t',RcNeAt.int_none i t'⟩
 ·have q:decide (D.int i=D.int j)=(i==j):=by rw[Ku,decide_eq_true_iff,beq_iff_eq,D.int.injEq]
  rw[q];exact⟨RcAt.int_int i t' j t,EqAt.int_int i t' j t,RcNeAt.int_int i t' j t⟩
 ·exact⟨RcAt.int_str i t' j t,EqAt.int_str i t' j t,RcNeAt.int_str i t' j t⟩
 ·exact⟨RcAt.int_tuple i t' htb hu,EqAt.int_tuple i t' htb hu,RcNeAt.int_tuple i t' htb hu⟩
 ·exact⟨RcAt.int_list i t' htb hu,EqAt.int_list i t' htb hu,RcNeAt.int_list i t' htb hu⟩
 ·exact⟨RcAt.str_none i t',EqAt.str_none i t',RcNeAt.str_none i t'⟩
 ·exact⟨RcAt.str_int i t' j t,EqAt.str_int i t' j t,RcNeAt.str_int i t' j t⟩
 ·have q:decide (D.str i=D.str j)=(i==j):=by rw[Ku,decide_eq_true_iff,beq_iff_eq,D.str.injEq]
  rw[q];exact⟨RcAt.str_str i t' j t,EqAt.str_str i t' j t,RcNeAt.str_str i t' j t⟩
 ·exact⟨RcAt.str_tuple i t' htb hu,EqAt.str_tuple i t' htb hu,RcNeAt.str_tuple i t' htb hu⟩
 ·exact⟨RcAt.str_list i t' htb hu,EqAt.str_list i t' htb hu,RcNeAt.str_list i t' htb hu⟩
 ·exact⟨RcAt.tuple_none hta hu,EqAt.tuple_none hta hu,RcNeAt.tuple_none hta hu⟩
 ·exact⟨RcAt.tuple_int j t hta hu,EqAt.tuple_int j t hta hu,RcNeAt.tuple_int j t hta hu⟩
 ·exact⟨RcAt.tuple_str j t hta hu,EqAt.tuple_str j t hta hu,RcNeAt.tuple_str j t hta hu⟩
 ·cases z
  have el:=FF (A:=A.in1) (λh1 h2 h3 h4=>(ih k (Kj k) A.in1 h1 h2 (by show A.units+1+k+1<cLine;lia) h3 h4).2.1) hd' he' hr hr2
  have key:((JA (min vs.toArray.size us.toArray.size)).all (λj=>decide (ds[j]?=es[j]?))&&vs.toArray.size==us.toArray.size)=decide (D.tup ds=D.tup es):=by
   rw[Jm,Jm,<-hr.length,<-hr2.length,DJ];simp only[D.tup.injEq]
  have rc:=RcAt.tuples hta htb hu el;have rn:=RcNeAt.tuples hta htb hu el;rw[key]at rc rn;refine⟨rc,?_,rn⟩
  by_cases hab:a=b
  ·subst hab;rw[decide_eq_true (R.inj hd he rd re)];exact EqAt.same _
  ·exact EqAt.of_refs hab rc
 ·exact⟨RcAt.tuple_list hta htb hu,EqAt.tuple_list hta htb hu,RcNeAt.tuple_list hta htb hu⟩
 ·exact⟨RcAt.list_none hta hu,EqAt.list_none hta hu,RcNeAt.list_none hta hu⟩
 ·exact⟨RcAt.list_int j t hta hu,EqAt.list_int j t hta hu,RcNeAt.list_int j t hta hu⟩
 ·exact⟨RcAt.list_str j t hta hu,EqAt.list_str j t hta hu,RcNeAt.list_str j t hta hu⟩
 ·exact⟨RcAt.list_tuple hta htb hu,EqAt.list_tuple hta htb hu,RcNeAt.list_tuple hta htb hu⟩
 ·cases z
  have el:=FF (A:=A.in1) (λh1 h2 h3 h4=>(ih k (Kj k) A.in1 h1 h2 (by show A.units+1+k+1<cLine;lia) h3 h4).2.1) hd' he' hr hr2
  have l1:=hr.length;have l3:=hr2.length;have hab:a=b->decide (D.lst ds=D.lst es)=V:=λq=>by subst q;exact decide_eq_true (R.inj hd he rd re)
  have fin:∀{c},RcAt A s (.ref a) (.ref b) c->(a=b->c=V)->EqAt A s (.ref a) (.ref b) c:=λrc h=>by
   by_cases q:a=b
   ·rw[h q];subst q;exact EqAt.same _
   ·exact EqAt.of_refs q rc
  by_cases hsz:vs.toArray.size=us.toArray.size
  ·have key:((JA vs.toArray.size).all (λj=>decide (ds[j]?=es[j]?)))=decide (D.lst ds=D.lst es):=by
    rw[Jm,<-l1,Cq _ _ (by simp only[Jm]at hsz;lia)]
    simp only[D.lst.injEq]
   have rc:=RcAt.lists hta htb hsz hu el;have rn:=RcNeAt.lists hta htb hsz hu el;rw[key]at rc rn;exact⟨rc,fin rc hab,rn⟩
  ·have hne:¬D.lst ds=D.lst es:=λz=>hsz (by cases z;simp;lia)
   have hb:(vs.toArray.size != us.toArray.size)=V:=by simpa using hsz
   rw[decide_eq_false hne]at hab⊢;have rc:=RcAt.lists_lengths hta htb hb hu;exact⟨rc,fin rc hab,RcNeAt.lists_lengths hta htb hb hu⟩
section
variable{X:Cx}{M:Mp}{δ:DEnv}{s:IB}{a b:Expr}{fa fb:DEnv->Option D}{m m' mm:Bool}{pos:Ov}
theorem Inv.un (I:Inv X M δ s):X.A.units+64<cLine:=by have:=I.ok.room.un;lia
theorem Fl:CmS X .Eq (λd e=>gd (ok2 d e) (decide (d=e))):=λI r1 r2 e k=>by
 obtain⟨h,rfl⟩:=gF e;rw[ok2,II]at h;have:=I.un;exact(zV I.heap 16 X.A h.1 h.2 (by lia) r1 r2).1 P w _ _ (k _ I)
theorem jK (h:fM (b2 g x y)=U c):b2 (λd e=>fM (g d e)) x y=U c:=by
 cases x<;>cases y<;>first|cases h|exact h
theorem Ez:CmS X .NotEq (λd e=>fM (gd (ok2 d e) (decide (d=e)))):=λ{M δ s x y v u c Q} I r1 r2 e k=>by
 cases q:gd (ok2 x y) (decide (x=y))with
 |none=>simp[fM,q]at e
 |some g=>
  simp only[fM,q]at e;cases e;obtain⟨h,rfl⟩:=gF q;rw[ok2,II]at h;have:=I.un;exact(zV I.heap 16 X.A h.1 h.2 (by lia) r1 r2).2.2 P w _ _ (k _ I)
theorem Hs (ha:DE X m a fa) (hb:DE X m' b fb):DE X mm (.Compare a [.Eq] [b] pos) (λδ=>ofB (eqO (fa δ) (fb δ))):=CX Fl ha hb
theorem HD (ha:DE X m a fa) (hb:DE X m' b fb):DT X (.Compare a [.Eq] [b] pos) (λδ=>eqO (fa δ) (fb δ)):=yC Fl ha hb
theorem Hk (ha:DE X m a fa) (hb:DE X m' b fb):DT X (.Compare a [.NotEq] [b] pos) (λδ=>neO (fa δ) (fb δ)):=λI e=>yC Ez ha hb I (jK e)
theorem Hl (ha:DE X m a fa) (hb:DE X m' b fb):DE X mm (.Compare a [.NotEq] [b] pos) (λδ=>ofB (neO (fa δ) (fb δ))):=⟨rfl,λI e=>by
 obtain⟨c,e1,rfl⟩:=vv e;exact(CX Ez ha hb).ev I (by rw[jK e1];rfl)⟩
theorem R.items (r:R m M e v) (h:dm e=U es):∃a o vs,v=.ref a/\Rd m M a o/\(LstO o vs\/TupO o vs)/\Rs m M es vs:=by
 cases e with
 |lst ds=>cases h;obtain⟨a,o,vs,h1,h2,h3,h4⟩:=r;exact⟨a,o,vs,h1,h2,.inl h3,h4⟩
 |tup ds=>cases h;obtain⟨a,o,vs,h1,h2,h3,h4⟩:=r;exact⟨a,o,vs,h1,h2,.inr h3,h4⟩
 |_=>cases h
theorem Rs.mem:∀{ds vs},Rs m M ds vs->v∈vs->∃d∈ds,R m M d v
 |[],_,rfl,h=>nomatch h
 |d::ds,_,⟨x,r,rfl,h1,h2⟩,h=>by
  rcases List.mem_cons.mp h with rfl|h
  ·exact⟨d,.head _,h1⟩
  ·obtain⟨e,h3,h4⟩:=Rs.mem h2 h;exact⟨e,.tail _ h3,h4⟩
theorem Rs.mem':∀{ds vs},Rs m M ds vs->d∈ds->∃v∈vs,R m M d v
 |d::ds,_,⟨x,r,rfl,h1,h2⟩,h=>by
  rcases List.mem_cons.mp h with rfl|h
  ·exact⟨x,.head _,h1⟩
  ·obtain⟨e,h3,h4⟩:=Rs.mem' h2 h;exact⟨e,.tail _ h3,h4⟩
open Classical in
theorem FU {A:Jj}(hu:A.units+64<cLine) (H:Hm M s.heap) (hd:okD 16 d=V) (he:es.all (okD 16)=V) (r1:R m M d v) (r2:Rs m' M es vs):∃g:IA->Bool,(∀y,y∈vs.toArray->KW A.in1 s y v (g y))/\vs.toArray.any g=decide (d∈es):=by
 refine⟨λu=>decide (∃e,okD 16 e=V/\R m' M e u/\e=d),λu hu'=>?_,?_⟩
 ·obtain⟨e,h1,h2⟩:=r2.mem (show u∈vs by simpa using hu')
  have o:=(List.all_eq_true.mp he) e h1;have q:=(zV H 16 A.in1 o hd (by show A.units+1+16+1<cLine;lia) h2 r1).2.1
  dsimp only;rw[show decide (∃e,okD 16 e=V/\R m' M e u/\e=d)=decide (e=d) from decide_eq_decide.mpr ⟨λ⟨e',o',h',z⟩=>by rw[<-z];exact R.inj o o' h2 h',λz=>⟨e,o,h2,z⟩⟩]
  exact q
 ·rw[Ku,decide_eq_true_iff,Array.any_eq_true']
  constructor
  ·rintro⟨u,hu',h⟩
   obtain⟨e,o,h2,rfl⟩:=of_decide_eq_true h;obtain⟨e',h3,h4⟩:=r2.mem (show u∈vs by simpa using hu')
   rw[R.inj o ((List.all_eq_true.mp he) e' h3) h2 h4];exact h3
  ·intro h
   obtain⟨u,h1,h2⟩:=r2.mem' h;exact⟨u,by simpa using h1,decide_eq_true ⟨d,hd,h2,rfl⟩⟩
theorem E3:CmS X .In (λd e=>ae (dm e) λes=>gd (okD 16 d&&es.all (okD 16)) (decide (d∈es))):=λI r1 r2 e k=>by
 obtain⟨es,h1,h2⟩:=ag e;obtain⟨h,rfl⟩:=gF h2;rw[II]at h;obtain⟨a,o,vs,rfl,q,t,rs⟩:=r2.items h1;obtain⟨g,g1,g2⟩:=FU I.un I.heap h.1 h.2 r1 rs
 rcases t with t|t
 ·exact SeqAt.in_listAt g (t.is I.heap q) g1 (by rw[g2];exact k _ I)
 ·exact SeqAt.in_tupleAt g (t.is I.heap q) g1 (by rw[g2];exact k _ I)
theorem AE:CmS X .NotIn (λd e=>fM (ae (dm e) λes=>gd (okD 16 d&&es.all (okD 16)) (decide (d∈es)))):=λ{M δ s x y v u c Q} I r1 r2 e k=>by
 cases q:(ae (dm y) λes=>gd (okD 16 x&&es.all (okD 16)) (decide (x∈es)))with
 |none=>simp[fM,q]at e
 |some g=>
  simp only[fM,q]at e;cases e;obtain⟨es,h1,h2⟩:=ag q;obtain⟨h,rfl⟩:=gF h2;rw[II]at h;obtain⟨a,o,vs,rfl,q,t,rs⟩:=r2.items h1;obtain⟨g,g1,g2⟩:=FU I.un I.heap h.1 h.2 r1 rs
  rcases t with t|t
  ·exact SeqAt.notIn_listAt g (t.is I.heap q) g1 (by rw[g2];exact k _ I)
  ·exact SeqAt.notIn_tupleAt g (t.is I.heap q) g1 (by rw[g2];exact k _ I)
theorem HJ (ha:DE X m a fa) (hb:DE X m' b fb):DT X (.Compare a [.In] [b] pos) (λδ=>inO (fa δ) (fb δ)):=yC E3 ha hb
theorem HG (ha:DE X m a fa) (hb:DE X m' b fb):DE X mm (.Compare a [.In] [b] pos) (λδ=>ofB (inO (fa δ) (fb δ))):=CX E3 ha hb
theorem BN (ha:DE X m a fa) (hb:DE X m' b fb):DT X (.Compare a [.NotIn] [b] pos) (λδ=>bC (fa δ) (fb δ)):=λI e=>yC AE ha hb I (jK e)
end
end L2
namespace L2
open PySem PySem.Spec PyProof.Rows Md
variable[Md]
section
variable{X:Cx}{M M':Mp}{δ:DEnv}{s:IB}{Q:IA->IB->Prop}{a b:Expr}{es:List Expr}{fa fb:DEnv->Option D}{fs:DEnv->Option (List D)}{m m' mm:Bool}{p p2 pos apos cpos:Ov}
structure Gb (X:Cx) (x:IX):Prop where
 g:X.env.kindOf x=U .globalImplicit
 d:(x==("__debug__":IX))=Y
structure Bn (X:Cx) (x:IX):Prop where
 b:Gb X x
 m:mg x=B
 n:x≠"__name__"
theorem Inv.bltn {E:IA->IB->Prop}(I:Inv X M δ s) (g:Bn X x) (hv:bootBuiltins x=U u) (k:Q u s):wpAny (model P w) X.A (eval (.Name x p) X.env) Q E s:=by
 obtain⟨mb,h1,h2⟩:=I.ok.mod.blt;exact OM I.ok.kind g.b.g (Calls.loadGlobal_builtin (by rw[I.ok.glob];exact I.ok.mod.glob.keeps I.bk) g.m (by rw[I.ok.blt];exact h1.keeps I.bk) ((h2 x g.n).trans hv) k) g.b.d
theorem lF:∀{es:List Expr},es.all plE=V->(backTo pos (starEach es v)).any (·.1)=Y
 |[],_=>rfl
 |e::es,h=>by
  rw[JC,II]at h;rw[bB h.1];show(Y||(backTo pos (starEach es v)).any (·.1))=Y
  rw[lF h.2];rfl
theorem B3:∀{es:List Expr},es.all plE=V->(backTo pos (starEach es v)).all (λx=>!x.1)=V
 |[],_=>rfl
 |e::es,h=>by
  rw[JC,II]at h;rw[bB h.1];show(V&&(backTo pos (starEach es v)).all _)=V;rw[B3 h.2];rfl
theorem Gc {id:String}(g:Bn X x) (hv:bootBuiltins x=U (.builtin id)) (ha:DA X m (a::es) fs) (I:Inv X M δ s) (e:fs δ=U ds) (k:∀vs s' M',Ext M M'->Inv X M' δ s'->Rs m M' ds vs->WP X (call (.builtin id) vs) Q s'):WP X (eval (.Call (.Name x p) (a::es) [] pos) X.env) Q s:=by
 have h:=ha.pl;rw[JC,II]at h;exact Kg (I.bltn g hv (KH (ha.ev I e k pos) (bB h.1) (lF h.2)))
theorem xM {T:String}(g:Bn X x) (hv:bootBuiltins x=U (.type T)) (ha:DA X m (a::es) fs) (I:Inv X M δ s) (e:fs δ=U ds) (k:∀vs s' M',Ext M M'->Inv X M' δ s'->Rs m M' ds vs->WP X (call (.type T) vs) Q s'):WP X (eval (.Call (.Name x p) (a::es) [] pos) X.env) Q s:=by
 have h:=ha.pl;rw[JC,II]at h;exact Kg (I.bltn g hv (Mk (ha.ev I e k pos) (bB h.1) (lF h.2)))
theorem Rs.is1 (h:Rs m M [d] vs):∃v,vs=[v]/\R m M d v:=by obtain⟨v,r,rfl,h1,rfl⟩:=h;exact⟨v,rfl,h1⟩
theorem Rs.is2 (h:Rs m M [d,e] vs):∃v u,vs=[v,u]/\R m M d v/\R m M e u:=by obtain⟨v,r,rfl,h1,h2⟩:=h;obtain⟨u,rfl,h3⟩:=h2.is1;exact⟨v,u,rfl,h1,h3⟩
theorem gG {id:String}(g:Bn X x) (hv:bootBuiltins x=U (.builtin id)) (ha:DE X m a fa) (I:Inv X M δ s) (e:fa δ=U d) (k:∀v s' M',Ext M M'->Inv X M' δ s'->R m M' d v->WP X (call (.builtin id) [v]) Q s'):WP X (eval (.Call (.Name x p) [a] [] pos) X.env) Q s:=
 Gc g hv (aT ha cL) I (ds:=[d]) (by rw[e];rfl) λvs s1 M1 x1 I1 r=>by obtain⟨v,rfl,q⟩:=r.is1;exact k v s1 M1 x1 I1 q
theorem eX {T:String}(g:Bn X x) (hv:bootBuiltins x=U (.type T)) (ha:DE X m a fa) (I:Inv X M δ s) (e:fa δ=U d) (k:∀v s' M',Ext M M'->Inv X M' δ s'->R m M' d v->WP X (call (.type T) [v]) Q s'):WP X (eval (.Call (.Name x p) [a] [] pos) X.env) Q s:=
 xM g hv (aT ha cL) I (ds:=[d]) (by rw[e];rfl) λvs s1 M1 x1 I1 r=>by obtain⟨v,rfl,q⟩:=r.is1;exact k v s1 M1 x1 I1 q
theorem Cn {id T:String}{name:IX}{Z:Mp->IA->Prop}(pa:PlainAttrs T) (slot:Slot T name id) (hty:typeOf (.builtin id)=pure (.type "method_descriptor")) (l:(apos.endLine==cpos.line)=V) (pl:plE a=V) (hb:DA X m' (b::es) fs) (hn:es.length<20) (e2:fs δ=U ds)
  (ev:∀{Q':IA->IB->Prop},(∀v s1 M1,Ext M M1->Inv X M1 δ s1->Z M1 v->Q' v s1)->WP X (eval a X.env) Q' s)
  (ht:∀{M:Mp}{s:IB}{v},Hm M s.heap->Z M v->s.TypeIs v T/\∀a,v=.ref a->∃ob,s.heap.get? a=U ob/\ob.dict=B) (zx:∀{M M' v},Ext M M'->Z M v->Z M' v)
  (k:∀v vs s' M',Ext M M'->Inv X M' δ s'->Z M' v->Rs m' M' ds vs->WP X (call (.builtin id) (v::vs)) Q s'):WP X (eval (.Call (.Attribute a name apos) (b::es) [] cpos) X.env) Q s:=by
 have h:=hb.pl;have h':=h;rw[JC,II]at h';refine wpAny_Call_method_late (w0 pl) (by rw[B3 h];show decide (es.length+1+0+0<30)=V;exact decide_eq_true (by lia)) l rfl (ev λv s1 M1 x1 I1 r1=>?_)
 obtain⟨h1,h2⟩:=ht I1.heap r1;refine⟨T,id,pa,slot,hty,h1,h2,?_⟩
 have hA:=hb.ev I1 e2 (λvs s2 M2 x2 I2 r2=>k v vs s2 M2 (x1.trans x2) I2 (zx x2 r1) r2) cpos
 rw[bB h'.1]at hA⊢;exact Pk (by show(Y||(backTo cpos (starEach es X.env)).any (·.1))=Y;rw[lF h'.2];rfl) (PP hA)
theorem yo {id T:String}{name:IX}(pa:PlainAttrs T) (slot:Slot T name id) (hty:typeOf (.builtin id)=pure (.type "method_descriptor")) (l:(apos.endLine==cpos.line)=V) (ha:DE X m a fa) (hb:DA X m' (b::es) fs) (hn:es.length<20) (I:Inv X M δ s) (e:fa δ=U d) (e2:fs δ=U ds)
  (ht:∀{M:Mp}{s:IB}{v},Hm M s.heap->R m M d v->s.TypeIs v T/\∀a,v=.ref a->∃ob,s.heap.get? a=U ob/\ob.dict=B)
  (k:∀v vs s' M',Ext M M'->Inv X M' δ s'->R m M' d v->Rs m' M' ds vs->WP X (call (.builtin id) (v::vs)) Q s'):WP X (eval (.Call (.Attribute a name apos) (b::es) [] cpos) X.env) Q s:=
 Cn pa slot hty l ha.pl hb hn e2 (ha.ev I e) ht (λx r=>r.up x) k
theorem pn:(sizeLine:Nat)<2 ^ 63:=by decide +kernel
theorem Hm.len {E:IA->IB->Prop}{A:Jj}(H:Hm M s.heap) (q:Rd m M c o) (t:LstO o vs\/TupO o vs) (k:∀t t',Q (.int vs.length t) {s with toks:=t'}):wpAny (model P w) A (call (.builtin "len") [.ref c]) Q E s:=by
 have hn:=pn
 rcases t with t|t
 ·have z:=t.1;exact Calls.call_len_list (t.is H q) (by simp only[Jm];lia) (by simpa using k _ _)
 ·have z:=t.1;exact len_tuple (t.is H q) (by simp only[Jm];lia) (by simpa using k _ _)
theorem Et (g:Bn X "len") (ha:DE X m a fa):DE X mm (.Call (.Name "len" p) [a] [] pos) (λδ=>cE (fa δ)):=⟨rfl,λI e k=>by
 obtain⟨d,e1,e2⟩:=ag e;obtain⟨ds,e3,e4⟩:=ag e2;cases e4;refine gG g PySem.boot_len ha I e1 λv s1 M1 x1 I1 r=>?_
 obtain⟨c,o,vs,rfl,q,t,rs⟩:=r.items e3;exact Hm.len I1.heap q t λ_ _=>k _ _ _ x1 I1.tok ⟨_,by rw[rs.length]⟩⟩
set_option tactic.hygienic true in
theorem C7 (g:Bn X "len") (ha:DE X m a fa):DE X mm (.Call (.Name "len" p) [a] [] pos) (λδ=>EL (fa δ)):=⟨rfl,λI e k=>by
 obtain⟨d,e1,e2⟩:=ag e;split at e2<;>try cases e2
 split at e2<;>cases e2
 rename_i z hz;refine gG g PySem.boot_len ha I e1 λv s1 M1 x1 I1 r=>?_
 obtain⟨t,rfl⟩:=r;have hn:=pn;have:=aw hz;exact len_str (by lia) (k _ _ _ x1 I1.tok ⟨_,rfl⟩)⟩
theorem Dt {n:Nat}(h:ixN n i=U j):seqIndex? i n=U j/\j<n/\ -(n:Int)<=i/\i<n:=by
 unfold ixN at h;split at h<;>split at h<;>cases h
 ·exact⟨by rw[seqIndex_of (by assumption) (by assumption)],by lia,by lia,by assumption⟩
 ·exact⟨by rw[seqIndex_neg (by lia) (by assumption)],by lia,by assumption,by lia⟩
theorem ym {α:Type}{xs:List α}{v:α}(h:atI xs i=U v):∃j,seqIndex? i xs.length=U j/\xs[j]?=U v/\j<xs.length/\ -(xs.length:Int)<=i/\i<xs.length:=by
 obtain⟨j,e,h⟩:=Option.bind_eq_some_iff.mp h;obtain⟨h1,h2,h3,h4⟩:=Dt e;exact⟨j,h1,h,h2,h3,h4⟩
theorem yY {α:Type}{xs:List α}{j:Nat}{v:α}(h:xs[j]?=U v):atI xs (j:Int)=U v:=by
 have hj:=(List.getElem?_eq_some_iff.mp h).1
 unfold atI ixN;rw[if_pos (by lia),if_pos (by lia)];simpa using h
theorem Hm.item {E:IA->IB->Prop}{A:Jj}{va sl:Expr}(H:Hm M s.heap) (q:Rd m M c o) (t:LstO o vs\/TupO o vs) (h:atI vs i=U x) (hs:subscripted sl Y (.ref c) (.int i tk)=operate [.ref c,.int i tk] (getItem (.ref c) (.int i tk))) (k:Q x s):wpAny (model P w) A (subscriptTail va sl (.ref c) (.int i tk)) Q E s:=by
 obtain⟨j,h1,h2,h3,h4,h5⟩:=ym h;have hn:=pn
 rcases t with t|t
 ·have z:=t.1;have pl:=t.is H q
  by_cases h0:0<=i
  ·rw[seqIndex_of h0 h5]at h1;cases h1
   exact item_listR pl h0 (by lia) (by simpa using h2) k hs
  ·rw[seqIndex_neg (by lia) h4]at h1;cases h1
   exact subscriptTail_builtinR (x:=x) pl.typeIs slot_list_getitem.lookup (wpAny_getItem_list_neg (Q:=λr s'=>r=x/\Q r s') pl (by lia) (by simp;lia) (by lia) (by simpa using h2) ⟨rfl,k⟩) hs
 ·have z:=t.1;have pl:=t.is H q
  exact subscriptTail_builtinR (x:=x) pl.typeIs slot_tuple_getitem.lookup (getItem_tuple (j:=j) (Q:=λr s'=>r=x/\Q r s') pl (by lia) (by lia) (by simpa using h1) (by simpa using h2) ⟨rfl,k⟩) hs
theorem Rs.atI (r:Rs m M ds vs) (h:atI ds i=U d):∃v,L2.atI vs i=U v/\R m M d v:=by
 obtain⟨j,e,h⟩:=Option.bind_eq_some_iff.mp h;obtain⟨v,h1,h2⟩:=r.get h;exact⟨v,by unfold L2.atI;rw[<-r.length,e];exact h1,h2⟩
theorem HA (ha:DE X m a fa) (hb:DE X m' b fb):DE X m (.Subscript a b pos) (λδ=>ixO (fa δ) (fb δ)):=⟨rfl,λI e k=>Oo (two (f:=subscriptTail a b) ha hb I e λx y v u s2 M2 x2 I2 r1 r2 e3=>by
 split at e3<;>try cases e3
 obtain⟨ds,e4,e5⟩:=ag e3;obtain⟨c,o,vs,rfl,q,t,rs⟩:=r1.items e4;obtain⟨tk,rfl⟩:=r2;obtain⟨v,h1,h2⟩:=rs.atI e5;exact Hm.item I2.heap q t h1 (vD hb.pl) (k _ _ _ x2 I2 h2))⟩
set_option tactic.hygienic true in
theorem F4 (ha:DE X m a fa) (hb:DE X m' b fb):DE X mm (.Subscript a b pos) (λδ=>AN (fa δ) (fb δ)):=⟨rfl,λI e k=>Oo (two (f:=subscriptTail a b) ha hb I e λx y v u s2 M2 x2 I2 r1 r2 e3=>by
 split at e3<;>try cases e3
 split at e3<;>try cases e3
 rename_i z i hz;obtain⟨c,e4,e5⟩:=ag e3;cases e5;obtain⟨t,rfl⟩:=r1;obtain⟨t',rfl⟩:=r2;obtain⟨j,h1,h2,h3,h4,h5⟩:=ym e4;have hl:z.cps.toList.length=z.length:=by simp[NZ]
 rw[hl]at h1 h4 h5;have hn:=pn;have:=aw hz;exact tail_any (typeIs_str s2 z t) slot_str_getitem.lookup (getItem_str (c:=c) (by lia) (by rw[h1];simpa using h2) (k _ _ _ x2 I2.tok ⟨_,rfl⟩)) (vD hb.pl))⟩
noncomputable def DO (X:Cx) (e:Option Expr) (f:DEnv->Option (Option Int)):Prop:=∀{M δ s o} {Q:IA->IB->Prop},Inv X M δ s->f δ=U o->(∀v s' M',Ext M M'->Inv X M' δ s'->IsPart v o->Q v s')->WP X (evalPart e X.env) Q s
theorem Er:DO X B (λ_=>U B):=λI e k=>by cases e;exact Iy (k _ _ _ Ext.refl I .none)
theorem DV (h:DE X m a fa):DO X (U a) (λδ=>cx (fa δ)):=λ{M δ s o Q} I e k=>by
 unfold cx at e;dsimp only at e;split at e<;>cases e
 exact h.ev I (by assumption) λv s1 M1 x1 I1 r=>by obtain⟨t,rfl⟩:=r;exact k _ _ _ x1 I1 (.int _ t)
variable{lo hi:Option Expr}{fl fh:DEnv->Option (Option Int)}
theorem tY {g:D->Option Int->Option Int->Option D}(ha:DE X m a fa) (hl:DO X lo fl) (hh:DO X hi fh) (I:Inv X M δ s) (e:b3 g (fa δ) (fl δ) (fh δ)=U d)
  (k:∀x l u v vl vu c s' M',Ext M M'->Inv X M' δ s'->R m M' x v->s'.heap.IsSliceOf c vl vu .none->IsPart vl l->IsPart vu u->g x l u=U d->∃T id,typeLookup (.type T) "__getitem__"=pure (U (.builtin id))/\s'.TypeIs v T/\WP X (getItem v (.ref c)) Q s'):
  WP X (eval (.Subscript a (.Slice lo hi B p2) pos) X.env) Q s:=by
 obtain⟨x,e1,e2⟩:=ag e;obtain⟨l,e2,e3⟩:=ag e2;obtain⟨u,e3,e4⟩:=ag e3;refine Oo (ha.ev I e1 λv s1 M1 x1 I1 r1=>wpAny_Slice (hl I1 e2 λvl s2 M2 x2 I2 p1=>hh I2 e3 λvu s3 M3 x3 I3 p2=>Iy ?_))
 obtain⟨T,id,h1,h2,h3⟩:=k x l u v vl vu s3.heap.objs.size _ _ ((x1.trans x2).trans x3) I3.push (r1.up (x2.trans x3)) (Heap.IsSliceOf.new ..) p1 p2 e4;exact tail_any (ops:=[.ref s3.heap.objs.size,v]) h2 h1 h3 (by rfl)
theorem nJ (x:IX) (lo hi:Option Int):(oX x lo hi).length<=x.length:=by
 unfold oX;split
 ·exact IM _
 ·exact IR (KT _ _) (sliceIndices_le lo hi x.length)
theorem yL (h:IsPart v o):∃l:Option (Int×Tok),v=partValue l/\l.map (·.1)=o:=by
 cases h with
 |none=>exact⟨B,rfl,rfl⟩
 |int i t=>exact⟨U (i,t),rfl,rfl⟩
set_option tactic.hygienic true in
theorem EC (ha:DE X m a fa) (hl:DO X lo fl) (hh:DO X hi fh):DE X mm (.Subscript a (.Slice lo hi B p2) pos) (λδ=>iZ (fa δ) (fl δ) (fh δ)):=⟨rfl,λI e k=>tY ha hl hh I e λx l u v vl vu c s' M' x1 I1 r hs p1 p2 e4=>by
 split at e4<;>try cases e4
 split at e4<;>cases e4
 rename_i z hz;obtain⟨t,rfl⟩:=r;obtain⟨l,rfl,rfl⟩:=yL p1;obtain⟨u,rfl,rfl⟩:=yL p2;refine⟨"str",_,F.slot_str_getitem.lookup,typeIs_str _ z t,wpAny_getItem_str_slice (l:=l) (u:=u) (st:=B) hs rfl ?_⟩
 rw[show(sliceMade z t l u B)=if((Ls (l.map (·.1)) (u.map (·.1)) 1 z.length).length==z.length)=V then Made.val (.str z t) else Made.str ⟨((Ls (l.map (·.1)) (u.map (·.1)) 1 z.length).filterMap (z.cps[·]?)).toArray⟩ by
  unfold sliceMade slicePicked;simp]
 refine post_val_or_made (λhc=>?_) λt' tk=>k _ _ _ x1 I1.tok ⟨t',rfl⟩
 have hle:=nJ z (l.map (·.1)) (u.map (·.1))
 unfold oX at hle;rw[if_neg hc]at hle;exact IR hle (aw hz)⟩
theorem pC (lo hi:Option Int) (n:Nat):(sliceBounds lo hi B n).1=((sIx n 0 lo:Nat):Int)/\(sliceBounds lo hi B n).2.1=((sIx n n hi:Nat):Int)/\(sliceBounds lo hi B n).2.2=1:=by
 refine⟨?_,?_,rfl⟩
 ·cases lo with
  |none=>rfl
  |some i=>simp only[sliceBounds,sIx,Option.getD_none,show(1:Int)>0 by decide,if_true];by_cases h:i<0<;>simp only[h,if_true,if_false]<;>lia
 ·cases hi with
  |none=>rfl
  |some i=>simp only[sliceBounds,sIx,Option.getD_none,show(1:Int)>0 by decide,if_true];by_cases h:i<0<;>simp only[h,if_true,if_false]<;>lia
theorem nH (its:List IA) (lo hi:Option Int):slicePick its.toArray lo hi B=(rG its lo hi).toArray:=by
 obtain⟨h1,h2,h3⟩:=pC lo hi its.toArray.size;unfold slicePick rG;rw[h1,h2,h3];simp only[sliceRange_one,pick_run,Jm]<;>rfl
theorem Bs {α:Type}(xs:List α):(rG xs l u).length<=xs.length:=by unfold rG;simp;lia
theorem Rs.cut (r:Rs m M ds vs):Rs m M (rG ds l u) (rG vs l u):=by unfold rG;rw[r.length];exact(r.drop _).take _
theorem DY (ha:DE X Y a fa) (hl:DO X lo fl) (hh:DO X hi fh):DF X (.Subscript a (.Slice lo hi B p2) pos) (λδ=>wC (fa δ) (fl δ) (fh δ)):=⟨rfl,λI e k=>tY ha hl hh I e λx l u v vl vu c s' M' x1 I1 r hs p1 p2 e4=>by
 split at e4<;>cases e4
 obtain⟨c',o,vs,rfl,q,t,rs⟩:=r;have z:=t.1;refine⟨"list",_,slot_list_getitem.lookup,(t.is I1.heap q).typeIs,wpAny_getItem_list_slice (t.is I1.heap q) hs p1 p2 .none (by simp) ?_ (by simp;lia)⟩
 rw[nH];exact k _ _ _ _ x1 (I1.push (t:=s'.toks)) (I1.fresh (IM _)) (IF _ rfl) ⟨_,⟨IR (Bs _) z,_,rfl⟩,rs.cut⟩⟩
end
end L2
namespace L2
open PySem PySem.Spec PyProof.Rows PySem.W Md
variable[Md]
section
variable{X:Cx}{M M':Mp}{δ:DEnv}{s:IB}{Q:IA->IB->Prop}{a b:Expr}{es:List Expr}{fa fb:DEnv->Option D}{fs:DEnv->Option (List D)}{m m' mm:Bool}{p p2 pos apos cpos:Ov}
theorem Ek (g:Bn X "list") (ha:DE X Y a fa):DF X (.Call (.Name "list" p) [a] [] pos) (λδ=>eQ (fa δ)):=⟨rfl,λI e k=>by
 obtain⟨d,e1,e2⟩:=ag e;obtain⟨ds,e3,e4⟩:=ag e2;cases e4;refine eX g (by rfl:bootBuiltins "list"=U (.type "list")) ha I e1 λv s1 M1 x1 I1 r=>?_
 obtain⟨c,o,vs,rfl,q,t,rs⟩:=r.items e3;have fin:vs.length<=sizeLine->∀(h':Kl) (n:Nat),(∀b o',s1.heap.get? b=U o'->h'.get? b=U o')->h'.get? s1.heap.objs.size=U {cls:=.type "list",dict:=B,data:=.seq vs.toArray n,slots:=#[]}->_:=λz h' n kp e=>
  k s1.heap.objs.size _ {s1 with heap:=h'} M1 x1 (I1.kp kp) (I1.fresh (IM _)) e ⟨vs,⟨z,n,rfl⟩,rs⟩
 rcases t with t|t
 ·have z:=t.1;obtain⟨o,ho,hc,n,hd⟩:=t.is I1.heap q
  exact call_list_seq c (.inl rfl) ho hc hd (fin z) (by simp;lia)
 ·have z:=t.1;obtain⟨o,ho,hc,n,hd⟩:=t.is I1.heap q
  exact call_list_seq c (.inr rfl) ho hc hd (fin z) (by simp;lia)⟩
theorem Inv.newT' (I:Inv X M δ s) (r:Rs m M ds vs) (z:vs.length<=sizeLine) (k:Post X M δ m (.tup ds) Q) {s':IB}(hk:∀b o,s.heap.get? b=U o->s'.heap.get? b=U o) (hg:s'.os=s.os/\s'.gens=s.gens) (e:s'.heap.get? c=U o) (hc:s.heap.objs.size<=c) (t:TupO o vs):Q (.ref c) s':=by
 have f:=I.fresh hc;exact k _ _ _ (fF f.m) ((I.kp hk hg).put f e) ⟨_,_,vs,rfl,⟨.f,aq,rfl⟩,t,r.to (eP f.m)⟩
theorem BJ (g:Bn X "tuple") (ha:DE X m a fa):DE X m (.Call (.Name "tuple" p) [a] [] pos) (λδ=>cK (fa δ)):=⟨rfl,λI e k=>by
 obtain⟨d,e1,e2⟩:=ag e;obtain⟨ds,e3,e4⟩:=ag e2;cases e4;refine eX g (by rfl:bootBuiltins "tuple"=U (.type "tuple")) ha I e1 λv s1 M1 x1 I1 r=>?_
 obtain⟨c,o,vs,rfl,q,t,rs⟩:=r.items e3
 rcases t with t|t
 ·have z:=t.1
  refine call_tuple_list (t.is I1.heap q) (λh' kp=>?_) (by simp;lia)
  exact(I1.kp (s':={s1 with heap:=h'}) kp).newT' rs z (Post.to k x1) (λb o e=>Iz _ e) ⟨rfl,rfl⟩ (IF _ rfl) (IM _) ⟨z,rfl,_,rfl⟩
 ·exact call_tuple_same (t.is I1.heap q) (k _ _ _ x1 I1 ⟨c,o,vs,rfl,q,t,rs⟩)⟩
theorem Da (ha:DE X m a fa) (hb:DE X m' b fb):DE X mm (.BinOp a .Add b pos) (λδ=>Gu (fa δ) (fb δ)):=wB (λI r1 r2 e k=>by
 split at e<;>try cases e
 split at e<;>cases e
 obtain⟨t,rfl⟩:=r1;obtain⟨t',rfl⟩:=r2;exact add_str (λt' tk=>k _ _ _ Ext.refl I.tok ⟨_,rfl⟩) (aw (by assumption))) ha hb
theorem TupO.obj (t:TupO o vs) (H:Hm M s.heap) (q:Rd m M c o):∃dd n sl,s.heap.get? c=U ⟨.type "tuple",dd,.seq vs.toArray n,sl⟩:=by
 obtain⟨k,e,_⟩:=q;obtain⟨_,h1,n,h2⟩:=t;obtain⟨c,dd,data,sl⟩:=o;cases h1;cases h2;exact⟨dd,n,sl,H _ _ _ e⟩
set_option tactic.hygienic true in
theorem Bl (ha:DE X m a fa) (hb:DE X m b fb):DE X m (.BinOp a .Add b pos) (λδ=>Bp (fa δ) (fb δ)):=⟨rfl,λI e k=>O4 (two ha hb I e λx y v u s2 M2 x2 I2 r1 r2 e3=>by
 split at e3<;>try cases e3
 split at e3<;>cases e3
 rename_i ds es hz;have r1':=r1;have r2':=r2;obtain⟨c,o,vs,rfl,q,t,rs⟩:=r1;obtain⟨c',o',vs',rfl,q',t',rs'⟩:=r2;obtain⟨dd,n,sl,ho⟩:=t.obj I2.heap q;obtain⟨dd',n',sl',ho'⟩:=t'.obj I2.heap q';have l1:=rs.length;have l2:=rs'.length
 by_cases hv:vs=[]
 ·obtain rfl:ds=[]:=by cases ds with|nil=>rfl|cons _ _=>simp_all
  exact OG ⟨_,ho,rfl⟩ ⟨_,ho',rfl⟩ OX seq_tuple_add MV MN (ML _ _) (tuple_addW0 c c' vs.toArray vs'.toArray n n' dd dd' sl sl' (by simp[hv])) ⟨ho,ho',k _ _ _ x2 I2 r2'⟩
 ·by_cases hw:vs'=[]
  ·obtain rfl:es=[]:=by cases es with|nil=>rfl|cons _ _=>simp_all
   exact OG ⟨_,ho,rfl⟩ ⟨_,ho',rfl⟩ OX seq_tuple_add MV MN (ML _ _) (tuple_addW1 c c' vs.toArray vs'.toArray n n' dd dd' sl sl' (by simpa using hv) (by simp[hw])) ⟨ho,ho',k _ _ _ x2 I2 (by rw[Kb];exact r1')⟩
  ·refine OG ⟨_,ho,rfl⟩ ⟨_,ho',rfl⟩ OX seq_tuple_add MV MN (ML _ _) (tuple_addW2 c c' vs.toArray vs'.toArray n n' dd dd' sl sl' (by simpa using hv) (by simpa using hw) (by have:=aw hz;simp;lia)) ⟨ho,ho',?_⟩
   rw[show vs.toArray++vs'.toArray=(vs++vs').toArray by simp]
   exact I2.newT (rs.append rs') (by simpa using hz) (Post.to k x2))⟩
theorem yU (l:IZ) (items:Array IA) (n:Nat) (b:IZ) (items2:Array IA) (n2:Nat) (s1 s2:Array (Option IA)) (hc0:items.size+items2.size<=sizeLine):
  Meets (L5.«list.__add__» ⟨[.ref l,.ref b],[]⟩) (λ_ R s=>s.heap.get? l=U ⟨.type "list",B,.seq items n,s1⟩/\s.heap.get? b=U ⟨.type "list",B,.seq items2 n2,s2⟩/\R (.ok (.ret (Ny s.heap.objs.size))) {s with heap:=s.heap.push {cls:=Ki "list",data:=Data.seq (items++items2)}}):=
 .of_wp λprog w A R s h=>by
  obtain⟨hl,hb,h⟩:=h;have f3:=AutoSeq1.sub_list_list;wp_walk using OA hl,OA hb;exact⟨_,rfl,h⟩
theorem LstO.obj (t:LstO o vs) (H:Hm M s.heap) (q:Rd m M c o):∃n,s.heap.get? c=U {cls:=.type "list",data:=.seq vs.toArray n}:=by
 obtain⟨k,e,_⟩:=q;obtain⟨_,n,rfl⟩:=t;exact⟨n,H _ _ _ e⟩
theorem Cv {ds ls:List D}(I:Inv X M δ s) (r1:R m M (.lst ds) v) (r2:R m' M (.lst ls) u) (hz:ds.length+ls.length<=lim) (k:∀vs vs',Rs m M ds vs->Rs m' M ls vs'->Q (.ref s.heap.objs.size) {s with heap:=s.heap.push {cls:=.type "list",data:=.seq (vs++vs').toArray}}):WP X (binaryOp .Add v u) Q s:=by
 obtain⟨c,o,vs,rfl,q,t,rs⟩:=r1;obtain⟨c',o',vs',rfl,q',t',rs'⟩:=r2;obtain⟨n,ho⟩:=t.obj I.heap q;obtain⟨n',ho'⟩:=t'.obj I.heap q';have l1:=rs.length;have l2:=rs'.length;refine OG ⟨_,ho,rfl⟩ ⟨_,ho',rfl⟩ noFill_list_add seq_list_add F.slot_list_add F.entry_list_add (F.args_list_add_2 _ _) (yU c vs.toArray n c' vs'.toArray n' #[] #[] (by have:=aw hz;simp;lia)) ⟨ho,ho',?_⟩
 rw[show vs.toArray++vs'.toArray=(vs++vs').toArray by simp]
 exact k vs vs' rs rs'
set_option tactic.hygienic true in
theorem FQ (ha:DE X Y a fa) (hb:DE X Y b fb):DF X (.BinOp a .Add b pos) (λδ=>pY (fa δ) (fb δ)):=⟨rfl,λI e k=>O4 (two ha hb I e λx y v u s2 M2 x2 I2 r1 r2 e3=>by
 split at e3<;>try cases e3
 split at e3<;>cases e3
 rename_i hz;exact Cv I2 r1 r2 hz λvs vs' h1 h2=>I2.newL (h1.append h2) (by simpa using hz) (PostF.to k x2))⟩
mutual
theorem R.flat (ho:∀a i o,M a=U (.o i,o)->Ow o):∀{d v},d.flat=V->R m M d v->R Y M d v
 |.non,v,_,h=>by exact h
 |.bl b,v,_,h=>by exact h
 |.int i,v,_,h=>by exact h
 |.str x,v,_,h=>by exact h
 |.tup ds,v,f,h=>by
  obtain⟨a,o,vs,e,⟨k,q,hk⟩,t,rs⟩:=h;refine⟨a,o,vs,e,rdf.mpr ?_,t,Rs.flat ho f rs⟩
  cases k with
  |f=>exact q
  |p=>cases hk
  |o i=>exact absurd t.2.1 (ho _ _ _ q).1
 |.lst ds,v,f,_=>by cases f
 |.dK _ _,v,f,_=>by cases f
 |.dD _ _,v,f,_=>by cases f
 |.ptr _,v,f,_=>by cases f
theorem Rs.flat (ho:∀a i o,M a=U (.o i,o)->Ow o):∀{ds vs},D.flats ds=V->Rs m M ds vs->Rs Y M ds vs
 |[],vs,_,h=>by exact h
 |d::ds,vs,f,h=>by
  simp only[D.flats,II]at f;obtain⟨x,r,hx,h1,h2⟩:=h;exact⟨x,r,hx,R.flat ho f.1 h1,Rs.flat ho f.2 h2⟩
end
set_option tactic.hygienic true in
theorem CE (ha:DE X m a fa) (hb:DE X m' b fb):DF X (.BinOp a .Add b pos) (λδ=>Aw (fa δ) (fb δ)):=⟨rfl,λI e k=>O4 (two ha hb I e λx y v u s2 M2 x2 I2 r1 r2 e3=>by
 split at e3<;>try cases e3
 split at e3<;>cases e3
 rename_i hz;rw[II,II,decide_eq_true_eq]at hz;exact Cv I2 r1 r2 hz.1 λvs vs' h1 h2=>I2.newL ((Rs.flat I2.own hz.2.1 h1).append (Rs.flat I2.own hz.2.2 h2)) (by simpa using hz.1) (PostF.to k x2))⟩
theorem FM (ha:DE X m a fa):DE X mm (.UnaryOp .USub a pos) (λδ=>zF (fa δ)):=⟨rfl,λ{M δ s d Q} I e k=>by
 unfold zF at e;split at e<;>cases e
 exact UnaryOp_ (ha.ev I (by assumption) λv s1 M1 x1 I1 r=>by obtain⟨t,rfl⟩:=r;exact neg_int (k _ _ _ x1 I1.tok ⟨_,rfl⟩))⟩
theorem GA {c:IX}{cs:String}{pc:Ov}(hc:cs="list"\/cs="tuple") (g:Bn X "isinstance") (gc:Bn X c) (hv:bootBuiltins c=U (.type cs)) (ha:DE X m a fa):DE X mm (.Call (.Name "isinstance" p) [a,.Name c pc] [] pos) (λδ=>EO cs (fa δ)):=⟨rfl,λI e k=>by
 obtain⟨d,e1,e2⟩:=ag e;obtain⟨t,e3,e4⟩:=ag e2;cases e4;refine Kg (I.bltn g (by rfl:bootBuiltins "isinstance"=U (.builtin "isinstance")) (KH ?_ (bB ha.pl) rfl))
 rw[bB ha.pl];refine Ke (ha.ev I e1 λv s1 M1 x1 I1 r=>Ke (I1.bltn gc hv (KV ?_)))
 have kit:∀(T:String),(T="list"\/T="tuple")->PySem.W.kitOne K (.type T) (.type cs)=U (HW T cs):=λT hT=>by
  rcases hc with rfl|rfl<;>rcases hT with rfl|rfl<;>rfl
 have fin:∀tk,_:=λtk=>k (.bool (HW t cs)) {s1 with toks:=tk} M1 x1 I1.tok rfl
 cases d with
 |tup ds=>
  cases e3;obtain⟨a,o,vs,rfl,q,t,_⟩:=r;obtain⟨o,h1,h2,_⟩:=t.is I1.heap q;exact N9 PySem.W.kitx_tuple I1.kIn ⟨o,h1,h2⟩ (kit _ (by simp)) (λz=>nomatch z) fin
 |lst ds=>
  cases e3;obtain⟨a,o,vs,rfl,q,t,_⟩:=r;obtain⟨o,h1,h2,_⟩:=t.is I1.heap q;exact N9 PySem.W.kitx_list I1.kIn ⟨o,h1,h2⟩ (kit _ (by simp)) (λz=>nomatch z) fin
 |_=>cases e3⟩
set_option tactic.hygienic true in
theorem mq:∀{ds} {ns:List IX},wg ds=U ns->ds=ns.map D.str
 |[],ns,h=>by cases h;rfl
 |d::ds,ns,h=>by
  cases d<;>simp only[wg]at h<;>try cases h
  split at h<;>cases h
  rename_i q;rw[mq q];rfl
set_option tactic.hygienic true in
theorem iS:∀{ds} {bs:List Bool},sv ds=U bs->ds=bs.map D.bl
 |[],bs,h=>by cases h;rfl
 |d::ds,bs,h=>by
  cases d<;>simp only[sv]at h<;>try cases h
  split at h<;>cases h
  rename_i q;rw[iS q];rfl
theorem Rs.strs:∀{ns:List IX}{vs},Rs m M (ns.map D.str) vs->StrsAre vs ns
 |[],_,h=>by subst h;exact .nil
 |n::ns,_,h=>by obtain⟨x,r,rfl,⟨t,rfl⟩,h2⟩:=h;exact .cons n t (Rs.strs h2)
theorem Rs.bols:∀{bs:List Bool}{vs},Rs m M (bs.map D.bl) vs->vs=bs.map KA
 |[],_,h=>h
 |n::ns,_,h=>by obtain⟨x,r,rfl,h1,h2⟩:=h;rw[h1,Rs.bols h2];rfl
theorem Fh {v:IA}(H:Hm M s.heap) (r:R m M (.lst ds) v):s.TypeIs v "list"/\∀a,v=.ref a->∃ob,s.heap.get? a=U ob/\ob.dict=B:=by
 obtain⟨a,o,vs,rfl,q,t,_⟩:=r;obtain⟨n,ho⟩:=t.obj H q;exact⟨(t.is H q).typeIs,λb e=>by cases e;exact⟨_,ho,rfl⟩⟩
set_option tactic.hygienic true in
theorem Dh (ha:DE X m a fa) (hb:DE X m' b fb) (l:(apos.endLine==cpos.line)=V):DE X mm (.Call (.Attribute a "join" apos) [b] [] cpos) (λδ=>AL (fa δ) (fb δ)):=⟨rfl,λI e k=>by
 obtain⟨x,y,e1,e2,e3⟩:=iP e;split at e3<;>try cases e3
 obtain⟨ys,e4,e5⟩:=ag e3;split at e5<;>cases e5
 rename_i z ds hl;obtain rfl:=mq e4;refine yo PySem.F.plainAttrs_str PySem.F.slot_str_join PySem.F.type_str_join l ha (aT hb cL) (by decide) I e1 (ds:=[_]) (by rw[e2];rfl) (λ_ r=>?_) λv vs s1 M1 x1 I1 r1 r2=>?_
 ·obtain⟨t,rfl⟩:=r;exact⟨typeIs_str _ z t,λ_ e=>nomatch e⟩
 ·obtain⟨t,rfl⟩:=r1
  obtain⟨u,rfl,r3⟩:=r2.is1;obtain⟨c,o,vs,rfl,q,t,rs⟩:=r3;exact join_list (t.is I1.heap q) (by simpa using rs.strs) hl λt' tk=>k _ _ _ x1 I1.tok ⟨t',rfl⟩⟩
set_option tactic.hygienic true in
theorem Bc (ha:DE X m a fa) (hb:DE X m' b fb) (l:(apos.endLine==cpos.line)=V):DE X mm (.Call (.Attribute a "index" apos) [b] [] cpos) (λδ=>G3 (fa δ) (fb δ)):=⟨rfl,λI e k=>by
 obtain⟨x,y,e1,e2,e3⟩:=iP e;split at e3<;>try cases e3
 split at e3<;>cases e3
 rename_i ds hc;obtain⟨o1,o2,hj,hz⟩:=hc;refine yo L4 PySem.F.slot_list_index PySem.F.type_list_index l ha (aT hb cL) (by decide) I e1 (ds:=[_]) (by rw[e2];rfl) Fh λv us s1 M1 x1 I1 r1 r2=>?_
 obtain⟨u,rfl,r3⟩:=r2.is1;obtain⟨c,o,vs,rfl,q,t,rs⟩:=r1;obtain⟨n,ho⟩:=t.obj I1.heap q;have hl:=rs.length;have un:=I1.un;obtain⟨g,g1,g2⟩:∃g:IA->Bool,(∀y,y∈vs.toArray->KW X.A.in1 s1 y u (g y))/\∀i (h:i<vs.length),g vs[i]=decide (ds[i]'(by lia)=y):=by
  classical
  refine⟨λu=>decide (∃e,okD 16 e=V/\R m M1 e u/\e=y),λz hz=>?_,λi h=>?_⟩
  ·obtain⟨d',h1,h2⟩:=rs.mem (show z∈vs by simpa using hz)
   have o':=(List.all_eq_true.mp o2) d' h1;dsimp only;rw[show decide (∃e,okD 16 e=V/\R m M1 e z/\e=y)=decide (d'=y) from decide_eq_decide.mpr ⟨λ⟨e',o3,h',w⟩=>by rw[<-w];exact R.inj o' o3 h2 h',λw=>⟨d',o',h2,w⟩⟩]
   exact(zV I1.heap 16 X.A.in1 o' o1 (by show X.A.units+1+16+1<cLine;lia) h2 r3).2.1
  ·obtain⟨v,h1,h2⟩:=rs.get (i:=i) (d:=ds[i]'(by lia)) (by simp)
   have h3:vs[i]=v:=by simpa[h]using h1
   have o':=(List.all_eq_true.mp o2) _ (Kh (show i<ds.length by lia))
   rw[h3];exact decide_eq_decide.mpr ⟨λ⟨e',o3,h',w⟩=>by rw[<-w];exact R.inj o' o3 h2 h',λw=>⟨_,o',h2,w⟩⟩
 refine NH F.slot_list_index ⟨_,ho,rfl⟩ F.entry_list_index (F.args_list_index_2 _ _) (SeqAt.list_indexAt c vs.toArray n B #[] u g (ds.idxOf y) (by simp;lia) ?_ ?_ ?_) ⟨ho,g1,k _ _ _ x1 I1.tok ⟨_,rfl⟩⟩
 ·have:lim<2 ^ 63 - 1:=by decide +kernel
  lia
 ·rw[NA,g2 _ (by lia)];simp
 ·intro i hi hlt
  rw[NA,g2 i (by simpa using hi)]
  simpa using Pn (p:=λz=>z==y) (xs:=ds) (i:=i) hlt⟩
theorem qU {bs:List Bool}(I:Inv X M δ s) (r:R m M (.lst (bs.map D.bl)) v):∃c,v=.ref c/\s.heap.IsList c (bs.map KA).toArray:=by
 obtain⟨c,o,vs,rfl,q,t,rs⟩:=r;rw[rs.bols]at t;exact⟨c,rfl,t.is I.heap q⟩
theorem BU {bs:List Bool}{E:IA->IB->Prop}{A:Jj}{R:Bool->IB->Prop}(h:(bs.map KA).toArray[i]?=U v) (k:R (bs.getD i Y) s):wpAny (model P w) A (truthy v) R E s:=by
 rw[LF,Ja]at h
 cases q:bs[i]? with
 |none=>simp[q]at h
 |some b=>simp[q]at h;subst h;exact JW (by simpa[q]using k)
theorem yM {h':Kl}(hk:∀b o,b∉[s.heap.objs.size]->(s.heap.push ob).get? b=U o->h'.get? b=U o):∀b o,s.heap.get? b=U o->h'.get? b=U o:=λb o e=>hk b o (λz=>by
 rw[K5]at z;rw[z]at e;exact absurd (IJ e) (JV _)) (Iz _ e)
set_option tactic.hygienic true in
theorem E4 (g:Bn X "any") (ha:DE X m a fa):DE X mm (.Call (.Name "any" p) [a] [] pos) (λδ=>GV (fa δ)):=⟨rfl,λ{M δ s d Q} I e k=>by
 unfold GV at e;split at e<;>try cases e
 obtain⟨bs,e3,e4⟩:=ag e;cases e4;obtain rfl:=iS e3;rename_i q;refine gG g boot_any ha I q λv s1 M1 x1 I1 r=>?_
 obtain⟨c,rfl,hl⟩:=qU I1 r;have hne:=Ji (by obtain⟨o,e,_⟩:=hl;exact IJ e)
 refine call_any_walk (KO hl ⟨s1.heap.objs.size,_,_,_,_,_,λi=>bs.getD i Y,rfl,NM (A:=X.A.in1) I1.ok.room.hd s1.heap.objs.size c hne _,⟨⟨_,IF _ rfl,rfl,rfl⟩,hl.push _⟩,λi v s' Q' E' hv hQ'=>BU hv hQ',λh' tk hk=>?_⟩)
 rw[show(JA (bs.map KA).toArray.size).any (λi=>bs.getD i Y)=bs.any id by
  rw[Jm,IC,Ku,On,On];constructor
  ·rintro⟨i,hi,h1⟩
   have hi':=List.mem_range.mp hi;exact⟨bs[i],Kh hi',by simpa[hi']using h1⟩
  ·rintro⟨x,hx,h1⟩
   obtain⟨i,hi,rfl⟩:=List.mem_iff_getElem.mp hx;exact⟨i,List.mem_range.mpr hi,by simpa[hi]using h1⟩]
 exact k _ _ _ x1 (I1.kp (s':={s1 with heap:=h',toks:=tk}) (yM hk)) rfl⟩
set_option tactic.hygienic true in
theorem Gn (g:Bn X "all") (ha:DE X m a fa):DE X mm (.Call (.Name "all" p) [a] [] pos) (λδ=>Gf (fa δ)):=⟨rfl,λ{M δ s d Q} I e k=>by
 unfold Gf at e;split at e<;>try cases e
 obtain⟨bs,e3,e4⟩:=ag e;cases e4;obtain rfl:=iS e3;rename_i q;refine gG g boot_all ha I q λv s1 M1 x1 I1 r=>?_
 obtain⟨c,rfl,hl⟩:=qU I1 r;have hne:=Ji (by obtain⟨o,e,_⟩:=hl;exact IJ e)
 refine call_all_walk (KO hl ⟨s1.heap.objs.size,_,_,_,_,_,λi=>bs.getD i Y,rfl,NM (A:=X.A.in1) I1.ok.room.hd s1.heap.objs.size c hne _,⟨⟨_,IF _ rfl,rfl,rfl⟩,hl.push _⟩,λi v s' Q' E' hv hQ'=>BU hv hQ',λh' tk hk=>?_⟩)
 rw[show(JA (bs.map KA).toArray.size).all (λi=>bs.getD i Y)=bs.all id by
  rw[Jm,IC,Ku,IW,IW];constructor
  ·intro h x hx
   obtain⟨i,hi,rfl⟩:=List.mem_iff_getElem.mp hx
   simpa[hi]using h i (List.mem_range.mpr hi)
  ·intro h i hi
   have hi':=List.mem_range.mp hi
   simpa[hi']using h bs[i] (Kh hi')]
 exact k _ _ _ x1 (I1.kp (s':={s1 with heap:=h',toks:=tk}) (yM hk)) rfl⟩
noncomputable def nV:IA->Bool|.none=>V|_=>Y
theorem zh (r:R m M d v):decide (d=.non)=nV v:=by
 cases d<;>simp only[R]at r<;>first|(subst r;rfl)|(obtain⟨_,rfl⟩:=r;rfl)|(obtain⟨_,_,_,rfl,_⟩:=r;rfl)|(obtain⟨_,_,_,_,rfl,_⟩:=r;rfl)
theorem Rs.emp (rs:Rs m M ds vs):(!ds.isEmpty)=!vs.toArray.isEmpty:=by have:=rs.length;cases ds<;>cases vs<;>simp_all
theorem GM (ha:DE X m a fa):DT X (.Compare a [.Is] [.Constant .none j p] pos) (λδ=>wP (fa δ)):=λ{M δ s c Q} I e k=>by
 cases q:fa δ with
 |none=>simp[wP,q]at e
 |some d=>
  simp only[wP,q]at e;cases e;exact LP (ha.ev I q λv s1 M1 x1 I1 r=>Constant_none (is_none_gen (JW (by rw[zh r]at k;cases v<;>exact k _ _ x1 I1)))) rfl
theorem Dv (ha:DE X m a fa):DT X (.Compare a [.IsNot] [.Constant .none j p] pos) (λδ=>fM (wP (fa δ))):=λ{M δ s c Q} I e k=>by
 cases q:fa δ with
 |none=>simp[wP,fM,q]at e
 |some d=>
  simp only[wP,fM,q]at e;cases e;exact LP (ha.ev I q λv s1 M1 x1 I1 r=>Constant_none (isnot_none_gen (JW (by rw[zh r]at k;cases v<;>exact k _ _ x1 I1)))) rfl
set_option tactic.hygienic true in
theorem GR (h:plT a=V) (ha:DE X m a fa):DT X a (λδ=>zw (fa δ)):=λ{M δ s c Q} I e k=>by
 have hs:=pn;cases q:fa δ with
 |none=>simp[zw,q]at e
 |some d=>
  refine isTrue_plain (ha.ev I q λv s1 M1 x1 I1 r=>?_) (zk h)
  simp only[zw,q]at e;cases d<;>dsimp only at e<;>try cases e
  ·cases r;exact truthy_none (k _ _ x1 I1)
  ·cases r;exact JW (k _ _ x1 I1)
  ·obtain⟨t,rfl⟩:=r;exact PySem.P.truthy_int (k _ _ x1 I1)
  ·split at e<;>cases e
   rename_i hz;have:=aw hz;obtain⟨t,rfl⟩:=r;exact PySem.P.truthy_str (by lia) (k _ _ x1 I1.tok)
  ·obtain⟨c,o,vs,rfl,q,t,rs⟩:=r
   have z:=t.1;exact truthy_tuple (t.is I1.heap q) (by simp only[Jm];lia) (by rw[<-rs.emp];exact k _ _ x1 I1.tok)
  ·obtain⟨c,o,vs,rfl,q,t,rs⟩:=r
   have z:=t.1;exact wpAny_truthy_list (t.is I1.heap q) (by simp only[Jm];lia) (by rw[<-rs.emp];exact k _ _ x1 I1.tok)
end
end L2
namespace L2
open PySem PySem.Spec PyProof.Rows Md
variable[Md]
noncomputable def Ret (X:Cx) (M:Mp) (s:IB) (d:D) (v:IA):Bool->Prop
 |false=>R Y M d v
 |true=>∃a o,v=.ref a/\s.heap.get? a=U o/\C M d o/\(Free X M a\/∃i,M a=U (.o i,o))
noncomputable def OutP (X:Cx) (M:Mp) (Q:Flow->IB->Prop):Out->Prop
 |.next δ=>∀s' M',Sx M M'->Inv X M' δ s'->Q .next s'
 |.brk δ=>∀s' M',Sx M M'->Inv X M' δ s'->Q .brk s'
 |.cont δ=>∀s' M',Sx M M'->Inv X M' δ s'->Q .cont s'
 |.ret d fr=>∀v s' M' δ,Sx M M'->Inv X M' δ s'->Ret X M' s' d v fr->Q (.ret v) s'
noncomputable def DS (X:Cx) (st:J6) (g:DEnv->Option Out):Prop:=∀{M δ s o} {Q:Flow->IB->Prop},Inv X M δ s->g δ=U o->OutP X M Q o->WP X (exec st X.env) Q s
noncomputable def DSs (X:Cx) (st:List J6) (g:DEnv->Option Out):Prop:=∀{M δ s o} {Q:Flow->IB->Prop},Inv X M δ s->g δ=U o->OutP X M Q o->WP X (execs st X.env) Q s
section
variable{X:Cx}{M M':Mp}{δ:DEnv}{s:IB}{a b c:Expr}{es:List Expr}{fa fb:DEnv->Option D}{fs:DEnv->Option (List D)}{m m' mm:Bool}{p p2 pos pos' px apos cpos:Ov}{st:J6}{rest:List J6}{g g1 g2:DEnv->Option Out}{fc:DEnv->Option Bool}{Q:Flow->IB->Prop}
theorem OutP.to (h:OutP X M Q o) (x:Sx M M'):OutP X M' Q o:=by
 cases o with
 |next δ=>exact λs' M'' y=>h s' M'' (x.trans y)
 |brk δ=>exact λs' M'' y=>h s' M'' (x.trans y)
 |cont δ=>exact λs' M'' y=>h s' M'' (x.trans y)
 |ret d fr=>exact λv s' M'' δ y=>h v s' M'' δ (x.trans y)
theorem DH:DSs X [] nextO:=λI e k=>by cases e;exact KC (k _ _ Sx.refl I)
theorem ii (h1:DS X st g1) (h2:DSs X rest g2):DSs X (st::rest) (λδ=>ak (g1 δ) g2):=λ{M δ s o Q} I e k=>by
 cases q:g1 δ with
 |none=>simp[q,ak]at e
 |some o1=>
  simp only[q,ak]at e;refine J5 (h1 I q ?_)
  cases o1 with
  |next δ1=>exact λs1 M1 x1 I1=>h2 I1 e (k.to x1)
  |brk δ1=>cases e;exact k
  |cont δ1=>cases e;exact k
  |ret d fr=>cases e;exact k
theorem ED (h:DS X st g):DSs X [st] g:=λ{M δ s o Q} I e k=>J5 (h I e (by cases o with|next δ=>exact λs1 M1 x1 I1=>KC (k _ _ x1 I1)|_=>exact k))
theorem DZ (i:Nat) (h:∃x,Nm X i x) (nd:X.N.Nodup) (hs:DSs X rest g):DSs X rest (λδ=>g (iE i δ)):=λ{M δ s o Q} I e k=>by
 obtain⟨x,h⟩:=h;unfold iE at e;dsimp only at e;split at e
 ·obtain⟨M',h1,h2,h3,I'⟩:=I.frz (by assumption) h.n h.v nd
  exact hs I' e (k.to ⟨h1,λa o q=>(h2 a o).mp q,λa o q=>(h2 a o).mpr q⟩)
 ·exact hs I e k
theorem HM {x y:List J6}(hc:DT X c fc) (ha:DSs X x g1) (hb:DSs X y g2):DS X (.If c x y pos) (λδ=>ifO (fc δ) (g1 δ) (g2 δ)):=λ{M δ s o Q} I e k=>by
 cases q:fc δ with
 |none=>simp[ifO,q]at e
 |some t=>
  simp only[ifO,q]at e;refine Px (hc I q λs1 M1 x1 I1=>?_)
  cases t
  ·exact hb I1 e (k.to x1.sx)
  ·exact ha I1 e (k.to x1.sx)
theorem li (h:aH i x δ=U o):∃d,x=U d/\o=.next (δ.set i (U (d,Y))):=by unfold aH at h;split at h;split at h<;>simp_all;cases h
theorem pF (h:eC i x δ=U o):∃d,x=U d/\o=.next (δ.set i (U (d,V))):=by unfold eC at h;split at h;split at h<;>simp_all;cases h
theorem Ew (hx:Lc X i x) (ha:DE X Y a fa) (hs:swapsWith a (U (.Name x pos')) pos.line X.env=pure Y):DS X (.Assign [.Name x pos'] a pos) (λδ=>aH i (fa δ) δ):=λI e k=>by
 obtain⟨d,e1,rfl⟩:=li e;exact LR (ha.ev I e1 λv s1 M1 x1 I1 r=>I1.store hx (b:=Y) r λs2 _ I2 _ _=>k _ _ x1.sx I2) hs
theorem AU (hx:Lc X i x) (ha:DF X a fa) (hs:swapsWith a (U (.Name x pos')) pos.line X.env=pure Y):DS X (.Assign [.Name x pos'] a pos) (λδ=>eC i (fa δ) δ):=λI e k=>by
 obtain⟨d,e1,rfl⟩:=pF e;exact LR (ha.ev I e1 λa o s1 M1 x1 I1 f q c=>I1.setOwn f q c hx λs2 M2 _ I2 h1 h2 _ _ _=>k _ _ (x1.sx.trans ⟨h1,λa o q=>(h2 a o).mp q,λa o q=>(h2 a o).mpr q⟩) I2) hs
theorem Fd (ha:DE X Y a fa):DS X (.Return (U a) pos) (λδ=>aW (fa δ)):=λ{M δ s o Q} I e k=>by
 cases q:fa δ with
 |none=>simp[aW,q]at e
 |some d=>simp only[aW,q]at e;cases e;exact Nc (ha.ev I q λv s1 M1 x1 I1 r=>k v _ _ _ x1.sx I1 r)
theorem Ds (ha:DF X a fa):DS X (.Return (U a) pos) (λδ=>c9 (fa δ)):=λ{M δ s o Q} I e k=>by
 cases q:fa δ with
 |none=>simp[c9,q]at e
 |some d=>simp only[c9,q]at e;cases e;exact Nc (ha.ev I q λa o s1 M1 x1 I1 f h c=>k _ _ _ _ x1.sx I1 ⟨a,o,rfl,h,c,.inl f⟩)
theorem aO (h:aV i δ=U d):δ[i]?=U (U (d,V)):=by unfold aV at h;split at h<;>simp_all
theorem Bf (h:Nm X i x):DS X (.Return (U (.Name x px)) pos) (λδ=>c9 (aV i δ)):=λ{M δ s o Q} I e k=>by
 cases q:aV i δ with
 |none=>simp[c9,q]at e
 |some d=>
  simp only[c9,q]at e;cases e;exact Nc (L0 (I.load h (aO q) λv r=>by obtain⟨a,o,rfl,q,c⟩:=r;exact k _ _ _ _ Sx.refl I ⟨a,o,rfl,I.heap _ _ _ q,c,.inr ⟨i,q⟩⟩) h.d)
theorem Gx (hx:Lc X i x) (h:Nm X i x) (ha:DE X Y a fa):DS X (.AugAssign (.Name x pos') .Add a pos) (λδ=>aH i (bY (rd Y i δ) (fa δ)) δ):=λI e k=>by
 obtain⟨d,e1,rfl⟩:=li e;obtain⟨x,y,e4,e2,e3⟩:=iP e1;cases x<;>cases y<;>try cases e3
 obtain⟨o,h1,h2⟩:=wS e4;refine wpAny_AugAssign_Name (I.load h h1 λv r=>ha.ev I e2 λu s1 M1 x1 I1 r1=>?_)
 have r0:=r.rep (m:=V) λ_=>rfl
 obtain⟨t,rfl⟩:=r0;obtain⟨t',rfl⟩:=r1;exact iadd_int (I1.tok.store hx (b:=Y) (d:=.int _) ⟨_,rfl⟩ λs2 _ I2 _ _=>k _ _ x1.sx I2)
noncomputable def DG (X:Cx) (tg:Expr) (τ:D->DEnv->Option DEnv):Prop:=∀{M δ s d v δ'} {Q:Unit->IB->Prop},Inv X M δ s->R Y M d v->τ d δ=U δ'->(∀s',Inv X M δ' s'->Q () s')->WP X (assign tg X.env v) Q s
noncomputable def DGs (X:Cx) (ts:List Expr) (τ:List D->DEnv->Option DEnv):Prop:=∀{M δ s ds vs δ'} {Q:Unit->IB->Prop},Inv X M δ s->Rs Y M ds vs->τ ds δ=U δ'->(∀s',Inv X M δ' s'->Q () s')->WP X (assignInOrder ((assignEach ts X.env).map (·.2)) vs) Q s
theorem dO (h:af i d δ=U δ'):δ'=δ.set i (U (d,Y)):=by unfold af at h;split at h<;>simp_all
theorem A5 (hx:Lc X i x):DG X (.Name x pos) (af i):=λI r e k=>by
 obtain rfl:=dO e;exact OE (I.store hx (b:=Y) r λs' _ I' _ _=>k s' I')
theorem Eh:DGs X [] toNil:=λ{M δ s ds vs δ' Q} I r e k=>by
 cases ds with
 |nil=>cases e;exact assignInOrder_nil (k _ I)
 |cons d ds=>cases e
noncomputable def plG:Expr->Bool|.Starred .. =>Y|_=>V
theorem wX (h:plG e=V):assignEach (e::es) v=(Y,assign e v)::assignEach es v:=by cases e<;>first|rfl|cases h
theorem AT {e:Expr}{τ:D->DEnv->Option DEnv}{υ:List D->DEnv->Option DEnv}(hp:plG e=V) (h1:DG X e τ) (h2:DGs X es υ):DGs X (e::es) (ah τ υ):=λ{M δ s ds vs δ' Q} I r e k=>by
 cases ds with
 |nil=>cases e
 |cons d ds=>
  obtain⟨δ1,e1,e2⟩:=ag e;obtain⟨v,r,rfl,r1,r2⟩:=r;rw[wX hp];exact assignInOrder_cons (h1 I r1 e1 λs1 I1=>h2 I1 r2 e2 k)
theorem aI {τ:D->DEnv->Option DEnv}{υ:List D->DEnv->Option DEnv}{n:Nat}(h:∀ds δ δ',υ ds δ=U δ'->ds.length=n) (ds:List D) (δ δ':DEnv) (e:ah τ υ ds δ=U δ'):ds.length=n+1:=by
 cases ds with
 |nil=>cases e
 |cons d ds=>obtain⟨δ1,_,e2⟩:=ag e;rw[IU,h _ _ _ e2]
theorem iC (ds:List D) (δ δ':DEnv) (e:toNil ds δ=U δ'):ds.length=0:=by cases ds with|nil=>rfl|cons d ds=>cases e
theorem ET {k:Nat}{υ:List D->DEnv->Option DEnv}{n:Nat}(h:DGs X es υ) (hl:∀ds δ δ',υ ds δ=U δ'->ds.length=n) (hn:(assignEach es X.env).length=n) (hst:(assignEach es X.env).findIdx? (·.1)=B):DG X (.Tuple es k pos) (aL υ):=λ{M δ s d v δ' Q} I r e k=>by
 cases d<;>try cases e
 obtain⟨a,o,vs,rfl,q,t,rs⟩:=r;refine assign_Tuple_tuple I.ok.room.hd (t.is I.heap q) (by simp[hn,<-hl _ _ _ e,rs.length]) hst λh' hx=>?_
 exact h (I.kp (s':={s with heap:=h'}) λb o e=>hx b o (Ji (IJ e)) e) (by simpa using rs) e k
set_option tactic.hygienic true in
theorem xR {tg:Expr}{τ:D->DEnv->Option DEnv}(ha:DE X Y a fa) (hg:DG X tg τ) (hp:plG tg=V) (hs:swapsWithSole [tg] a pos.line X.env=pure Y) (hw:swappedStores [tg] a X.env=pure B):DS X (.Assign [tg] a pos) (λδ=>GX (fa δ) τ δ):=λ{M δ s o Q} I e k=>by
 unfold GX at e;dsimp only at e;split at e<;>try cases e
 split at e<;>cases e
 rename_i d e1 _ δ' e2;refine wpAny_Assign_stores (ha.ev I e1 λv s1 M1 x1 I1 r=>?_) hs hw
 rw[wX hp];exact hg I1 r e2 λs2 I2=>k _ _ x1.sx I2
theorem Bz {id T:String}{name:IX}{Q:IA->IB->Prop}(pa:PlainAttrs T) (slot:Slot T name id) (hty:typeOf (.builtin id)=pure (.type "method_descriptor")) (l:(apos.endLine==cpos.line)=V) (h:Nm X i x) (hb:DA X m' (b::es) fs) (hn:es.length<20) (I:Inv X M δ s) (e:δ[i]?=U (U (d,V))) (e2:fs δ=U ds)
  (ht:∀{M:Mp}{o},C M d o->o.cls=.type T/\o.dict=B)
  (k:∀a o vs s' M',Ext M M'->Inv X M' δ s'->M' a=U (.o i,o)->C M' d o->Rs m' M' ds vs->WP X (call (.builtin id) (.ref a::vs)) Q s'):WP X (eval (.Call (.Attribute (.Name x px) name apos) (b::es) [] cpos) X.env) Q s:=
 Cn (Z:=λM v=>Va M i d v V) pa slot hty l rfl hb hn e2 (λkk=>L0 (I.load h e λv r=>kk v _ _ Ext.refl I r) h.d) (λH z=>by
  obtain⟨a,o,rfl,q,c⟩:=z;exact⟨⟨o,H _ _ _ q,(ht c).1⟩,λb e=>by cases e;exact⟨o,H _ _ _ q,(ht c).2⟩⟩) (λx z=>z.to x.sub λa o q=>(x a).elim (λw=>w.trans q) λw=>by rw[w.1]at q;cases q) λv vs s' M' x I' z r=>by
  obtain⟨a,o,rfl,q,c⟩:=z;exact k a o vs s' M' x I' q c r
theorem rV {M:Mp}(c:C M (.lst ds) o):o.cls=.type "list"/\o.dict=B:=by obtain⟨vs,⟨_,n,rfl⟩,_⟩:=c;exact⟨rfl,rfl⟩
theorem EZ:Ow {cls:=.type "list",data:=.seq vs n}:=⟨by simp,λ_ z=>nomatch z⟩
theorem Inv.lset {c:IZ}{vs us:List IA}{n:Nat}{f:Array IA->Array IA}{t:Nat}(I:Inv X M δ s) (h:Nm X i x) (nd:X.N.Nodup) (e:δ[i]?=U (U (.lst ds,V))) (q:M c=U (.o i,{cls:=.type "list",data:=.seq vs.toArray n})) (hf:f vs.toArray=us.toArray) (r:Rs Y M ds' us) (hz:ds'.length<=lim):
  ∃M',Inv X M' (δ.set i (U (.lst ds',V))) {s with heap:=s.heap.update c (Jc f),toks:=t}/\Sx M M':=by
 have g:=PD (I.heap _ _ _ q) f;rw[hf]at g;obtain⟨h1,h2,h3⟩:=I.chg (s':={s with heap:=s.heap.update c (Jc f),toks:=t}) e h.n h.v nd q (λb ob z w=>(IP s.heap (Jc f) (Jb z)).trans w) g EZ (d':=.lst ds') ⟨us,⟨by rw[<-r.length];exact aw hz,_,rfl⟩,r⟩
 exact⟨_,h1,h2,λa o=>(h3 a o).mp,λa o=>(h3 a o).mpr⟩
theorem Inv.quiet (I:Inv X M δ s):interactive X.env=Y:=by simp[interactive,I.ok.kind]
set_option tactic.hygienic true in
theorem vL (h:Nm X i x) (nd:X.N.Nodup) (ha:DE X Y a fa) (l:(apos.endLine==cpos.line)=V):DS X (.Expr (.Call (.Attribute (.Name x px) "append" apos) [a] [] cpos) pos) (λδ=>jA i (fa δ) δ):=λ{M δ s o Q} I e k=>by
 unfold jA at e;dsimp only at e;split at e<;>try cases e
 split at e<;>cases e
 rename_i ds d e1 e2 hl;refine Py (Bz L4 PySem.F.slot_list_append PySem.F.type_list_append l h (aT ha cL) (by decide) I (aO e1) (ds:=[d]) (by rw[e2];rfl) rV λa o vs s1 M1 x1 I1 q c r=>?_) I.quiet rfl
 obtain⟨u,rfl,r1⟩:=r.is1;obtain⟨vs,⟨z,n,rfl⟩,rs⟩:=c;have hq:=I1.heap _ _ _ q;have hl1:=rs.length;have:lim<sizeLine:=by decide +kernel
 obtain⟨M2,I2,x2⟩:=I1.lset (f:=λa=>a.push u) (us:=vs++[u]) (t:=s1.toks) h nd (aO e1) q (by simp) (rs.append (.one r1)) (by simp;lia)
 exact NH F.slot_list_append ⟨_,hq,rfl⟩ F.entry_list_append (F.args_list_append_2 _ _) (PySem.list_append a vs.toArray n u (by simp;lia)) ⟨hq,k _ _ (x1.sx.trans x2) I2⟩
set_option tactic.hygienic true in
theorem wi (h:Nm X i x) (nd:X.N.Nodup) (ha:DF X a fa) (l:(apos.endLine==cpos.line)=V):DS X (.Expr (.Call (.Attribute (.Name x px) "extend" apos) [a] [] cpos) pos) (λδ=>Cw i (fa δ) δ):=λ{M δ s o Q} I e k=>by
 unfold Cw at e;dsimp only at e;split at e<;>try cases e
 split at e<;>cases e
 rename_i ds es e1 e2 hl;refine Py (Bz L4 PySem.F.slot_list_extend PySem.F.type_list_extend l h (aT (m:=Y) ha.share cL) (by decide) I (aO e1) (ds:=[.lst es]) (by rw[e2];rfl) rV λa o us s1 M1 x1 I1 q c r=>?_) I.quiet rfl
 obtain⟨u,rfl,r1⟩:=r.is1;obtain⟨c',o',vs',rfl,q',t',rs'⟩:=r1;obtain⟨vs,⟨z,n,rfl⟩,rs⟩:=c;have hq:=I1.heap _ _ _ q;obtain⟨n',hq'⟩:=t'.obj I1.heap q';have hl1:=rs.length;have hl2:=rs'.length;have z':=t'.1;have:=aw hl;obtain⟨M2,I2,x2⟩:=I1.lset (f:=λa=>a++vs'.toArray) (us:=vs++vs') (t:=s1.toks) h nd (aO e1) q (by simp) (rs.append rs') (by simpa using hl)
 refine NH F.slot_list_extend ⟨_,hq,rfl⟩ F.entry_list_extend (F.args_list_extend_2 _ _) (AutoSeq1.list_extend_list_list_0 a vs.toArray n c' vs'.toArray n' ?_ (by rw[Jm];lia) (by simp;lia)) ⟨hq,hq',k _ _ (x1.sx.trans x2) I2⟩
 rw[show Builtin.List.listTooLong (vs.toArray.size+vs'.toArray.size)=Y from decide_eq_false (by simp;lia),OU];exact KS
theorem uN {body:List J6}{ft:DEnv->Option Bool}{gb:DEnv->Option Out}(n:Nat) (hc:DT X c ft) (hb:DSs X body gb):DS X (.While c body [] pos) (λδ=>aP ft gb n δ):=λ{M δ s o Q} I e k=>by
 refine wpAny_While (codeAny_whileLoop (λj s'=>∃δ' M',Sx M M'/\Inv X M' δ' s'/\aP ft gb j δ'=U o) ?_ n ⟨δ,M,Sx.refl,I,e⟩)
 rintro j s1 ⟨δ1,M1,x1,I1,e1⟩
 cases j with
 |zero=>cases e1
 |succ j=>
  unfold aP at e1;cases q:ft δ1 with
  |none=>simp[q]at e1
  |some t=>
   simp only[q]at e1;refine JF JD (hc I1 q λs2 M2 x2 I2=>?_)
   cases t with
   |false=>cases e1;exact KC (k _ _ (x1.trans x2.sx) I2)
   |true=>
    cases q2:gb δ1 with
    |none=>simp[q2]at e1
    |some o1=>
     simp only[q2]at e1;refine JF JD (hb I2 q2 ?_)
     have x12:=x1.trans x2.sx;cases o1 with
     |next δ3=>exact λs3 M3 x3 I3=>⟨j,Kj j,δ3,M3,x12.trans x3,I3,e1⟩
     |cont δ3=>exact λs3 M3 x3 I3=>⟨j,Kj j,δ3,M3,x12.trans x3,I3,e1⟩
     |brk δ3=>cases e1;exact λs3 M3 x3 I3=>k _ _ (x12.trans x3) I3
     |ret d fr=>cases e1;exact λv s3 M3 δ3 x3 I3 r=>k _ _ _ _ (x12.trans x3) I3 r
end
end L2
namespace L2
open PySem PySem.Spec PyProof.Rows Md
variable[Md]
noncomputable def Ch (fp:List IZ) (s s':IB):Prop:=(s'.os=s.os/\s'.gens=s.gens)/\∀b o,b∉fp->s.heap.get? b=U o->s'.heap.get? b=U o
noncomputable def Got (m:Bool) (M:Mp) (s s':IB) (d:D) (u:IA):Prop:=R m M d u\/∃t o,s.heap.objs.size<=t/\s'.heap.get? t=U o/\R m (upd M t (U (.f,o))) d u
structure Turn2 (A:Jj) (tg:Expr) (m m':Bool) (M:Mp) (ds:List D) (fp:List IZ) (it:IZ) (tn:Nat->Kl->Prop):Prop where
 ex:∀{i h},tn i h->∀b∈fp,∃o,h.get? b=U o
 keep:∀{i h h'},tn i h->(∀b∈fp,∀o,h.get? b=U o->h'.get? b=U o)->tn i h'
 item:∀{i s d},tn i s.heap->(∀a o,Rd m M a o->s.heap.get? a=U o)->ds[i]?=U d->wpAny (model P w) A (pyNext (.ref it)) (λr s1=>∃u,r=U u/\
  wpAny (model P w) A (letOwnedTupleGo tg (.ref it) u) (λ_ s2=>Ch fp s s2/\tn (i+1) s2.heap/\Got m' M s s2 d u) (λ_ _=>False) s1) (λ_ _=>False) s
 done:∀{s},tn ds.length s.heap->(∀a o,Rd m M a o->s.heap.get? a=U o)->wpAny (model P w) A (pyNext (.ref it)) (λr s1=>r=B/\Ch fp s s1) (λ_ _=>False) s
 self:∀{A:Jj}{i s} {Q E:IA->IB->Prop},tn i s.heap->Q (.ref it) s->wpAny (model P w) A (pyIter (.ref it)) Q E s
noncomputable abbrev FD (A:Jj) (tg:Expr) (m:Bool):=Turn2 A tg m m
noncomputable abbrev Hd (X:Cx) (tg:Expr) (M:Mp) (δ:DEnv) (m m':Bool) (ds:List D) (Q:IA->IB->Prop):Prop:=∀it fp tn s' M',Ext M M'->Inv X M' δ s'->Turn2 X.A tg m m' M' ds fp it tn->tn 0 s'.heap->(∀b∈fp,Free X M' b)->Q (.ref it) s'
structure DI2 (X:Cx) (m m':Bool) (tg iter:Expr) (f:DEnv->Option (List D)):Prop where
 pl:plE iter=V
 ev:∀{M δ s ds} {Q:IA->IB->Prop},Inv X M δ s->f δ=U ds->Hd X tg M δ m m' ds Q->WP X (eval iter X.env) (λv s1=>WP X (pyIter v) Q s1) s
noncomputable abbrev DI (X:Cx) (m:Bool):=DI2 X m m
section
variable{X:Cx}{M M' M1:Mp}{δ:DEnv}{s s':IB}{tg iter:Expr}{es:List Expr}{fa fb:DEnv->Option D}{m m' mm:Bool}{p pos tp:Ov}
theorem Inv.ch (I:Inv X M δ s) (h:Ch fp s s') (hf:∀b∈fp,Free X M b):Inv X M δ s':=I.wr fp hf (λb o hb=>h.2 b o hb) h.1
theorem Ae (h:Sub m M m' M'):Sub m (upd M a (U (.f,o))) m' (upd M' a (U (.f,o))):=λb ob ⟨k,e,z⟩=>by
 by_cases q:b=a
 ·subst q;rw[aq]at e;cases e;exact⟨.f,aq,rfl⟩
 ·rw[av q]at e;obtain⟨k',e',z'⟩:=h b ob ⟨k,e,z⟩;exact⟨k',by rw[av q];exact e',z'⟩
theorem Inv.got (I:Inv X M' δ s) (hs:Sub m M m' M') (g:Got m M s s' d u) (c:Ch fp s s') (hf:∀b∈fp,Free X M' b):∃M'',Ext M' M''/\Inv X M'' δ s'/\R m' M'' d u/\∀b o,Free X M' b->s.heap.get? b=U o->Free X M'' b:=by
 have I1:=I.ch c hf
 rcases g with g|⟨t,o,h1,h2,h3⟩
 ·exact⟨M',Ext.refl,I1,g.to hs,λb _ f _=>f⟩
 ·have f:=I.fresh h1
  refine⟨_,fF f.m,I1.put f h2,h3.to (Ae hs),λb o f e=>⟨?_,f.l,f.c,f.t,f.s⟩⟩
  rw[av];exact f.m
  rintro rfl
  exact absurd (IJ e) (Nat.not_lt.mpr h1)
theorem Ret.unp (r:Ret X M1 s d v fr) (h1:Sub Y M1 Y M') (h2:∀a,M1 a=B->M' a=B) (h3:∀a i o,M1 a=U (.o i,o)->M' a=U (.o i,o)):Ret X M' s d v fr:=by
 cases fr with
 |false=>exact R.to h1 r
 |true=>
  obtain⟨a,o,e,q,c,z⟩:=r;exact⟨a,o,e,q,c.to h1,z.imp (λf=>⟨h2 _ f.m,f.l,f.c,f.t,f.s⟩) λ⟨i,w⟩=>⟨i,h3 _ _ _ w⟩⟩
theorem E6 {body:List J6}{fi:DEnv->Option (List D)}{τ:D->DEnv->Option DEnv}{gb:DEnv->Option Out}(hi:DI X Y tg iter fi) (hg:DG X tg τ) (hb:DSs X body gb):DS X (.For tg iter body [] pos) (λδ=>ae (fi δ) λds=>am (λd δ=>ae (τ d δ) gb) ds δ):=λ{M δ s o Q} I e k=>by
 obtain⟨ds,e1,e2⟩:=ag e;refine wpAny_For (hi.ev I e1 λit fp tn s1 M1 x1 I1 T t0 f1=>?_) λx=>kK hi.pl
 refine N8 (λn s'=>∃i δ' M',n=ds.length - i/\i<=ds.length/\Sx M1 M'/\Inv X M' δ' s'/\tn i s'.heap/\(∀b∈fp,Free X M' b)/\am (λd δ=>ae (τ d δ) gb) (ds.drop i) δ'=U o) ?_ ds.length ⟨0,δ,M1,rfl,Jf _,Sx.refl,I1,t0,f1,e2⟩
 rintro n s2 ⟨i,δ2,M2,rfl,hi',x2,I2,t2,f2,e3⟩
 have rd2:∀a o,Rd Y M1 a o->s2.heap.get? a=U o:=λa o q=>I2.heap _ _ _ (rdf.mp (x2.f _ _ q))
 have k2:=k.to (x1.sx.trans x2)
 by_cases hlt:i<ds.length
 ·rw[Jr hlt]at e3
  simp only[am]at e3;refine JF JD (thn (T.item t2 rd2 (d:=ds[i]) (by simp[hlt])) λr s3 hz=>?_)
  obtain⟨u,rfl,h3⟩:=hz;refine JF JD (thn h3 λ_ s4 hz=>?_)
  obtain⟨c4,t4,g4⟩:=hz;obtain⟨M4,x4,I4,r4,f4'⟩:=I2.got x2.f g4 c4 f2;have f4:∀b∈fp,Free X M4 b:=λb hb=>by obtain⟨o,e⟩:=T.ex t2 b hb;exact f4' b o (f2 b hb) e
  cases q:ae (τ ds[i] δ2) gb with
  |none=>simp[q]at e3
  |some o1=>
   simp only[q]at e3;obtain⟨δ5,q1,q2⟩:=ag q;refine JF JD (hg I4.pin (r4.to lj) q1 λs5 I5=>?_)
   refine JF JD (hb I5 q2 ?_)
   have fin:∀{δ6 M6 s6},Sx (pin X M4 s4.heap) M6->Inv X M6 δ6 s6->∃M7,Sx M2 M7/\Inv X M7 δ6 s6/\tn (i+1) s6.heap/\(∀b∈fp,Free X M7 b)/\Sub Y M6 Y M7/\(∀a,M6 a=B->M7 a=B)/\∀a i o,M6 a=U (.o i,o)->M7 a=U (.o i,o):=λy J=>by
    obtain⟨h1,h2,h3,h4,h5,h6⟩:=I4.unp J y;exact⟨_,x4.sx.trans h2,h1,T.keep t4 λb hb o e=>(h6 b o (f4 b hb) e).1,λb hb=>by obtain⟨o,e⟩:=T.ex t4 b hb;exact(h6 b o (f4 b hb) e).2,h3,h4,h5⟩
   have again:∀{δ6 M6 s6},Sx (pin X M4 s4.heap) M6->Inv X M6 δ6 s6->am (λd δ=>ae (τ d δ) gb) (ds.drop (i+1)) δ6=U o->∃m,m<ds.length - i/\∃i δ' M',m=ds.length - i/\i<=ds.length/\Sx M1 M'/\Inv X M' δ' s6/\tn i s6.heap/\(∀b∈fp,Free X M' b)/\am (λd δ=>ae (τ d δ) gb) (ds.drop i) δ'=U o:=λy J e=>by
    obtain⟨M7,h1,h2,h3,h4,_⟩:=fin y J;exact⟨ds.length - (i+1),by lia,i+1,_,M7,rfl,hlt,x2.trans h1,h2,h3,h4,e⟩
   cases o1 with
   |next δ6=>exact λs6 M6 y J=>again y J e3
   |cont δ6=>exact λs6 M6 y J=>again y J e3
   |brk δ6=>cases e3;exact λs6 M6 y J=>by obtain⟨M7,h1,h2,_⟩:=fin y J;exact k2 _ _ h1 h2
   |ret d fr=>cases e3;exact λv s6 M6 δ6 y J r=>by obtain⟨M7,h1,h2,h3,h4,h5,h6,h7⟩:=fin y J;exact k2 _ _ _ _ h1 h2 (r.unp h5 h6 h7)
 ·obtain rfl:i=ds.length:=by lia
  rw[M0]at e3;cases e3;refine JF JD (thn (T.done t2 rd2) λr s3 hz=>?_)
  obtain⟨rfl,c3⟩:=hz;exact KC (k2 _ _ Sx.refl (I2.ch c3 f2))
theorem AC {A:Jj}{E:IA->IB->Prop}{it:IZ}{u:IA}{o:N1}{n:String}{vs:Array IA}{Q:Unit->IB->Prop}(ho:s.heap.get? it=U o) (hc:o.cls=.type n) (hd:o.data=.fields vs)
  (hn:["enumerate","zip","dict_itemiterator","dict_reverseitemiterator","odict_iterator","itertools.zip_longest","itertools.pairwise"].contains n=Y) (hQ:Q () s):wpAny (model P w) A (letOwnedTupleGo tg (.ref it) u) Q E s:=by
 cases tg<;>first
  |exact Iy hQ
  |(cases u<;>first
    |exact Iy hQ
    |(refine Ix (NE ho ?_)
      rw[hc,hd];show wpAny _ A (if(["enumerate","zip","dict_itemiterator","dict_reverseitemiterator","odict_iterator","itertools.zip_longest","itertools.pairwise"].contains n&&vs[0]?==U (rawInt _))=V then _ else _) Q E s
      rw[if_neg (by intro h;rw[hn,Bool.false_and]at h;cases h)]
      exact Iy hQ))
theorem ox {h':Kl}{t:Nat}(h:JX it s.heap h'):Ch [it] s {s with heap:=h',toks:=t}:=⟨⟨rfl,rfl⟩,λb o hb e=>(h.2 b λz=>hb (by simp[z])).trans e⟩
theorem q8 {h':Kl}(h:NC it s.heap h'):Ch [it] s {s with heap:=h'}:=⟨⟨rfl,rfl⟩,λb o hb e=>h b o (λz=>hb (by simp[z])) e⟩
theorem nR (h:∀a o,Rd m M a o->s.heap.get? a=U o) (q:Rd m M c o) (t:LstO o vs):s.heap.IsList c vs.toArray:=by obtain⟨_,n,rfl⟩:=t;exact⟨_,h _ _ q,rfl,n,rfl⟩
theorem BY (h:∀a o,Rd m M a o->s.heap.get? a=U o) (q:Rd m M c o) (t:TupO o vs):s.heap.IsTuple c vs.toArray:=⟨_,h _ _ q,t.2⟩
theorem qX (hh:A.handled=B) (q:Rd m M c o) (t:LstO o vs) (rs:Rs m' M ds vs):Turn2 A tg m m' M ds [it] it (λi h=>h.IsListIter it c i) where
 ex:=λ⟨o,e,_⟩ b hb=>by
   obtain rfl:b=it:=by simpa using hb
   exact⟨o,e⟩
 keep:=λst k=>st.at λo e=>k it (by simp) o e
 item:=λ{i s d} st h e=>by
  obtain⟨u,h1,h2⟩:=rs.get e;refine wpAny_pyNext_list_item st (nR h q t) (x:=u) (by simpa using h1) λh' st' sb=>?_
  obtain⟨o,e,c,d⟩:=id st';exact⟨u,rfl,AC (s:={s with heap:=h'}) e c d (by decide) ⟨ox (t:=s.toks) sb,st',.inl h2⟩⟩
 done:=λst h=>wpAny_pyNext_list_end hh st (nR h q t) (by simp[rs.length]) λh' eb=>⟨rfl,q8 eb⟩
 self:=λst h=>wpAny_pyIter_listiter st h
theorem vR (hh:A.handled=B) (q:Rd m M c o) (t:TupO o vs) (rs:Rs m M ds vs):FD A tg m M ds [it] it (λi h=>h.IsTupleIter it c i) where
 ex:=λ⟨o,e,_⟩ b hb=>by
   obtain rfl:b=it:=by simpa using hb
   exact⟨o,e⟩
 keep:=λst k=>st.at λo e=>k it (by simp) o e
 item:=λ{i s d} st h e=>by
  obtain⟨u,h1,h2⟩:=rs.get e;refine wpAny_pyNext_tuple_item st (BY h q t) (x:=u) (by simpa using h1) λh' st' sb=>?_
  obtain⟨o,e,c,d⟩:=id st';exact⟨u,rfl,AC (s:={s with heap:=h'}) e c d (by decide) ⟨ox (t:=s.toks) sb,st',.inl h2⟩⟩
 done:=λst h=>wpAny_pyNext_tuple_end hh st (BY h q t) (by simp[rs.length]) λh' eb=>⟨rfl,q8 eb⟩
 self:=λst h=>wpAny_pyIter_tupleiter st h
theorem zQ (I:Inv X M δ s):∀b∈[s.heap.objs.size],Free X M b:=λb hb=>by rw[List.mem_singleton.mp hb];exact I.fresh (IM _)
theorem kx (h:bA x=U ds):x=U (.lst ds):=by unfold bA at h;split at h<;>simp_all
theorem pb (h:rB x=U ds):x=U (.tup ds):=by unfold rB at h;split at h<;>simp_all
variable{a b:Expr}
theorem CN (h:DE X m a fa):DI X m tg a (λδ=>bA (fa δ)):=⟨h.pl,λI e k=>h.ev I (kx e) λv s1 M1 x1 I1 r=>by
 obtain⟨c,o,vs,rfl,q,t,rs⟩:=r;exact KO (t.is I1.heap q) (k _ _ _ _ _ x1 (I1.push (t:=s1.toks)) (qX I.ok.room.hd q t rs) ⟨_,IF _ rfl,rfl,rfl⟩ (zQ I1))⟩
theorem FX (h:DE X m a fa):DI X m tg a (λδ=>rB (fa δ)):=⟨h.pl,λI e k=>h.ev I (pb e) λv s1 M1 x1 I1 r=>by
 obtain⟨c,o,vs,rfl,q,t,rs⟩:=r;exact wpAny_pyIter_tuple (t.is I1.heap q) (k _ _ _ _ _ x1 (I1.push (t:=s1.toks)) (vR I.ok.room.hd q t rs) ⟨_,IF _ rfl,rfl,rfl⟩ (zQ I1))⟩
theorem Ad {lo:Int}(h:(iK lo n)[i]?=U d):i<n/\d=.int (lo+i):=by
 unfold iK at h
 by_cases hi:i<n
 ·rw[Ja,List.getElem?_range hi]at h;cases h;exact⟨hi,rfl⟩
 ·rw[LG (by simpa using Nat.not_lt.mp hi)]at h;cases h
theorem mC (hh:A.handled=B) (lo:Int) (n:Nat):FD A tg m M (iK lo n) [it] it (λi h=>IsRangeIter h it (lo+(i:Nat)*1) ((n:Int) - (i:Nat)) 1) where
 ex:=λst b hb=>by
   obtain rfl:b=it:=by simpa using hb
   exact⟨_,st⟩
 keep:=λst k=>k it (by simp) _ st
 item:=λ{i s d} st h e=>by
  obtain⟨hi,rfl⟩:=Ad e;have W:=Walks.range (prog:=P) (w:=w) hh it lo 1 n;refine W.item i s _ _ hi st λv h' tk hv st' kk=>?_
  obtain⟨t,rfl⟩:=hv;exact⟨_,rfl,AC (s:={s with heap:=h',toks:=tk}) (n:="range_iterator") st' rfl rfl (by decide) ⟨⟨⟨rfl,rfl⟩,λb o hb e=>kk b o (by simpa using hb) e⟩,st',.inl ⟨t,by rw[Int.mul_one]⟩⟩⟩
 done:=λ{s} st h=>wpAny_pyNext_range_end hh st (by
   have:(iK lo n).length=n:=by simp[iK]
   lia) λh' eb=>⟨rfl,q8 eb⟩
 self:=λst h=>wpAny_pyIter_rangeiter st h
set_option tactic.hygienic true in
theorem D5 (g:Bn X "range") (h:DE X m a fa):DI X mm tg (.Call (.Name "range" p) [a] [] pos) (λδ=>rD (fa δ)):=⟨rfl,λ{M δ s ds Q} I e k=>by
 unfold rD at e;split at e<;>try cases e
 split at e<;>cases e
 rename_i j q hj;have hj:=of_decide_eq_true hj;refine eX g boot_range h I q λv s1 M1 x1 I1 r=>?_
 obtain⟨t,rfl⟩:=r;refine call_range_1 (wpAny_pyIter_range (Pi ..) (small_one (by lia) (by lia) hj.1 hj.2) ?_)
 refine k _ _ _ _ _ x1 (I1.push.push (t:=s1.toks+2)) (mC I.ok.room.hd 0 j.toNat) ?_ λb hb=>?_
 ·rw[show(0:Int)+((0:Nat):Int)*1=0 by simp,show((j.toNat:Nat):Int) - ((0:Nat):Int)=N7 0 j 1 by rw[rangeSize_one];split<;>lia]
  exact IF _ rfl
 ·rw[List.mem_singleton.mp hb];exact I1.fresh (by rw[JG];exact LQ _)⟩
end
end L2
namespace L2
open PySem PySem.Spec PyProof.Rows Md
variable[Md]
structure Bas (M:Mp) (s:IB):Prop where
 og:s.os=Md.os/\s.gens=gens
 heap:Hm M s.heap
 base:∀a o,base.get? a=U o->M a=U (.p,o)
 tabs:TabOk M s.heap
 own:∀a i o,M a≠U (.o i,o)
 full:∀a o,s.heap.get? a=U o->M a≠B\/∃q∈tb,a=q.1
 sys:∀k o,M sysModules=U (k,o)->k=.p
noncomputable def Gd (fd:PM) (ps:List IX):Prop:=∀(s:IB) (us:List IA),us.length=ps.length->BindsTo s fd ⟨us,[]⟩ (ps.zip us)
structure FnM (k:Nat) (x:IX) (f:List D->Option (D×Bool)):Prop where
 ex:∃p,mg x=U (.ref p)/\PySem.W.keepIn K (.ref p)=V/\∀{A s M us ds r fr},Room k A->Mod->Bas M s->Rs Y M ds us->f ds=U (r,fr)->
  codeAny (model P w) A (.call (.ref p) ⟨us,[]⟩) (λres s'=>∃v X' M1 δ1,res=.ok (.ret v)/\Sx M M1/\Inv X' M1 δ1 s'/\Ret X' M1 s' r v fr) s
theorem Room.mono {j k:Nat}{A:Jj}(r:Room k A) (h:j<=k):Room j A:=⟨r.hd,by have:=r.dp;lia,by have:=r.un;lia⟩
theorem Room.deeper {k:Nat}{A:Jj}(r:Room (k+1) A) (env:Env):Room k (A.deeper env):=
 ⟨r.hd,by have:=r.dp;show A.depth+1+3*k+5<_;lia,by have:=r.un;simp;lia⟩
section
variable{X:Cx}{M:Mp}{δ:DEnv}{s:IB}{a:Expr}{es:List Expr}{fs:DEnv->Option (List D)}{m:Bool}{p pos:Ov}{f:List D->Option (D×Bool)}
theorem Inv.calI (I:Inv X M δ s) (hf:∀b∈ex,Free X M b):Hm (cal m ko M s.heap ex) s.heap/\(∀b o,Md.base.get? b=U o->cal m ko M s.heap ex b=U (.p,o))/\TabOk (cal m ko M s.heap ex) s.heap/\∀b i o,cal m ko M s.heap ex b=U (.o i,o)->ko=V/\M b=U (.o i,o):=by
 have key:∀b k o,cal m ko M s.heap ex b=U (k,o)->s.heap.get? b=U o/\∀i,k=.o i->ko=V/\M b=U (.o i,o):=λb k o e=>by
  unfold cal at e;cases h:M b with
  |some x=>
   obtain⟨k',o'⟩:=x;rw[h]at e;have:=I.heap _ _ _ h;cases k'<;>injection e with e<;>injection e with e1 e2<;>subst e2<;>refine⟨this,λi z=>?_⟩<;>subst z<;>cases m<;>cases ko<;>cases e1
   exact⟨rfl,rfl⟩
  |none=>
   rw[h]at e;dsimp only at e;split at e;cases e;cases q:s.heap.get? b with
   |none=>rw[q]at e;cases e
   |some o'=>rw[q]at e;cases e;exact⟨rfl,λi z=>nomatch z⟩
 refine⟨λb k o e=>(key b k o e).1,λb o e=>by unfold cal;rw[I.base b o e],λq hq=>?_,λb i o e=>(key b _ o e).2 i rfl⟩
 obtain⟨h1,ps,h2,h3,h4⟩:=I.tabs q hq;refine⟨by unfold cal;rw[h1];exact if_pos (.inr ⟨q,hq,rfl⟩),ps,h2,h3,λpos cv z=>?_⟩
 obtain⟨c,oc,vs,t,e1,e2,e3⟩:=h4 pos cv z;exact⟨c,oc,vs,t,e1,by unfold cal;rw[e2],e3⟩
theorem Inv.calS (I:Inv X M δ s) (e:cal m ko M h ex sysModules=U (k,o)):k=.p:=by
 unfold cal at e;cases q:M sysModules with
 |some x=>obtain⟨k',o'⟩:=x;obtain rfl:=I.sys _ _ q;rw[q]at e;cases e;rfl
 |none=>
  rw[q]at e;dsimp only at e;split at e;cases e;cases w:h.get? sysModules with
  |none=>rw[w]at e;cases e
  |some o'=>rw[w]at e;cases e;rfl
set_option tactic.hygienic true in
theorem Inv.bas (I:Inv X M δ s):Bas (cal m Y M s.heap []) s:=by
 obtain⟨h1,h2,h3,h4⟩:=I.calI (m:=m) (ko:=Y) (ex:=[]) λ_ z=>nomatch z
 refine⟨I.og,h1,h2,h3,λb i o e=>KS (h4 b i o e).1,λb o e=>?_,λ_ _ e=>I.calS e⟩
 unfold cal;cases h:M b with
 |some x=>obtain⟨k',o'⟩:=x;cases k'<;>exact .inl (by simp)
 |none=>
  dsimp only;split
  ·rename_i z;rcases z with z|z;cases z;exact .inr z
  ·rw[e];exact .inl (by simp)
theorem sM {Q:IA->IB->Prop}{k:Nat}(F:FnM k x f) (hr:Room k X.A) (g:Gb X x) (ha:DA X m (a::es) fs) (I:Inv X M δ s) (e1:fs δ=U ds) (e2:f ds=U (r,fr))
  (kk:∀v s' M',Ext M M'->Inv X M' δ s'->(fr=Y->R m M' r v)->(fr=V->∃c o,v=.ref c/\Free X M' c/\s'.heap.get? c=U o/\Cm m M' r o)->Q v s'):WP X (eval (.Call (.Name x p) (a::es) [] pos) X.env) Q s:=by
 obtain⟨q,h1,h2,h3⟩:=F.ex;have h:=ha.pl;rw[JC,II]at h;refine Kg (OM I.ok.kind g.g (Calls.loadGlobal_global (by rw[I.ok.glob];exact I.ok.mod.glob.keeps I.bk) h1 ?_) g.d)
 refine PySem.W.callWith_K (h₀:=base) I.ok.mod.kin h2 (ha.ev I e1 (λvs s1 M1 x1 I1 rs=>⟨I1.kIn,wpAny_call (OH (h3 hr I.ok.mod I1.bas (rs.to oV) e2) λres s' hz=>?_)⟩) pos) (bB h.1) (lF h.2)
 obtain⟨v,X',M2,δ2,rfl,x2,J,rt⟩:=hz;obtain⟨I2,sb⟩:=I1.ret (ex:=[]) J (λ_ z=>nomatch z) (λ_ z=>nomatch z) x2 (λa i o z=>absurd z (I1.bas.own a i o))
 refine kk v s' _ (x1.trans th) I2 (λz=>?_) λz=>?_
 ·subst z;exact R.to sb rt
 ·subst z
  obtain⟨c,o,rfl,hc,cc,z⟩:=rt;have new:s1.heap.get? c=B:=by
   cases w:s1.heap.get? c with
   |none=>rfl
   |some o'=>
    exfalso;have PZ:=I1.bas (m:=m)
    rcases PZ.full c o' w with z1|⟨t,z1,z2⟩
    ·cases q:cal m Y M1 s1.heap [] c with
     |none=>exact z1 q
     |some y=>
      obtain⟨k',o2⟩:=y;have:M2 c=U (k',o2):=by
       cases k' with
       |f=>exact rdf.mp (x2.f _ _ (rdf.mpr q))
       |p=>exact x2.p _ _ q
       |o i=>exact absurd q (PZ.own _ _ _)
      rcases z with z|⟨i,z⟩
      ·rw[z.m]at this;cases this
      ·rw[z]at this;cases this;exact PZ.own _ _ _ q
    ·rcases z with z|⟨i,z⟩
     ·exact z.t t z1 z2
     ·have:=(J.tabs t z1).1;rw[<-z2,z]at this;cases this
  have no:M1 c=B:=by
   cases w:M1 c with
   |none=>rfl
   |some y=>have:=I1.heap _ _ _ w;rw[new]at this;cases this
  refine⟨c,o,rfl,⟨?_,?_,λy z1=>?_,λt z1 z2=>?_,λz1=>z.elim (λf=>f.s z1) λ⟨i,w⟩=>by rw[z1]at w;exact nomatch J.sys _ _ w⟩,hc,cc.to sb⟩
  ·unfold bak;rw[no];dsimp only;rw[if_neg (by simp[new])]
   rcases z with z|⟨i,z⟩
   ·rw[z.m]
   ·rw[z]
  ·rintro rfl;obtain⟨_,⟨o,_,_,z1,_⟩,_⟩:=I1.loc;rw[new]at z1;cases z1
  ·obtain⟨⟨_,o,z2,_⟩,_⟩:=I1.cell y c z1;rw[new]at z2;cases z2
  ·obtain⟨_,ps,z3,_⟩:=I1.tabs t z1;rw[<-z2,new]at z3;cases z3
theorem Ak {k:Nat}(F:FnM k x f) (hr:Room k X.A) (g:Gb X x) (ha:DA X m (a::es) fs):DE X m (.Call (.Name x p) (a::es) [] pos) (λδ=>shO (ae (fs δ) f)):=⟨rfl,λ{M δ s d Q} I e k=>by
 cases q:ae (fs δ) f with
 |none=>simp[shO,q]at e
 |some y=>
  obtain⟨d',fr⟩:=y;simp only[shO,q]at e;cases e;obtain⟨ds,e1,e2⟩:=ag q;refine sM F hr g ha I e1 e2 λv s1 M1 x1 I1 h1 h2=>?_
  cases fr with
  |false=>exact k _ _ _ x1 I1 (h1 rfl)
  |true=>
   obtain⟨c,o,rfl,f,z,cc⟩:=h2 rfl;exact k _ _ _ (x1.trans (fF f.m)) (I1.put f z) (cc.rep (eP f.m) ⟨.f,aq,rfl⟩)⟩
theorem BD {k:Nat}(F:FnM k x f) (hr:Room k X.A) (g:Gb X x) (ha:DA X Y (a::es) fs):DF X (.Call (.Name x p) (a::es) [] pos) (λδ=>frO (ae (fs δ) f)):=⟨rfl,λ{M δ s d Q} I e k=>by
 cases q:ae (fs δ) f with
 |none=>simp[frO,q]at e
 |some y=>
  obtain⟨d',fr⟩:=y;obtain⟨ds,e1,e2⟩:=ag q;obtain⟨rfl,rfl⟩:fr=V/\d'=d:=by cases d'<;>cases fr<;>simp_all [frO]
  refine sM F hr g ha I e1 e2 λv s1 M1 x1 I1 h1 h2=>?_
  obtain⟨c,o,rfl,f,z,cc⟩:=h2 rfl;exact k _ _ _ _ x1 I1 f z cc⟩
set_option tactic.hygienic true in
theorem yW {k:Nat}(F:FnM k x f) (hr:Room k X.A) (g:Gb X x) (ha:DA X V (a::es) fs):DF X (.Call (.Name x p) (a::es) [] pos) (λδ=>flO (ae (fs δ) f)):=⟨rfl,λ{M δ s d Q} I e k=>by
 unfold flO at e;split at e<;>try cases e
 split at e<;>cases e
 rename_i q fl;obtain⟨ds,e1,e2⟩:=ag q;refine sM F hr g ha I e1 e2 λv s1 M1 x1 I1 h1 h2=>?_
 obtain⟨c,o,rfl,f,z,vs,h3,h4⟩:=h2 rfl;exact k _ _ _ _ x1 I1 f z ⟨vs,h3,Rs.flat I1.own fl h4⟩⟩
end
structure FnScope (N P:List IX) (sc:Lh):Prop where
 kind:sc.kind=.function
 co:sc.isCoroutine=Y
 gen:sc.isGenerator=Y
 nd:N.Nodup
 pre:N.take P.length=P
 par:∀x∈P,sc.names.lookup x=U .local\/sc.names.lookup x=U .cell
 nofree:∀y∈sc.names,y.2≠.free
theorem pG {kindOf:IX->Option L3}{x:IX}:∀{binds:List (IX×IA)}{m:IX->Option IA},(∀v,(x,v)∉binds)->bindL kindOf binds m x=m x
 |[],_,_=>rfl
 |(n,v)::r,m,h=>by
  unfold bindL;rw[pG λw hw=>h w (IK _ hw)]
  split
  ·grind
  ·rfl
theorem qw {kindOf:IX->Option L3}{x:IX}:∀{binds:List (IX×IA)}{m:IX->Option IA},(∀v,(x,v)∉binds)->bindC kindOf binds m x=m x
 |[],_,_=>rfl
 |(n,v)::r,m,h=>by
  unfold bindC;rw[qw λw hw=>h w (IK _ hw)]
  split
  ·rfl
  grind
theorem tV {kindOf:IX->Option L3}{x:IX}{v:IA}:∀{P:List IX}{vs:List IA}{i:Nat}{m:IX->Option IA},P.Nodup->P[i]?=U x->vs[i]?=U v->(kindOf x=U .local->bindL kindOf (P.zip vs) m x=U v)/\(kindOf x≠U .local->bindC kindOf (P.zip vs) m x=U v)
 |[],_,_,_,_,h,_=>by simp at h
 |_::_,[],_,_,_,_,h=>by simp at h
 |p::P,w::vs,0,m,nd,h1,h2=>by
  simp at h1 h2;subst h1;subst h2;have no:∀v,(p,v)∉P.zip vs:=λv hv=>(List.nodup_cons.mp nd).1 (Ox hv).1
  constructor<;>intro hk
  ·show bindL kindOf ((p,w)::P.zip vs) m p=_
   unfold bindL;rw[pG no,if_pos hk];simp
  ·show bindC kindOf ((p,w)::P.zip vs) m p=_
   unfold bindC;rw[qw no,if_neg hk];simp
 |p::P,w::vs,i+1,m,nd,h1,h2=>by
  have ih:=λm=>tV (i:=i) (m:=m) (kindOf:=kindOf) (List.nodup_cons.mp nd).2 (by simpa using h1) (by simpa using h2)
  exact⟨λhk=>(ih _).1 hk,λhk=>(ih _).2 hk⟩
noncomputable abbrev cxF (N:List IX) (qual:IX) (scope:Lh) (f:IZ) (cd:IA) (A:Jj) (L:IZ):Cx:={A:=A.deeper (envOfC qual scope L f cd),N:=N,env:=envOfC qual scope L f cd,fn:=V}
theorem vN {i:Nat}(h:(cz n ds)[i]?=U (U (d,b))):b=Y/\ds[i]?=U d:=by
 unfold cz at h
 by_cases hi:i<ds.length
 ·rw[La (by simpa using hi),Ja]at h
  cases q:ds[i]?<;>simp_all
 ·rw[MJ (by simpa using hi),List.getElem?_replicate]at h
  split at h<;>cases h
theorem qh {N ps:List IX}{qual:IX}{scope:Lh}{f:IZ}{cd:IA}{A:Jj}{s s1:IB}{us:List IA}{M:Mp}(S:FnScope N ps scope) (hr:Room 0 (A.deeper (envOfC qual scope s.heap.objs.size f cd))) (mo:Mod) (PZ:Bas M s) (hl:ds.length=ps.length) (r:Rs Y M ds us)
  (x:InCallC s s.heap.objs.size (bindL (envOfC qual scope s.heap.objs.size f cd).kindOf (ps.zip us) λ_=>B) (cellsFrom (s.heap.objs.size+1) scope.names []) (bindC (envOfC qual scope s.heap.objs.size f cd).kindOf (ps.zip us) λ_=>B) s1):
  Inv (cxF N qual scope f cd A s.heap.objs.size) M (cz N.length ds) s1:=by
 have hpl:ps.length<=N.length:=by have:=congrArg Kk S.pre;rw[LV]at this;lia
 obtain⟨h1,tk,rfl,hk⟩:=x.done;have no:∀{c},s.heap.objs.size<=c->M c=B:=λ{c} h=>by
  cases q:M c with
  |none=>rfl
  |some y=>exact absurd (IJ (PZ.heap _ _ _ q)) (Nat.not_lt.mpr h)
 have has:∀{n:Nat}{x:IX},scope.names.lookup x=U .cell->∃c,(cellsFrom n scope.names []).lookup x=U c:=λ{n x} h=>Option.isSome_iff_exists.mp (MU scope.names n [] (.inl h))
 refine⟨⟨mo,S.kind,rfl,rfl,λy z c h1 h2=>name_of_addr x.apart (Kw h1) (Kw h2),λy hy=>?_,hr⟩,PZ.og,λb k o e=>hk _ _ (PZ.heap _ _ _ e),PZ.base,⟨_,x.toInCall.ns,λi y d b h1 h2 h3=>?_⟩,no (IM _),λy c h=>⟨⟨_,x.cell y c h⟩,.inl (no (Np (x.above y c (Kw h))))⟩,PZ.tabs.to (λ_ _ h=>h) (λq h=>(PZ.tabs q h).1) λq _ o e=>hk _ _ e,λb i o e=>absurd e (PZ.own _ _ _),λb c i o o' e=>absurd e (PZ.own _ _ _),?_,PZ.sys⟩
 ·rcases hy with hy|hy
  ·exact has hy
  ·exact absurd rfl (S.nofree _ (Kw hy))
 ·obtain⟨rfl,hd⟩:=vN h2
  obtain⟨u,hu,rv⟩:=r.get hd;have hi:=(List.getElem?_eq_some_iff.mp hd).1
  have hp:ps[i]?=U y:=by rw[<-S.pre,O9 (by lia)];exact h1
  have ndP:ps.Nodup:=by rw[<-S.pre];exact S.nd.sublist (List.take_sublist _ _)
  obtain⟨g1,g2⟩:=tV (kindOf:=(envOfC qual scope s.heap.objs.size f cd).kindOf) (m:=λ_=>B) ndP hp hu
  refine⟨u,?_,rv⟩
  rcases S.par y (Jq hp)with k|k
  ·exact .inl ⟨k,g1 k⟩
  ·obtain⟨c,e⟩:=has (n:=s.heap.objs.size+1) k
   refine .inr ⟨.inl k,c,e,?_⟩
   have q:=x.cell y c e;rw[g2 (by show scope.names.lookup y≠_;rw[k];simp)]at q
   exact q
 ·unfold cz;show _=N.length;simp;lia
structure Fun (K:PySem.W.Frag) (x qual:IX) (st:J6) (f:IZ) (fd:PM):Prop where
 ex:∃(oc:IA) (od:Option IZ) (kV doc pm:IA) (an:Option IZ) (cdv ct:IA) (osl:Array (Option IA)),
  fd=PySem.W.fnOf x qual (defArgs st) (defBody st) (defScope st) .none kV doc pm an cdv ct/\K.lookup f=U ⟨oc,od,.func fd,osl⟩/\PySem.W.codeIn K cdv qual=V
 kp:PySem.W.keepIn K (.ref f)=V
set_option tactic.hygienic true in
theorem CA {x qual:IX}{st:J6}{f:IZ}{fd:PM}{N ps:List IX}{k:Nat}{g:DEnv->Option Out}(F:Fun K x qual st f fd) (S:FnScope N ps (defScope st)) (hb:Gd fd ps) (hm:mg x=U (.ref f))
  (body:∀(A:Jj) (L:IZ),Room k (A.deeper (envOfC qual (defScope st) L f fd.code))->DSs (cxF N qual (defScope st) f fd.code A L) (defBody st) g):FnM (k+1) x (bv N.length ps.length g):=by
 refine⟨f,hm,F.kp,λ{A s M us ds r fr} hr mo PZ rs e=>?_⟩
 obtain⟨oc,od,kV,doc,pm,an,cdv,ct,osl,rfl,lk,hcd⟩:=F.ex;unfold bv at e;split at e<;>try cases e
 rename_i hl;have bk:∀b o,base.get? b=U o->s.heap.get? b=U o:=λb o e=>PZ.heap _ _ _ (PZ.base b o e)
 have KX:=mo.kin.keeps bk;have hkind:∀y∈ps.zip us,(defScope st).names.lookup y.1=U .local\/((defScope st).names.lookup y.1=U .cell/\((cellsFrom (s.heap.objs.size+1) (defScope st).names []).lookup y.1).isSome=V):=λ⟨n,v⟩ hy=>by
  rcases S.par n (Ox hy).1 with q|q
  ·exact .inl q
  ·exact .inr ⟨q,MU _ _ _ (.inl q)⟩
 refine codeAny_call_function (by have:=hr.dp;lia) (KX _ _ lk) rfl S.co S.gen rfl (PySem.W.codeRec_of KX hcd) (hb s us (by rw[<-rs.length,hl]) _ _ _ _ ?_)
 refine Pw S.kind hkind λenv he s1 x=>?_
 subst he;refine⟨(mo.nolimit.keeps bk).keeps x.toInCall.keep,codeAny_func ?_⟩
 have I:=qh (N:=N) (cd:=cdv) (A:=A) S ((hr.deeper _).mono (Jf _)) mo PZ hl rs x;cases qo:g (cz N.length ds)with
 |none=>rw[qo]at e;cases e
 |some o=>
  rw[qo]at e;refine KP (body A s.heap.objs.size (hr.deeper _) I qo ?_:WP _ _ (λfl s'=>_) _) (λfl s' hs=>hs) λ_ _ z=>z.elim
  cases o with
  |ret d fr'=>cases e;exact λv s' M' δ' x1 I1 rt=>⟨v,_,M',δ',rfl,x1,I1,rt⟩
  |next δ'=>cases e;exact λs' M' x1 I1=>⟨.none,_,M',δ',rfl,x1,I1,rfl⟩
  |brk δ'=>cases e
  |cont δ'=>cases e
end L2
namespace L2
open PySem PySem.Spec PyProof.Rows Md
variable[Md]
noncomputable abbrev cxC (X:Cx) (scope:Lh) (cl:List (IX×IZ)) (C:IZ):Cx:={A:=X.A,N:=X.N,env:=compEnvC scope cl C X.env,fn:=Y}
noncomputable def DTs (X:Cx) (ifs:List Expr) (f:DEnv->Option Bool):Prop:=∀{M δ s c} {Q:Bool->IB->Prop},Inv X M δ s->f δ=U c->(∀s' M',Ext M M'->Inv X M' δ s'->Q c s')->
 WP X (forIn ifs V λc r=>if r=V then do let ok <-isTrue c X.env (eval c X.env);pure (KU ok) else pure (KU r)) Q s
theorem CR {X:Cx}:DTs X [] (λ_=>U V):=λI e k=>by cases e;exact wpAny_tests_nil (k _ _ Ext.refl I)
theorem D9 {X:Cx}{c:Expr}(h:DT X c f):DTs X [c] f:=λI e k=>wpAny_tests_one (h I e k)
noncomputable def cF (env:Env):List (IX×L3)->List (IX×IZ)->List (IX×IZ)
 |[],acc=>acc
 |(n,k)::r,acc=>if(k==MH)=V then cF env r ((n,(env.cells.lookup n).getD 0)::acc) else cF env r acc
theorem oY (env:Env):∀(names:List (IX×L3)) (acc:List (IX×IZ)),(∀y∈names,y.2=.free->∃c,env.cells.lookup y.1=U c)->
  (forIn names acc (λ(x:IX×L3) (cs:List (IX×IZ))=>(match x with
   |(name,kind)=>if(kind==.free)=V then(do let c <-cellOf env name;pure (KU ((name,c)::cs))) else pure (KU cs):Op (ForInStep (List (IX×IZ))))))=pure (cF env names acc)
 |[],acc,_=>rfl
 |(n,k)::r,acc,h=>by
  have hr:=λy hy=>h y (IK _ hy)
  rw[List.forIn_cons];unfold cF;cases hk:k==MH with
  |true=>
   obtain⟨c,e⟩:=h (n,k) IN (eq_of_beq hk);have ec:cellOf env n=pure c:=by unfold cellOf;rw[e]
   simp only[if_true,ec,pure_bind,hk,e,N0];exact oY env r _ hr
  |false=>
   simp only[IT,if_false,pure_bind,hk];exact oY env r acc hr
set_option tactic.hygienic true in
theorem fR (env:Env):∀(names:List (IX×L3)) (acc:List (IX×IZ)),(∀y∈names,y.2=.free->∃c,env.cells.lookup y.1=U c)->
  (∀x c,acc.lookup x=U c->env.cells.lookup x=U c)->∀x c,(cF env names acc).lookup x=U c->env.cells.lookup x=U c
 |[],acc,_,ha=>ha
 |(n,k)::r,acc,h,ha=>by
  have hr:=λy hy=>h y (IK _ hy)
  unfold cF;split
  ·rename_i hk
   obtain⟨c,e⟩:=h (n,k) IN (eq_of_beq hk);refine fR env r _ hr λx d hx=>?_
   rw[Om]at hx;cases q:x==n with
   |true=>simp_all
   |false=>rw[q]at hx;exact ha x d hx
  ·exact fR env r acc hr ha
theorem g9 (env:Env) (x:IX):∀(names:List (IX×L3)) (acc:List (IX×IZ)),((x,MH)∈names\/∃c,acc.lookup x=U c)->∃c,(cF env names acc).lookup x=U c
 |[],acc,h=>h.elim (λz=>nomatch z) id
 |(n,k)::r,acc,h=>by
  unfold cF;split
  ·refine g9 env x r _ ?_
   by_cases q:(x==n)=V
   ·simp_all
   ·rcases h with h|⟨c,h⟩
    ·simp_all
    ·exact .inr ⟨c,by rw[Om];simp[q,h]⟩
  ·refine g9 env x r _ ?_
   grind
theorem iB {scope:Lh}{env:Env}(h:∀y∈scope.names,y.2=.free->∃c,env.cells.lookup y.1=U c):closureFor scope env=pure (cF env scope.names []):=by
 have q:closureFor scope env=((forIn scope.names [] (λ(x:IX×L3) (cs:List (IX×IZ))=>(match x with
   |(name,kind)=>if(kind==.free)=V then(do let c <-cellOf env name;pure (KU ((name,c)::cs))) else pure (KU cs):Op (ForInStep (List (IX×IZ)))))) >>= λcs=>pure cs):=rfl
 rw[q,oY env scope.names [] h,pure_bind]
theorem bQ {env:Env}:∀{names:List (IX×L3)}{x:IX}{k:L3},
  (names.map λ(n,k)=>if(k==MH&&env.scope.kind==.function&&env.kindOf n==U .cell) then(n,NameKind.cell) else(n,k)).lookup x=U k->
  names.lookup x=U k\/(names.lookup x=U .free/\k=.cell)
 |[],_,_,h=>by simp at h
 |(n,k')::r,x,k,h=>by
  have ih:=@bQ env r x k
  grind
structure CompScope (X:Cx) (scope:Lh) (bs:List Bool):Prop where
 kind:scope.kind=.function
 cell:∀y∈scope.names,y.2≠.cell
 loc:∀y∈scope.names,y.2=.local->scope.names.lookup y.1=U .local
 fre:∀y∈scope.names,y.2=.free->scope.names.lookup y.1=U .free/\(X.env.kindOf y.1=U .cell\/X.env.kindOf y.1=U .free)
 len:bs.length=X.N.length
 vis:∀(i:Nat) (x:IX),X.N[i]?=U x->bs[i]?=U V->scope.names.lookup x=U .free
set_option tactic.hygienic true in
theorem yy {bo:Bool}{bs:List Bool}{δ:DEnv}{i:Nat}{d:D}{ow:Bool}(h:(aG bo bs δ)[i]?=U (U (d,ow))):bs[i]?=U V/\ow=Y/\∃b,δ[i]?=U (U (d,b))/\(b=V->bo=V):=by
 unfold aG at h;rw[PK]at h
 cases e1:bs[i]? with
 |none=>simp[e1]at h
 |some b=>
  cases e2:δ[i]? with
  |none=>simp[e1,e2]at h
  |some o=>
   cases b<;>cases o<;>simp[e1,e2]at h
   rename_i y;obtain⟨d',b'⟩:=y;obtain⟨h1,rfl,rfl⟩:=h;exact⟨rfl,rfl,b',rfl,h1⟩
section
variable{X:Cx}{M M' M1:Mp}{δ:DEnv}{s s':IB}{scope:Lh}{bs:List Bool}{bo:Bool}{fp:List IZ}{elt tg iter:Expr}{ifs:List Expr}{pos:Ov}{fi:DEnv->Option (List D)}{τ:D->DEnv->Option DEnv}{ft:DEnv->Option Bool}{fe:DEnv->Option D}
theorem CompScope.has (S:CompScope X scope bs) (I:Inv X M δ s):∀y∈scope.names,y.2=.free->∃c,X.env.cells.lookup y.1=U c:=λy hy e=>I.ok.has y.1 (S.fre y hy e).2
theorem zL {m:IX->Option IA}{C:IZ}(S:CompScope X scope bs) (I:Inv X M δ s) (hf:∀b∈fp,Free X M b) (hC:s.heap.objs.size<=C) (hns:s'.heap.Ns C m) (hk:∀b o,s.heap.get? b=U o->s'.heap.get? b=U o) (hg:s'.os=s.os/\s'.gens=s.gens):
  Inv (cxC X scope (cF X.env scope.names []) C) (cal bo V M s.heap fp) (aG bo bs δ) s':=by
 have hh:=S.has I;have cons:=fR X.env scope.names [] hh (λx c e=>by simp at e)
 obtain⟨k1,k2,k3,k4⟩:=I.calI (m:=bo) (ko:=V) hf;obtain⟨m0,hn0,hl⟩:=I.loc;refine⟨⟨I.ok.mod,S.kind,I.ok.glob,I.ok.blt,λx y c h1 h2=>I.ok.inj x y c (cons x c h1) (cons y c h2),λx hx=>?_,I.ok.room⟩,⟨hg.1.trans I.og.1,hg.2.trans I.og.2⟩,λa k o e=>hk _ _ (k1 _ _ _ e),k2,⟨m,hns,λi x d b h1 h2 h3=>?_⟩,?_,λx c e=>?_,k3.to (λ_ _ h=>h) (λq h=>(k3 q h).1) λq _ o e=>hk _ _ e,λa i o e=>I.own a i o (k4 _ _ _ e).2,λa b i o o' e e'=>I.uni a b i o o' (k4 _ _ _ e).2 (k4 _ _ _ e').2,?_,λ_ _ e=>I.calS e⟩
 ·have key:(x,MH)∈scope.names:=by
   rcases hx with q|q
   ·rcases bQ q with q|⟨q,_⟩
    ·exact absurd rfl (S.cell _ (Kw q))
    ·exact Kw q
   ·rcases bQ q with q|⟨_,q⟩
    ·exact Kw q
    ·cases q
  exact g9 X.env x scope.names [] (.inl key)
 ·obtain⟨hb,rfl,o,ho,hbo⟩:=yy h2
  have hfr:=S.vis i x h1 hb;obtain⟨_,hkd⟩:=S.fre _ (Kw hfr) rfl;obtain⟨u,lk,va⟩:=hl i x d o h1 ho (hkd.elim (λz=>.inr (.inl z)) λz=>.inr (.inr z))
  refine⟨u,.inr ⟨?_,?_⟩,(va.rep hbo).to oV⟩
  ·rcases h3 with q|q|q
   ·rcases bQ (show(relabel scope X.env).names.lookup x=U .local from q)with q|⟨_,q⟩
    ·rw[hfr]at q;cases q
    ·cases q
   ·exact .inl q
   ·exact .inr q
  ·rcases lk with⟨kl,_⟩|⟨_,c,ec,oc,q1,q2⟩
   ·rcases hkd with z|z<;>rw[kl]at z<;>cases z
   ·obtain⟨c',e'⟩:=g9 X.env x scope.names [] (.inl (Kw hfr))
    have:=cons x c' e';rw[ec]at this;cases this;exact⟨c,e',oc,hk c oc q1,q2⟩
 ·have f:=I.fresh hC
  show cal bo V M s.heap fp C=B;unfold cal;rw[f.m];dsimp only;split
  ·rfl
  ·rw[NB hC];rfl
 ·have ce:=cons x c e
  obtain⟨⟨v,o,q1,q2⟩,z⟩:=I.cell x c ce;refine⟨⟨v,o,hk _ _ q1,q2⟩,.inr ⟨rfl,?_⟩⟩
  rcases z with z|⟨_,o',z⟩
  ·refine⟨o,?_⟩
   unfold cal;rw[z];dsimp only;rw[if_neg,q1];rfl
   rintro(w|⟨q,w1,w2⟩)
   ·exact(hf c w).c x ce
   ·obtain⟨_,ps,w3,_⟩:=I.tabs q w1
    rw[<-w2,q1]at w3;cases w3;cases q2
  ·exact⟨o',by unfold cal;rw[z]⟩
 ·unfold aG;rw[List.length_zipWith,S.len,I.len,Nat.min_self]
noncomputable def Ej (τ:D->DEnv->Option DEnv):Prop:=∀d d' δ δ',τ d δ=U δ'->τ d' δ'=τ d' δ
theorem xZ (i:Nat):Ej (af i):=λd d' δ δ' h=>by obtain rfl:=dO h;unfold af;simp
set_option tactic.hygienic true in
theorem yb (i j:Nat) (hij:i≠j):Ej (aL (ah (af i) (ah (af j) toNil))):=λd d' δ δ' h=>by
 cases d<;>try cases h
 rename_i ds
 match ds,h with
 |[a,b],h=>
  obtain⟨δ1,h1,h⟩:=ag h;obtain⟨δ2,h2,h⟩:=ag h;cases h;obtain rfl:=dO h1;obtain rfl:=dO h2;cases d'<;>try rfl
  rename_i es
  match es with
  |[]=>rfl
  |[c]=>simp only[aL,ah,af,KM];split<;>rfl
  |c::e::es=>
   have e3:(((List.set δ i (U (a,Y))).set j (U (b,Y))).set i (U (c,Y))).set j (U (e,Y))=(List.set δ i (U (c,Y))).set j (U (e,Y)):=by
    rw[NO _ _ hij.symm,MB,MB]
   simp only[aL,ah,af,KM]
   by_cases qi:i<Kk δ
   ·rw[if_pos qi,if_pos qi]
    simp only[ae,ah,af,KM]
    by_cases qj:j<Kk δ
    ·rw[if_pos qj,if_pos qj,e3]
    ·rw[if_neg qj,if_neg qj]
   ·rw[if_neg qi,if_neg qi]
 |[],h=>cases h
 |[a],h=>obtain⟨_,_,h⟩:=ag h;cases h
 |a::b::c::ds,h=>obtain⟨_,_,h⟩:=ag h;obtain⟨_,_,h⟩:=ag h;cases h
theorem r7 {R:NI->IB->Prop}{it acc:IA}{env:Env}{A:Jj}(I:Nat->IB->Prop)
  (turn:∀n s,I n s->wpAny (model P w) A (pyNext it) (λr s₁=>match r with
   |none=>R (.ok .next) s₁
   |some v=>wpAny (model P w) A (letOwnedTupleGo tg it v) (λ_ s₁=>wpAny (model P w) A (assign tg env v) (λ_ s₂=>
     wpAny (model P w) A (forIn ifs V λc r=>if r=V then do let ok <-isTrue c env (eval c env);pure (KU ok) else pure (KU r)) (λok s₃=>
      if ok=V then wpAny (model P w) A (eval elt env) (λx s₄=>
       wpAny (model P w) A (call (.builtin "list.append") [acc,x]) (λ_ s₅=>∃m,m<n/\I m s₅) (λ_ _=>False) s₄) (λ_ _=>False) s₃
      else ∃m,m<n/\I m s₃) (λ_ _=>False) s₂) (λ_ _=>False) s₁) (λ_ _=>False) s₁) (λ_ _=>False) s)
  (n:Nat) (h:I n s):
  codeAny (model P w) A (.compLoop (.ListComp elt [⟨tg,iter,ifs,0⟩] scope pos) 0 it acc env) R s:=by
 refine codeAny_loop rfl I (λn s hI=>?_) n h
 refine wpAny_noted ?_
 refine Ix (Oi (Ix (KP (turn n s hI) (λr s₁ h₁=>?_) λ_ _ h'=>h'.elim)))
 cases r with
 |none=>exact Iy h₁
 |some v=>
  refine Ix (KP h₁ (λ_ s₁' h₁'=>?_) λ_ _ h'=>h'.elim)
  refine Ix (KP h₁' (λ_ s₂ h₂=>Ix (KP h₂ (λok s₃ h₃=>?_) λ_ _ h'=>h'.elim)) λ_ _ h'=>h'.elim)
  cases ok with
  |false=>exact Iy ⟨rfl,h₃⟩
  |true=>
   exact Ix (Ix (KP h₃ (λx s₄ h₄=>Ix (KP h₄ (λ_ s₅ h₅=>Iy (Iy ⟨rfl,h₅⟩)) λ_ _ h'=>h'.elim)) λ_ _ h'=>h'.elim))
set_option tactic.hygienic true in
theorem Ext.unp (h:Ext (pin X M hp) M1):Ext M (L2.unp X M hp M1):=λa=>by
 unfold L2.unp;split
 ·rename_i z;exact .inl z.1.m.symm
 ·rename_i z
  have e:pin X M hp a=M a:=by
   unfold pin;split
   ·rename_i f
    cases q:hp.get? a with
    |none=>simp[f.m]
    |some o=>exact absurd ⟨f,by simp[q]⟩ z
   ·rfl
  rw[<-e];exact h a
set_option tactic.hygienic true in
theorem wT {RR:IA->IZ->NI->IB->Prop}{it:IZ}{tn:Nat->Kl->Prop}(hτ:Ej τ) (S:CompScope X scope bs) (hg:∀cl C,DG (cxC X scope cl C) tg τ) (ht:∀cl C,DTs (cxC X scope cl C) ifs ft) (he:∀cl C,DE (cxC X scope cl C) Y elt fe)
  (I:Inv X M δ s) (T:Turn2 X.A tg bm bo M ds fp it tn) (t0:tn 0 s.heap) (hf:∀b∈fp,Free X M b) (e2:bj bo bs τ ft fe δ ds=U ls)
  (k:∀acc C m s' M' vs,Ext M M'->Inv X M' δ s'->Free X M' acc->Free X M' C->s'.heap.Ns C m->acc≠C->(∃n,s'.heap.get? acc=U {cls:=.type "list",data:=.seq vs.toArray n})->vs.length<=lim->Rs bo M' ls vs->RR (.ref acc) C (.ok .next) s'):
  WP X (newList []) (λacc s₃=>WP X (newFunctionEnv scope X.env.globals (cF X.env scope.names []) [] X.env.qual B .none (U X.env)) (λcenv s₄=>
   codeAny (model P w) X.A (.compStart (.ListComp elt [⟨tg,iter,ifs,0⟩] scope pos) 0 (.ref it) acc {cenv with scope:=relabel scope X.env}) (RR acc cenv.locals) s₄) s₃) s:=by
 unfold bj at e2;split at e2<;>try cases e2
 rename_i hlim;refine JQ ?_
 have hz:({s with heap:=s.heap.push {cls:=.type "list",dict:=B,data:=.seq ([]:List IA).toArray}}:IB).heap.objs.size=s.heap.objs.size+1:=JG ..
 refine wpAny_newFunctionEnv S.cell (λy hy=>by simp at hy) (λh₁ hns₁ hsb₁=>?_) S.kind
 rw[hz]at hns₁ hsb₁⊢;have keep:∀b o,(s.heap.push {cls:=.type "list",dict:=B,data:=.seq ([]:List IA).toArray}).get? b=U o->h₁.get? b=U o:=λb o e=>(hsb₁.2 b (by have:=IJ e;rw[JG]at this;exact Ji this)).trans (Iz _ e)
 have hex:=T.ex t0;generalize hs5:({s with heap:=h₁,toks:=s.toks+([]:List (IX×IA)).length}:IB)=s5
 have h5:s5.heap=h₁:=by rw[<-hs5]
 have kp5:∀b o,s.heap.get? b=U o->s5.heap.get? b=U o:=λb o e=>by rw[h5];exact keep b o (Iz _ e)
 have I5:=zL (bo:=bo) (s':=s5) S I hf (LQ _) (by rw[h5];exact hns₁) kp5 (by rw[<-hs5];exact⟨rfl,rfl⟩)
 have hacc:s5.heap.get? s.heap.objs.size=U {cls:=.type "list",data:=.seq ([]:List IA).toArray}:=by rw[h5];exact keep _ _ (IF _ rfl)
 have fa:Free X M s.heap.objs.size:=I.fresh (IM _);have fC:Free X M (s.heap.objs.size+1):=I.fresh (LQ _);have lt:∀b∈fp,b<s.heap.objs.size:=λb hb=>by obtain⟨o,e⟩:=hex b hb;exact IJ e
 have cons:=fR X.env scope.names [] (S.has I) (λx c e=>by simp at e)
 have frC:∀{b},cal bo V M s.heap fp b=B->Free X M b->b≠s.heap.objs.size+1->Free (cxC X scope (cF X.env scope.names []) (s.heap.objs.size+1)) (cal bo V M s.heap fp) b:=λ{b} z f ne=>⟨z,ne,λx e=>f.c x (cons x _ e),f.t,f.s⟩
 have cn:cal bo V M s.heap fp s.heap.objs.size=B:=by
  unfold cal;rw[fa.m];dsimp only;split;rfl;rw[NB (IM _)];rfl
 have f0:∀b∈s.heap.objs.size::fp,Free (cxC X scope (cF X.env scope.names []) (s.heap.objs.size+1)) (cal bo V M s.heap fp) b:=λb hb=>by
  rcases List.mem_cons.mp hb with rfl|hb
  ·exact frC cn fa (Ji (Kj _))
  ·exact frC (by unfold cal;rw[(hf b hb).m];exact if_pos (.inl hb)) (hf b hb) (Ji (MR (lt b hb)))
 have loop:codeAny (model P w) X.A (.compLoop (.ListComp elt [⟨tg,iter,ifs,0⟩] scope pos) 0 (.ref it) (.ref s.heap.objs.size) (compEnvC scope (cF X.env scope.names []) (s.heap.objs.size+1) X.env)) (RR (.ref s.heap.objs.size) (s.heap.objs.size+1)) s5:=by
  refine r7 (λn s'=>∃i δ' M' vs l1 l2 e,n=ds.length - i/\i<=ds.length/\vs.length<=i/\Ext (cal bo V M s.heap fp) M'/\Inv (cxC X scope (cF X.env scope.names []) (s.heap.objs.size+1)) M' δ' s'/\tn i s'.heap/\(∀b∈s.heap.objs.size::fp,Free (cxC X scope (cF X.env scope.names []) (s.heap.objs.size+1)) M' b)/\
   (∀d,τ d δ'=τ d (aG bo bs δ))/\s'.heap.get? s.heap.objs.size=U {cls:=.type "list",data:=.seq vs.toArray e}/\Rs Y M' l1 vs/\ls=l1++l2/\aJ (au τ ft fe (aG bo bs δ)) (ds.drop i)=U l2) ?_ ds.length
   ⟨0,_,_,[],[],ls,_,rfl,Jf _,IM _,Ext.refl,I5,T.keep t0 λb _ o e=>kp5 b o e,f0,λ_=>rfl,hacc,rfl,rfl,e2⟩
  rintro n s6 ⟨i,δ6,M6,vs,l1,l2,ep,rfl,hi,hvs,x6,I6,t6,f6,hd6,ha6,rs6,hls,ec⟩
  have sb6:Sub bo M Y M6:=λa o q=>x6.sub _ _ (oV a o q)
  have rd6:∀a o,Rd bm M a o->s6.heap.get? a=U o:=λa o ⟨k,q,_⟩=>by
   obtain⟨k',w⟩:∃k',cal bo V M s.heap fp a=U (k',o):=by unfold cal;rw[q];cases k<;>exact⟨_,rfl⟩
   rcases x6 a with z|z
   ·exact I6.heap _ _ _ (z.trans w)
   ·rw[z.1]at w;cases w
  have f6':∀b∈fp,Free (cxC X scope (cF X.env scope.names []) (s.heap.objs.size+1)) M6 b:=λb hb=>f6 b (.tail _ hb)
  by_cases hlt:i<ds.length
  ·rw[Jr hlt]at ec
   simp only[aJ]at ec;refine thn (T.item t6 rd6 (d:=ds[i]) (by simp[hlt])) λr s7 hz=>?_
   obtain⟨u,rfl,h7⟩:=hz;refine thn h7 λ_ s8 hz=>?_
   obtain⟨c8,t8,g8⟩:=hz;have ne:s.heap.objs.size∉fp:=λz=>absurd (lt _ z) (JV _)
   obtain⟨M8,x8,I8,r8,f8'⟩:=I6.got sb6 g8 c8 f6';have ha8:=c8.2 _ _ ne ha6;have f8:∀b∈s.heap.objs.size::fp,Free (cxC X scope (cF X.env scope.names []) (s.heap.objs.size+1)) M8 b:=λb hb=>by
    rcases List.mem_cons.mp hb with rfl|z
    ·exact f8' _ _ (f6 _ hb) ha6
    ·obtain⟨o,e⟩:=T.ex t6 b z;exact f8' b o (f6 _ hb) e
   have fin:∀{δ9 M9 s9},Ext (pin (cxC X scope (cF X.env scope.names []) (s.heap.objs.size+1)) M8 s8.heap) M9->Inv (cxC X scope (cF X.env scope.names []) (s.heap.objs.size+1)) M9 δ9 s9->∃M7,Ext M8 M7/\Inv (cxC X scope (cF X.env scope.names []) (s.heap.objs.size+1)) M7 δ9 s9/\tn (i+1) s9.heap/\(∀b∈s.heap.objs.size::fp,Free (cxC X scope (cF X.env scope.names []) (s.heap.objs.size+1)) M7 b)/\
     s9.heap.get? s.heap.objs.size=U {cls:=.type "list",data:=.seq vs.toArray ep}/\Sub Y M9 Y M7:=λy J=>by
    obtain⟨h1,h2,h3,h4,h5,h6⟩:=I8.unp J y.sx;exact⟨_,y.unp,h1,T.keep t8 λb hb o e=>(h6 b o (f8 b (.tail _ hb)) e).1,λb hb=>by
     rcases List.mem_cons.mp hb with rfl|z
     ·exact(h6 _ _ (f8 _ hb) ha8).2
     ·obtain⟨o,e⟩:=T.ex t8 b z;exact(h6 b o (f8 b hb) e).2,(h6 _ _ (f8 _ (.head _)) ha8).1,h3⟩
   cases q:au τ ft fe (aG bo bs δ) ds[i]with
   |none=>rw[q]at ec;cases ec
   |some oy=>
    rw[q]at ec;obtain⟨δ1,q1,q2⟩:=ag q;have q1':τ ds[i] δ6=U δ1:=by rw[hd6];exact q1
    have hd1:∀d,τ d δ1=τ d (aG bo bs δ):=λd=>by rw[hτ _ d _ _ q1',hd6 d]
    refine hg _ _ I8.pin (r8.to lj) q1' λs9 I9=>?_
    split at q2
    ·rename_i qt
     refine ht _ _ I9 qt λs10 M10 x10 I10=>?_
     split at q2<;>cases q2
     rename_i y qe;dsimp only at ec;split at ec<;>cases ec
     rename_i l3 qc;refine(he _ _).ev I10 qe λv s11 M11 x11 I11 r11=>?_
     obtain⟨M7,y1,J,t7,f7,ha7,sb⟩:=fin (x10.trans x11) I11;have hl:lim<sizeLine:=by decide +kernel
     have g:=PD ha7 (λa=>a.push v)
     refine NH F.slot_list_append ⟨_,ha7,rfl⟩ F.entry_list_append (F.args_list_append_2 _ _) (PySem.list_append s.heap.objs.size vs.toArray ep v (by simp;lia)) ⟨ha7,ds.length - (i+1),by lia,i+1,δ1,M7,vs++[v],l1++[y],l3,_,rfl,hlt,by simp;lia,(x6.trans x8).trans y1,J.wr (s':={s11 with heap:=s11.heap.update s.heap.objs.size (Jc λa=>a.push v)}) [s.heap.objs.size] (λb hb=>f7 b (by simp_all)) (λb o hb e=>(IP _ _ (λz=>hb (by simp[z]))).trans e),T.keep t7 λb hb o e=>(IP _ _ (λz=>ne (by rw[z];exact hb))).trans e,f7,hd1,by simpa using g,((rs6.up x8).up y1).append (.one (r11.to sb)),by simp[hls],qc⟩
    ·rename_i qt
     cases q2;refine ht _ _ I9 qt λs10 M10 x10 I10=>?_
     obtain⟨M7,y1,J,t7,f7,ha7,sb⟩:=fin x10 I10;exact⟨ds.length - (i+1),by lia,i+1,δ1,M7,vs,l1,l2,ep,rfl,hlt,by lia,(x6.trans x8).trans y1,J,t7,f7,hd1,ha7,(rs6.up x8).up y1,hls,ec⟩
    ·cases q2
  ·obtain rfl:i=ds.length:=by lia
   rw[M0]at ec;cases ec;rw[Kb]at hls;subst hls;refine thn (T.done t6 rd6) λr s7 hz=>?_
   obtain⟨rfl,c7⟩:=hz;have J:=I6.ch c7 f6';obtain⟨I7,sb⟩:=I.ret (m:=bo) J hf (λb hb=>(f6' b hb).m) x6.sx (λa i o z=>(x6 a).elim (λw=>w.trans z) λw=>by rw[w.1]at z;cases z)
   have fr:∀c,s.heap.objs.size<=c->M6 c=B->Free X (bak M s.heap M6) c:=λc h z=>by
    have f:=I.fresh h;exact⟨by unfold bak;rw[f.m];dsimp only;rw[if_neg (by simp[NB h]),z],f.l,f.c,f.t,f.s⟩
   obtain⟨m',hn,_⟩:=J.loc;exact k _ _ m' s7 _ vs th I7 (fr _ (IM _) (f6 _ (.head _)).m) (fr _ (LQ _) J.free) hn (Ji (Kj _)) ⟨ep,c7.2 _ _ (λz=>absurd (lt _ z) (JV _)) ha6⟩ (by lia) (rs6.to sb)
 exact codeAny_compStart_list loop (T.self (T.keep t0 λb _ o e=>kp5 b o e) loop)
theorem mf {bm bo:Bool}(hτ:Ej τ) (hi:DI2 X bm bo tg iter fi) (S:CompScope X scope bs) (hg:∀cl C,DG (cxC X scope cl C) tg τ) (ht:∀cl C,DTs (cxC X scope cl C) ifs ft) (he:∀cl C,DE (cxC X scope cl C) Y elt fe) {Q:IA->IB->Prop}(I:Inv X M δ s) (e:ae (fi δ) (bj bo bs τ ft fe δ)=U ls) (fl:bo=V->D.flats ls=V) (k:PostF X M δ (.lst ls) Q):
  WP X (eval (.ListComp elt [⟨tg,iter,ifs,0⟩] scope pos) X.env) Q s:=by
 obtain⟨ds,e1,e2⟩:=ag e;refine wpAny_comprehension_free (use:=B) rfl (λx=>kK hi.pl) (iB (S.has I)) S.kind S.loc (hi.ev I e1 λit fp tn s1 M1 x1 I1 T t0 f1=>?_)
 refine wT (RR:=λacc C=>compPost (model P w) X.A (λ_ _=>False) B Q acc C) hτ S hg ht he I1 T t0 f1 e2 ?_
 intro acc C m s' M' vs x2 I2 fa fC hn ne ⟨n,ha⟩ hl rs;have rs':Rs Y M' ls vs:=by
  cases bo with
  |false=>exact rs
  |true=>exact Rs.flat I2.own (fl rfl) rs
 exact⟨m,hn,λh' hs=>k _ _ _ M' (x1.trans x2) (I2.wr (s':={s' with heap:=h'}) [C] (λb hb=>by rw[List.mem_singleton.mp hb];exact fC) λb o hb e=>(hs.2 b λz=>hb (by simp[z])).trans e) fa ((hs.2 acc ne).trans ha) ⟨vs,⟨aw hl,n,rfl⟩,rs'⟩⟩
theorem CS {bm:Bool}(hτ:Ej τ) (hi:DI2 X bm Y tg iter fi) (S:CompScope X scope bs) (hg:∀cl C,DG (cxC X scope cl C) tg τ) (ht:∀cl C,DTs (cxC X scope cl C) ifs ft) (he:∀cl C,DE (cxC X scope cl C) Y elt fe):
  DF X (.ListComp elt [⟨tg,iter,ifs,0⟩] scope pos) (λδ=>aj (ae (fi δ) (bj Y bs τ ft fe δ))):=⟨rfl,λ{M δ s d Q} I e k=>by
 cases q:ae (fi δ) (bj Y bs τ ft fe δ)with
 |none=>simp[q,aj]at e
 |some ls=>simp only[q,aj]at e;cases e;exact mf hτ hi S hg ht he I q (λz=>nomatch z) k⟩
theorem Al (hτ:Ej τ) (hi:DI X V tg iter fi) (S:CompScope X scope bs) (hg:∀cl C,DG (cxC X scope cl C) tg τ) (ht:∀cl C,DTs (cxC X scope cl C) ifs ft) (he:∀cl C,DE (cxC X scope cl C) Y elt fe):
  DF X (.ListComp elt [⟨tg,iter,ifs,0⟩] scope pos) (λδ=>aj (mh (ae (fi δ) (bj V bs τ ft fe δ)))):=⟨rfl,λ{M δ s d Q} I e k=>by
 cases q:ae (fi δ) (bj V bs τ ft fe δ)with
 |none=>simp[q,aj,mh]at e
 |some ls=>
  simp only[q,aj,mh]at e
  by_cases fl:D.flats ls=V
  ·rw[if_pos fl]at e;cases e;exact mf hτ hi S hg ht he I q (λ_=>fl) k
  ·rw[if_neg fl]at e;cases e⟩
theorem Br {y:IX}{py spos:Ov}{bm:Bool}(hx:Lc X i y) (hτ:Ej τ) (hi:DI2 X bm Y tg iter fi) (S:CompScope X scope bs) (hg:∀cl C,DG (cxC X scope cl C) tg τ) (ht:∀cl C,DTs (cxC X scope cl C) ifs ft) (he:∀cl C,DE (cxC X scope cl C) Y elt fe)
  (hsw:swapsWith (.ListComp elt [⟨tg,iter,ifs,0⟩] scope pos) (U (.Name y py)) spos.line X.env=pure V):DS X (.Assign [.Name y py] (.ListComp elt [⟨tg,iter,ifs,0⟩] scope pos) spos) (λδ=>eC i (aj (ae (fi δ) (bj Y bs τ ft fe δ))) δ):=λ{M δ s o Q} I e k=>by
 obtain⟨d,ed,rfl⟩:=pF e;cases q:ae (fi δ) (bj Y bs τ ft fe δ)with
 |none=>simp[q,aj]at ed
 |some ls=>
  simp only[q,aj]at ed;cases ed;obtain⟨ds,e1,e2⟩:=ag q;rw[exec_Assign_Name_used _ _ _ _ hsw];refine Ix (Oi (Ix ?_))
  refine Ix (KP (wpAny_comprehension_free (use:=U (assign (.Name y py) X.env)) (Q:=λ_ s'=>Q .next s') rfl (λx=>kK hi.pl) (iB (S.has I)) S.kind S.loc
   (hi.ev I e1 λit fp tn s1 M1 x1 I1 T t0 f1=>?_)) (λ_ s' hq=>Iy (Iy hq)) λ_ _ e=>e)
  refine wT (RR:=λacc C=>compPost (model P w) X.A (λ_ _=>False) (U (assign (.Name y py) X.env)) (λ_ s'=>Q .next s') acc C) hτ S hg ht he I1 T t0 f1 e2 ?_
  intro acc C m s' M' vs x2 I2 fa fC hn ne ⟨n,ha⟩ hl rs;refine OE (I2.setOwn fa ha (d:=.lst ls) ⟨vs,⟨aw hl,n,rfl⟩,rs⟩ hx λs3 M3 c I3 h1 h2 h3 h4 h5=>?_)
  have hC:C≠c:=by
   rcases h4 with rfl|h4
   ·exact fC.l
   ·rintro rfl;exact fC.c y h4
  exact⟨m,hn.sameBut h3 hC,λh' hs=>k _ M3 ((x1.trans x2).sx.trans ⟨h1,λa o q=>(h2 a o).mp q,λa o q=>(h2 a o).mpr q⟩) (I3.wr (s':={s3 with heap:=h'}) [C] (λb hb=>by rw[List.mem_singleton.mp hb];exact⟨h5 _ fC.m (Jb ne),fC.l,fC.c,fC.t,fC.s⟩) λb o hb e=>(hs.2 b λz=>hb (by simp[z])).trans e)⟩
end
end L2
namespace L2
open PySem PySem.Spec PyProof.Rows Md
variable[Md]
mutual
noncomputable def bV:D->Nat
 |.int _=>1
 |.str _=>1
 |.tup ds=>bX ds+1
 |_=>0
noncomputable def bX:List D->Nat
 |[]=>0
 |d::ds=>bV d+bX ds
end
theorem j9:∀a b:List D,bX (a++b)=bX a+bX b
 |[],b=>by simp[bX]
 |d::a,b=>by simp[bX,j9 a b,Pg]
theorem mS (w:KB):∀ds,vw w ds=ds.map (cH w)
 |[]=>rfl
 |d::ds=>by simp[vw,mS w ds]
theorem As (h:cW n (.tup ds)=V):∃k,n=k+1/\ds.all (cW k)=V:=by cases n with|zero=>cases h|succ k=>exact⟨k,rfl,h⟩
theorem fK:∀{n d},cW n d=V->okD n d=V:=by
 intro n
 induction n with
 |zero=>intro d h;cases d<;>simp_all [cW,okD]
 |succ n ih=>intro d h;cases d<;>simp_all [cW,okD]
theorem shh (hd:cW n d=V) (r:R m M d u):(∃i t,d=.int i/\u=.int i t)\/(∃i t,d=.str i/\u=.str i t)\/∃ds a o vs k,d=.tup ds/\u=.ref a/\n=k+1/\ds.all (cW k)=V/\Rd m M a o/\TupO o vs/\Rs m M ds vs:=by
 cases d with
 |int i=>obtain⟨t,rfl⟩:=r;exact .inl ⟨_,_,rfl,rfl⟩
 |str i=>obtain⟨t,rfl⟩:=r;exact .inr (.inl ⟨_,_,rfl,rfl⟩)
 |tup ds=>obtain⟨a,o,vs,rfl,r1,r2,r3⟩:=r;obtain⟨k,rfl,h⟩:=As hd;exact .inr (.inr ⟨_,a,o,vs,k,rfl,rfl,rfl,h,r1,r2,r3⟩)
 |_=>simp[cW]at hd
theorem p0:∀(n:Nat) {d u} {A:Jj}{s:IB}{Q:Int->IB->Prop}{E:IA->IB->Prop},Hm M s.heap->cW n d=V->A.units+2*n+2<cLine->R m M d u->Q (cH w d) {s with toks:=s.toks+bV d}->wpAny (model P w) A (pyHash u) Q E s:=by
 intro n
 induction n using KN with
 |ind n ih=>
 intro d u A s Q E H hd hA r hQ
 rcases shh hd r with⟨i,t,rfl,rfl⟩|⟨i,t,rfl,rfl⟩|⟨ds,a,o,vs,k,rfl,rfl,rfl,hd',q,t,rs⟩
 ·simp only[cH,bV]at hQ;exact wpAny_pyHash_int hQ
 ·simp only[cH,bV]at hQ;exact wpAny_pyHash_str hQ
 ·obtain⟨o,ho,hc,m,hdat⟩:=t.is H q
  have hT:s.TypeIs (.ref a) "tuple":=⟨o,ho,hc⟩;unfold pyHash;unfold pyHashByItsType;refine Ix (wpAny_cRoomFor_or (.inr (by lia)) (Ix (K3 hT F.slot_tuple_hash.lookup ?_)))
  show wpAny _ _ (if(U (OY "tuple.__hash__")==U Kv)=V then _ else _) Q E _
  rw[if_neg (by rw[beq_builtin_none];exact KS)]
  refine Ix (K3 hT F.slot_tuple_hash.lookup ?_)
  show wpAny _ _ (callSpecialIfBoundUnlessNone? (.ref a) "__hash__" _ >>= _) Q E _;refine Ix (wpAny_callSpecialIfBoundUnlessNone?_slot hT F.slot_tuple_hash (Jx F.slot_tuple_hash hT F.entry_tuple_hash ?_ (F.args_tuple_hash_1 _)))
  show wpAny _ _ (Builtin.Tuple.tupleItemsOf (.ref a) >>= _) _ _ _;refine Ix (wpAny_tupleItemsOf ho hdat (Ix ?_))
  rw[<-MF];refine K9 _ (λrest (b:Array Int) s'=>∃done left,ds=done++left/\Rs _ M left rest/\b.toList=done.map (cH w)/\s'={s with toks:=s.toks+bX done}) _ ?_ ?_ _ _ ⟨[],ds,rfl,by simpa using rs,rfl,rfl⟩
  ·rintro v rest b s' ⟨done,left,rfl,hl,hb,rfl⟩
   cases left with
   |nil=>cases hl
   |cons d' left'=>
    obtain⟨v',r',e',r1,r2⟩:=hl;cases e';have hd1:cW k d'=V:=by simp_all
    refine Ix (ih k (by lia) (s:={s with toks:=s.toks+bX done}) H hd1 (show A.units+1+2*k+2<cLine by lia) r1 ?_)
    have et:({s with toks:=s.toks+bX done+bV d'}:IB)={s with toks:=s.toks+bX (done++[d'])}:=by rw[j9];simp[bX,Pg]
    first
     |exact Iy ⟨done++[d'],left',by simp,r2,by simp[hb],et⟩
     |exact Ix (Iy (Iy ⟨done++[d'],left',by simp,r2,by simp[hb],et⟩))
  ·rintro b s' ⟨done,left,rfl,hl,hb,rfl⟩
   obtain rfl:left=[]:=by
    have:=hl.length;cases left with
    |nil=>rfl
    |cons _ _=>simp at this
   rw[Kb]at hQ;simp only[cH,mS,bV]at hQ;show wpAny _ _ (retInt (KF b.toList)) _ _ _;rw[hb];refine wpAny_ret_mkInt ?_
   show wpAny _ _ (if(decide (-(2:Int) ^ 63<=KF (done.map (cH w)))&&decide (KF (done.map (cH w))<2 ^ 63))=V then _ else _) Q E _
   unfold reduceHash at hQ
   by_cases hr:(decide (-(2:Int) ^ 63<=KF (done.map (cH w)))&&decide (KF (done.map (cH w))<2 ^ 63))=V
   ·rw[if_pos hr]at hQ⊢;exact Iy hQ
   ·rw[if_neg hr]at hQ⊢;exact Ix (Kf (Iy hQ))
theorem tK:∀(n:Nat) {d u} {A:Jj}{s:IB}{Q:Bool->IB->Prop}{E:IA->IB->Prop},Hm M s.heap->cW n d=V->R m M d u->Q V s->wpAny (model P w) A (eqIsQuiet n u) Q E s:=by
 intro n
 induction n using KN with
 |ind n ih=>
 intro d u A s Q E H hd r hQ
 rcases shh hd r with⟨i,t,rfl,rfl⟩|⟨i,t,rfl,rfl⟩|⟨ds,a,o,vs,k,rfl,rfl,rfl,hd',q,t,rs⟩
 ·unfold eqIsQuiet;exact Iy hQ
 ·unfold eqIsQuiet;exact Iy hQ
 ·obtain⟨o,ho,hc,m,hdat⟩:=t.is H q
  have hT:s.TypeIs (.ref a) "tuple":=⟨o,ho,hc⟩;unfold eqIsQuiet;refine Ix (K3 hT F.slot_tuple_eq.lookup ?_)
  dsimp only;refine Ix (K8 hT isSubtype_tuple_tuple ?_)
  simp only[KG,IT,if_false];refine Ix (JI ho hdat (Ix ?_))
  simp only[N0];rw[<-MF];refine K9 _ (λrest b s'=>b.1=B/\s'=s/\∃left,left.all (cW k)=V/\Rs _ M left rest) _ ?_ ?_ _ _ ⟨rfl,rfl,ds,hd',by simpa using rs⟩
  ·rintro v rest b s' ⟨hb,rfl,left,hall,hl⟩
   cases left with
   |nil=>cases hl
   |cons d' left'=>
    obtain⟨v',r',e',r1,r2⟩:=hl;cases e';rw[JC,II]at hall;refine Ix (ih k (by lia) H hall.1 r1 ?_)
    simp only[KG,IT,if_false];exact Iy ⟨rfl,rfl,left',hall.2,r2⟩
  ·rintro⟨b1,b2⟩ s' ⟨hb,rfl,_⟩
   simp only at hb;subst hb;exact Iy hQ
noncomputable def fm (h:Kl):Mp:=λa=>(h.get? a).map λo=>(.f,o)
theorem zH {h:Kl}:Hm (fm h) h:=λa k o e=>by
 unfold fm at e;cases q:h.get? a with
 |none=>simp[q]at e
 |some o'=>rw[q]at e;cases e;rfl
theorem Hm.fm {h:Kl}(H:Hm M h):Sub m M Y (fm h):=λa o ⟨k,e,_⟩=>rdf.mpr (by unfold L2.fm;rw[H _ _ _ e];rfl)
theorem R.key (g:∀a o vs,Rd m M a o->TupO o vs->Rd m' M' a o):∀{n d u},cW n d=V->R m M d u->R m' M' d u:=by
 intro n
 induction n using KN with
 |ind n ih=>
 intro d u hd r
 rcases shh hd r with⟨i,t,rfl,rfl⟩|⟨i,t,rfl,rfl⟩|⟨ds,a,o,vs,k,rfl,rfl,rfl,hd',q,t,rs⟩
 ·exact⟨t,rfl⟩
 ·exact⟨t,rfl⟩
 ·refine⟨a,o,vs,rfl,g _ _ _ q t,t,?_⟩
  clear r hd t q
  induction ds generalizing vs with
  |nil=>exact rs
  |cons d ds ih2=>
   obtain⟨v,r,rfl,r1,r2⟩:=rs;rw[JC,II]at hd';exact⟨v,r,rfl,ih k (Kj k) hd'.1 r1,ih2 r hd'.2 r2⟩
noncomputable def jH:HeapKind P w D where
 is h d a:=cW 8 d=V/\R Y (fm h) d (.ref a)
 hash:=cH w
 draws:=bV
 room A:=A.units+30<cLine
 inj hx hy:=R.inj (fK hx.1) (fK hy.1) hx.2 hy.2
 keeps:=λ{h h' k a d o es ep} hk ho hd hs=>⟨hk.1,hk.2.key (λb ob vs q c=>rdf.mpr (by
  have e:=zH _ _ _ (rdf.mp q);unfold fm;rw[(hs.2 b (λz=>by subst z;rw[ho]at e;cases e;obtain⟨_,_,n,c⟩:=c;rw[hd]at c;cases c)).trans e];rfl)) hk.1⟩
 pyHash:=λ{A E s k a Q} hr hk h=>p0 8 zH hk.1 (by lia) hk.2 h
 eqBool:=λ{A E s x y a b Q} hr hx hy h=>(zV zH 8 A (fK hx.1) (fK hy.1) (by lia) hx.2 hy.2).2.1 P w E Q h
 quiet:=λ{A E s k a Q} hk h=>tK 8 zH hk.1 hk.2 h
noncomputable def wF:D->IA->Bool
 |.int i,.int j _=>i==j
 |.str x,.str y _=>y==x
 |_,_=>Y
theorem dC (h:wF k v=V):(∃i t,k=.int i/\v=.int i t)\/∃x t,k=.str x/\v=.str x t:=by
 cases k<;>cases v<;>simp[wF]at h<;>subst h
 ·exact .inl ⟨_,_,rfl,rfl⟩
 ·exact .inr ⟨_,_,rfl,rfl⟩
noncomputable def BP:PySem.KeyKind P w D where
 is:=wF
 hash:=cH w
 inj:=λv a b ha hb=>by
  rcases dC ha with⟨i,t,rfl,rfl⟩|⟨x,t,rfl,rfl⟩<;>rcases dC hb with⟨j,u,rfl,e⟩|⟨y,u,rfl,e⟩<;>cases e<;>rfl
 byValue:=λk v h=>by
  rcases dC h with⟨i,t,rfl,rfl⟩|⟨x,t,rfl,rfl⟩<;>rfl
 pyHash:=λhv h=>by
  rcases dC hv with⟨i,t,rfl,rfl⟩|⟨x,t,rfl,rfl⟩
  ·exact wpAny_pyHash_int h
  ·exact wpAny_pyHash_str h
 eqBool:=λ{A E s a b u v Q} hu hv h=>by
  have H:Hm (λ_=>B) s.heap:=λ_ _ _ e=>nomatch e
  rcases dC hu with⟨i,t,rfl,rfl⟩|⟨x,t,rfl,rfl⟩<;>rcases dC hv with⟨j,t',rfl,rfl⟩|⟨y,t',rfl,rfl⟩
  ·rw[show decide (D.int i=D.int j)=(i==j) by rw[Ku,decide_eq_true_iff,beq_iff_eq,D.int.injEq]]at h;exact SeqAt.EqAt.int_int i t j t' _ _ _ _ h
  ·exact SeqAt.EqAt.int_str i t y t' _ _ _ _ h
  ·exact SeqAt.EqAt.str_int x t j t' _ _ _ _ h
  ·rw[show decide (D.str x=D.str y)=(x==y) by rw[Ku,decide_eq_true_iff,beq_iff_eq,D.str.injEq]]at h;exact O6 x t y t' _ _ _ _ h
 «strs»:=λk x t v h=>by
  rcases dC h with⟨i,u,rfl,e⟩|⟨y,u,rfl,e⟩<;>cases e
  cases v<;>rfl
end L2
namespace L2
open PySem PySem.Spec PyProof.Rows Md
variable[Md]
set_option tactic.hygienic true in
theorem xv {h:Kl}(H:Hm M h):∀{ks:List D}{l:List N6}{us},l.map (·.hash)=ks.map (cH w)->l.map (·.key)=us->ks.all (kOk V)=V->Rs m M ks us->∃xs:List (D×IZ×IA),l=xs.map (entryOfKey jH)/\xs.map (·.1)=ks/\xs.map (·.2.2)=l.map (·.val)/\∀x∈xs,jH.is h x.1 x.2.1
 |[],l,us,h1,h2,_,rs=>by cases l with|nil=>exact⟨[],rfl,rfl,rfl,λ_ h=>nomatch h⟩|cons _ _=>simp at h1
 |k::ks,l,us,h1,h2,hk,rs=>by
  cases l with
  |nil=>simp at h1
  |cons e l=>
   rw[JC,II]at hk;obtain⟨u,r,rfl,r1,r2⟩:=rs;simp only[IG,Lq]at h1 h2;obtain⟨xs,g1,g2,g3,g4⟩:=xv H h1.2 h2.2 hk.2 r2;cases k<;>simp[kOk]at hk
   rename_i ds;have rr:=r1.to H.fm;obtain⟨a,o,vs,rfl,_⟩:=r1;refine⟨(.tup ds,a,e.val)::xs,?_,by simp[g2],by simp[g3],λx hx=>?_⟩
   ·obtain⟨eh,ek,ev⟩:=e;simp only at h1 h2;rw[IG,<-g1,h1.1,h2.1];rfl
   ·rcases List.mem_cons.mp hx with rfl|hx
    ·exact⟨by simpa using hk.1,rr⟩
    ·exact g4 x hx
theorem Gq (h1:kOk Y k'=V) (h2:kOk Y k=V) (r:R m M k' v):wF k v=decide (k'=k):=by
 cases k'<;>simp[kOk]at h1<;>cases k<;>simp[kOk]at h2<;>obtain⟨t,rfl⟩:=r<;>rw[Ku]<;>simp[wF]
 exact eq_comm
theorem kH (h:kOk b k=V):cW 8 k=V:=by cases k<;>simp_all [kOk,cW]
section
variable{M:Mp}{s:IB}{A:Jj}{E:IA->IB->Prop}{m m' b:Bool}{o:N1}{ks:List D}{us vs:List IA}{k:D}{u v:IA}{d:IZ}
theorem DcO.at (c:DcO b o ks us vs) (e:o.data=.dict es ep):es.size=ks.length/\us.length=ks.length/\vs.length=ks.length/\∀(i:Nat),(es[i]?.map (·.hash))=(ks[i]?).map (cH w)/\(es[i]?.map (·.key))=us[i]?/\(es[i]?.map (·.val))=vs[i]?:=by
 obtain⟨_,_,_,_,es',ep',h,h1,h2,h3⟩:=c;rw[e]at h;cases h;have l1:=congrArg Kk h1;have l2:=congrArg Kk h2;have l3:=congrArg Kk h3;simp only[IC,JY]at l1 l2 l3;refine⟨l1,by lia,by lia,λi=>⟨?_,?_,?_⟩⟩
 ·rw[<-Ja,<-h1,Ja,Km]
 ·rw[<-h2,Ja,Km]
 ·rw[<-h3,Ja,Km]
theorem fnd {Q:Option Nat->IB->Prop}(hu:A.units+30<cLine) (H:Hm M s.heap) (hd:s.heap.get? d=U o) (c:DcO b o ks us vs) (rk:Rs m M ks us) (hk:kOk b k=V) (r:R m' M k u)
  (hn:k∉ks->Q B s) (hy:∀j:Nat,ks[j]?=U k->Q (U j) s):wpAny (model P w) A (dictFind d u (cH w k)) Q E s:=by
 obtain⟨es,ep,he⟩:∃es ep,o.data=.dict es ep:=by obtain⟨_,_,_,_,es,ep,h,_⟩:=c;exact⟨es,ep,h⟩
 obtain⟨l1,l2,l3,ha⟩:=c.at he;obtain⟨_,_,nd,al,es',ep',h,h1,h2,h3⟩:=c;rw[he]at h;cases h;cases b with
 |false=>
  have at1:∀(i:Nat) (hi:i<es.size),∃k',ks[i]?=U k'/\kOk Y k'=V/\es[i].hash=cH w k'/\R m M k' es[i].key:=λi hi=>by
   obtain⟨g1,g2,_⟩:=ha i;rw[JN hi]at g1 g2
   have hk':ks[i]?=U (ks[i]'(by lia)):=by simp
   obtain⟨v,e1,e2⟩:=rk.get hk';rw[e1]at g2;rw[hk']at g1;simp at g1 g2;refine⟨_,hk',(List.all_eq_true.mp al) _ (Kh _),g1,by rw[g2];exact e2⟩
  have ru:wF k u=V:=by rw[Gq hk hk r];simp
  refine wpAny_dictFind_of (knd:=BP) (k:=k) ru hd he (λe hin=>?_) ?_
  ·obtain⟨i,hi,rfl⟩:=Array.mem_iff_getElem.mp hin
   obtain⟨k',_,z1,z2,z3⟩:=at1 i hi;exact⟨k',by show wF k' _=V;rw[Gq z1 z1 z3];simp,z2⟩
  ·have key:∀(i:Nat) (hi:i<es.size),wF k es[i].key=decide (ks[i]?=U k):=λi hi=>by
    obtain⟨k',z0,z1,z2,z3⟩:=at1 i hi;rw[Gq z1 hk z3,z0];simp
   cases q:es.findIdx? (λe=>wF k e.key)with
   |none=>
    show Q (es.findIdx? λe=>wF k e.key) s
    rw[q];refine hn λz=>?_
    obtain⟨i,hi⟩:=List.mem_iff_getElem?.mp z;have hl:i<es.size:=by rw[l1];exact(List.getElem?_eq_some_iff.mp hi).1
    have:=(Array.findIdx?_eq_none_iff.mp q) es[i] (Array.getElem_mem hl)
    rw[key i hl,hi]at this;simp at this
   |some i=>
    show Q (es.findIdx? λe=>wF k e.key) s
    rw[q];obtain⟨hl,h5⟩:=Array.findIdx?_eq_some_iff_getElem.mp q
    have h5:=h5.1;rw[key i hl]at h5;exact hy i (of_decide_eq_true h5)
 |true=>
  obtain⟨xs,g1,g2,g3,g4⟩:=xv H h1 h2 al rk;have rr:=r.to H.fm;have hk8:=kH hk;obtain⟨a,rfl⟩:∃a,u=.ref a:=by cases k<;>simp[kOk]at hk;obtain⟨a,o',ws,rfl,_⟩:=r;exact⟨a,rfl⟩
  refine wpAny_dictFind_heap (knd:=jH) (show jH.room A from hu) ⟨hk8,rr⟩ hd he g1 g4 (by rw[g2];exact nd) (λz=>hn λy=>?_) λj p z=>hy j ?_
  ·obtain⟨i,hi⟩:=List.mem_iff_getElem?.mp y
   rw[<-g2,Ja]at hi
   cases w:xs[i]? with
   |none=>rw[w]at hi;cases hi
   |some x=>rw[w]at hi;injection hi with hi;exact z i x.2 (by rw[w,<-hi])
  ·rw[<-g2,Ja,z];rfl
theorem dh {β:Type}:∀{ks:List D}{xs:List β},k∉ks->bM k ks xs=B
 |[],_,_=>rfl
 |_::_,[],_=>rfl
 |x::ks,y::xs,h=>by simp only[Jo,not_or]at h;unfold bM;rw[if_neg (Jb h.1)];exact dh h.2
theorem jI {β:Type}:∀{ks:List D}{xs:List β}{j:Nat},ks.Nodup->ks[j]?=U k->bM k ks xs=xs[j]?
 |[],_,_,_,h=>by simp at h
 |x::ks,[],j,_,h=>rfl
 |x::ks,y::xs,0,_,h=>by simp at h;simp[bM,h]
 |x::ks,y::xs,j+1,nd,h=>by
  simp at h;unfold bM;rw[if_neg λ(z:x=k)=>(List.nodup_cons.mp nd).1 (z▸Jq h),jI (List.nodup_cons.mp nd).2 h];rfl
theorem HE {Q:Option IA->IB->Prop}(hu:A.units+30<cLine) (H:Hm M s.heap) (hd:s.heap.get? d=U o) (c:DcO b o ks us vs) (rk:Rs m M ks us) (hk:kOk b k=V) (r:R m' M k u)
  (h:∀tk,Q (bM k ks vs) {s with toks:=tk}):wpAny (model P w) A (dictGet d u) Q E s:=by
 unfold dictGet
 try with_reducible refine Jg ?_
 refine Ix (p0 8 H (kH hk) (by lia) r (Ix (fnd (s:={s with toks:=s.toks+bV k}) hu H hd c rk hk r (λz=>?_) λj z=>?_)))
 ·rw[dh z]at h;exact Iy (h _)
 ·have nd:=c.2.2.1
  obtain⟨_,_,_,_,es,ep,he,_⟩:=id c;refine Ix (Nb (s:={s with toks:=s.toks+bV k}) hd he (Iy ?_))
  rw[((c.at he).2.2.2 j).2.2,<-jI nd z];exact h _
theorem uI {β:Type}{v:β}:∀{ks:List D}{xs:List β}{j:Nat},ks.Nodup->ks[j]?=U k->ks.length=xs.length->fq k v ks xs=xs.set j v
 |[],_,_,_,h,_=>by simp at h
 |x::ks,[],j,_,h,e=>by simp at e
 |x::ks,y::xs,0,nd,h,e=>by
  simp at h;subst h;have no:∀{ks:List D}{xs:List β},x∉ks->ks.length=xs.length->fq x v ks xs=xs:=by
   intro ks
   induction ks with
   |nil=>intro xs _ e;cases xs<;>simp_all [fq]
   |cons z ks ih=>intro xs h e;cases xs with
    |nil=>simp at e
    |cons y xs=>simp only[Jo,not_or]at h;unfold fq;rw[if_neg (Jb h.1),ih h.2 (by simpa using e)]
  unfold fq;rw[if_pos rfl,no (List.nodup_cons.mp nd).1 (by simpa using e)];rfl
 |x::ks,y::xs,j+1,nd,h,e=>by
  simp at h;unfold fq;rw[if_neg λ(z:x=k)=>(List.nodup_cons.mp nd).1 (z▸Jq h),uI (List.nodup_cons.mp nd).2 h (by simpa using e)];rfl
theorem DcO.new (c:DcO b o ks us vs) (hk:kOk b k=V) (hz:ks.length<sizeLine) (z:k∉ks) (he:o.data=.dict es ep):DcO b (o.mapDictKeys (·.push ⟨cH w k,u,v⟩)) (ks++[k]) (us++[u]) (vs++[v]):=by
 obtain⟨h1,h2,nd,al,es',ep',h,g1,g2,g3⟩:=c;rw[he]at h;cases h;refine⟨by simp;lia,h2.mapDictKeys _,?_,by simp[al,hk],_,_,NJ he _,by simp[g1],by simp[g2],by simp[g3]⟩
 rw[Lf];grind
set_option tactic.hygienic true in
theorem DcO.old (c:DcO b o ks us vs) (hj:j<ks.length) (he:o.data=.dict es ep):DcO b (o.mapDict (·.modify j λe=>{e with val:=v})) ks us (vs.set j v):=by
 obtain⟨h1,h2,nd,al,es',ep',h,g1,g2,g3⟩:=c;rw[he]at h;cases h;have l1:=congrArg Kk g1;simp only[IC,JY]at l1;refine⟨h1,h2.mapDict _,nd,al,_,_,Obj.data_mapDict he _,?_,?_,?_⟩<;>refine LK λi=>?_<;>simp only[Ja,Km,Array.getElem?_modify,List.getElem?_set]
 ·rw[<-Ja,<-g1,Ja,Km];split<;>cases es[i]?<;>rfl
 ·rw[<-g2,Ja,Km];split<;>cases es[i]?<;>rfl
 ·rw[<-g3];simp only[Ja,Km,IC,JY]
  split
  ·rename_i z;subst z;rw[if_pos (by lia),JN (by lia)];rfl
  ·rfl
noncomputable def CB (k:D) (u:IA) (ks:List D) (us:List IA):List IA:=if k∈ks then us else us++[u]
theorem Hb {Q:Unit->IB->Prop}(hu:A.units+30<cLine) (H:Hm M s.heap) (hd:s.heap.get? d=U o) (c:DcO b o ks us vs) (rk:Rs m M ks us) (hk:kOk b k=V) (r:R m' M k u) (hz:ks.length<sizeLine)
  (h:∀h' tk o',JX d s.heap h'->h'.get? d=U o'->DcO b o' (bH k ks) (CB k u ks us) (kh k v ks vs)->Q () {s with heap:=h',toks:=tk}):wpAny (model P w) A (dictSet d u v) Q E s:=by
 unfold dictSet
 try with_reducible refine Jg ?_
 refine Ix (p0 8 H (kH hk) (by lia) r ?_)
 unfold dictSetHashed
 try with_reducible refine Jg ?_
 obtain⟨_,_,nd,_,es,ep,he,_⟩:=id c;obtain⟨l1,l2,l3,ha⟩:=c.at he;refine Ix (fnd (s:={s with toks:=s.toks+bV k}) hu H hd c rk hk r (λz=>?_) λj z=>?_)
 ·refine Ix (Kf (wpAny_updateDictKeys (hz:=by lia) (s:={s with toks:=s.toks+bV k}) hd he (h _ _ _ (Jw ..) (IY _ hd (NN (NJ he _))) ?_)))
  unfold bH CB kh;rw[if_neg z,if_neg z,if_neg z];exact c.new hk hz z he
 ·have hm:=Jq z
  have hj:=(List.getElem?_eq_some_iff.mp z).1
  refine Ix (Kf (Ix (wpAny_updateDict (s:={s with toks:=s.toks+bV k}) hd he (wpAny_point (h _ _ _ (Jw ..) (IY _ hd (NN (Obj.data_mapDict he _))) ?_)))))
  unfold bH CB kh;rw[if_pos hm,if_pos hm,if_pos hm,uI nd z (by lia)];exact c.old hj he
theorem Hx {Q:IA->IB->Prop}(hu:A.units+30<cLine) (H:Hm M s.heap) (hd:s.heap.get? d=U o) (c:DcO b o ks us vs) (rk:Rs m M ks us) (hk:kOk b k=V) (r:R m' M k u) (hz:k∉ks->ks.length<sizeLine)
  (h1:∀x tk,bM k ks vs=U x->Q x {s with toks:=tk})
  (h2:∀h' tk o',k∉ks->JX d s.heap h'->h'.get? d=U o'->DcO b o' (bH k ks) (CB k u ks us) (kh k v ks vs)->Q v {s with heap:=h',toks:=tk}):wpAny (model P w) A (dictSetDefault d u v) Q E s:=by
 unfold dictSetDefault
 try with_reducible refine Jg ?_
 obtain⟨_,_,nd,_,es,ep,he,_⟩:=id c;obtain⟨l1,l2,l3,ha⟩:=c.at he;refine Ix (p0 8 H (kH hk) (by lia) r (Ix (fnd (s:={s with toks:=s.toks+bV k}) hu H hd c rk hk r (λz=>?_) λj z=>?_)))
 ·refine Ix (Kf (Ix (wpAny_updateDictKeys (hz:=by have:=hz z;lia) (s:={s with toks:=s.toks+bV k}) hd he (Iy (h2 _ _ _ z (Jw ..) (IY _ hd (NN (NJ he _))) ?_)))))
  unfold bH CB kh;rw[if_neg z,if_neg z,if_neg z];exact c.new hk (hz z) z he
 ·have hj:j<es.size:=by rw[l1];exact(List.getElem?_eq_some_iff.mp z).1
  refine Ix (Nb (s:={s with toks:=s.toks+bV k}) hd he ?_)
  have g:=(ha j).2.2;rw[JN hj]at g⊢
  exact Ix (Kf (Iy (h1 _ _ (by rw[jI nd z,<-g];rfl))))
end
end L2
namespace L2
open PySem PySem.Spec PyProof.Rows Md
variable[Md]
noncomputable def dcD:D->Option (Bool×List D×List D)
 |.dK ks vs=>U (Y,ks.map kD,vs)
 |.dD ks vs=>U (V,ks,vs)
 |_=>B
theorem Ks.rs:∀{ks us},Ks ks us↔Rs m M (ks.map kD) us
 |[],us=>Iff.rfl
 |.inl i::ks,us=>⟨λ⟨t,r,e,h⟩=>⟨_,r,e,⟨t,rfl⟩,Ks.rs.mp h⟩,λ⟨v,r,e,⟨t,z⟩,h⟩=>⟨t,r,by rw[<-z];exact e,Ks.rs.mpr h⟩⟩
 |.inr i::ks,us=>⟨λ⟨t,r,e,h⟩=>⟨_,r,e,⟨t,rfl⟩,Ks.rs.mp h⟩,λ⟨v,r,e,⟨t,z⟩,h⟩=>⟨t,r,by rw[<-z];exact e,Ks.rs.mpr h⟩⟩
theorem R.dc (r:R m M d v) (h:dcD d=U (b,ks,ds)):∃a o us vs,v=.ref a/\Rd m M a o/\DcO b o ks us vs/\Rs m M ks us/\Rs m M ds vs:=by
 cases d<;>cases h
 ·obtain⟨a,o,us,vs,e,q,c,k,rs⟩:=r;exact⟨a,o,us,vs,e,q,c,Ks.rs.mp k,rs⟩
 ·exact r
theorem Cm.dc (r:Cm m M d o) (h:dcD d=U (b,ks,ds)):∃us vs,DcO b o ks us vs/\Rs m M ks us/\Rs m M ds vs:=by
 cases d<;>cases h
 ·obtain⟨us,vs,c,k,rs⟩:=r;exact⟨us,vs,c,Ks.rs.mp k,rs⟩
 ·exact r
theorem xq:∀{a b:Key},kD a=kD b->a=b
 |.inl _,.inl _,h=>by cases h;rfl
 |.inr _,.inr _,h=>by cases h;rfl
theorem qN {β:Type}{kk:Key}:∀{ks:List Key}{ds:List β},bM (kD kk) (ks.map kD) ds=bM kk ks ds
 |[],_=>rfl
 |_::_,[]=>rfl
 |x::ks,d::ds=>by
  simp only[IG,bM,qN]
  by_cases h:x=kk
  ·rw[if_pos h,if_pos (by rw[h])]
  ·rw[if_neg h,if_neg λz=>h (xq z)]
theorem uh {kk:Key}{ks:List Key}:kD kk∈ks.map kD↔kk∈ks:=by
 rw[N5];exact⟨λ⟨x,h,e⟩=>xq e▸h,λh=>⟨kk,h,rfl⟩⟩
theorem uC {β:Type}{kk:Key}{v:β}{ks:List Key}{ds:List β}:kh (kD kk) v (ks.map kD) ds=kh kk v ks ds:=by
 have g:∀{ks:List Key}{ds:List β},fq (kD kk) v (ks.map kD) ds=fq kk v ks ds:=by
  intro ks
  induction ks with
  |nil=>intro ds;rfl
  |cons x ks ih=>intro ds;cases ds with
   |nil=>rfl
   |cons d ds=>
    simp only[IG,fq,ih]
    by_cases h:x=kk
    ·rw[if_pos h,if_pos (by rw[h])]
    ·rw[if_neg h,if_neg λz=>h (xq z)]
 unfold kh;rw[g]
 by_cases h:kk∈ks
 ·rw[if_pos h,if_pos (uh.mpr h)]
 ·rw[if_neg h,if_neg λz=>h (uh.mp z)]
theorem pL {kk:Key}{ks:List Key}:bH (kD kk) (ks.map kD)=(bH kk ks).map kD:=by
 unfold bH
 by_cases h:kk∈ks
 ·rw[if_pos h,if_pos (uh.mpr h)]
 ·rw[if_neg h,if_neg λz=>h (uh.mp z),Jd];rfl
theorem j5 (h:qW d=U kk):d=kD kk/\kOk Y d=V:=by cases d<;>cases h<;>exact⟨rfl,rfl⟩
theorem lH (h:(cW 8 d&&uD d)=V):kOk V d=V:=by rw[II]at h;cases d<;>simp_all [uD,kOk]
set_option tactic.hygienic true in
theorem fS (h:iI x y=U o):∃d k b ks ds,x=U d/\y=U k/\dcD d=U (b,ks,ds)/\kOk b k=V/\o=bM k ks ds:=by
 unfold iI at h;split at h
 ·split at h<;>cases h
  rename_i kk hk;obtain⟨rfl,hk⟩:=j5 hk;exact⟨_,_,_,_,_,rfl,rfl,rfl,hk,qN.symm⟩
 ·split at h<;>cases h
  exact⟨_,_,_,_,_,rfl,rfl,rfl,lH (by assumption),rfl⟩
 ·cases h
set_option tactic.hygienic true in
theorem mG (h:pI x k v=U y):∃b ks ds,dcD x=U (b,ks,ds)/\kOk b k=V/\ks.length<lim/\dcD y=U (b,bH k ks,kh k v ks ds)/\∀{m M o us vs},DcO b o (bH k ks) us vs->Rs m M (bH k ks) us->Rs m M (kh k v ks ds) vs->Cm m M y o:=by
 unfold pI at h;split at h
 ·split at h<;>try cases h
  split at h<;>cases h
  rename_i kk hk hl;obtain⟨rfl,hk⟩:=j5 hk;refine⟨_,_,_,rfl,hk,by simpa using hl,by rw[pL,uC];rfl,λ{m M o us vs} h1 h2 h3=>?_⟩
  rw[pL]at h1 h2;rw[uC]at h3;exact⟨us,vs,h1,Ks.rs.mpr h2,h3⟩
 ·split at h<;>cases h
  rename_i hc;rw[II,decide_eq_true_iff]at hc;exact⟨_,_,_,rfl,lH hc.1,hc.2,rfl,λ{m M o us vs} h1 h2 h3=>⟨us,vs,h1,h2,h3⟩⟩
 ·cases h
theorem lh:∀{ks:List D}{ds:List D}{vs},Rs m M ds vs->(bM k ks ds=B->bM k ks vs=B)/\∀d,bM k ks ds=U d->∃v,bM k ks vs=U v/\R m M d v
 |[],_,_,_=>⟨λ_=>rfl,λ_ h=>nomatch h⟩
 |x::ks,[],_,r=>by cases r;exact⟨λ_=>rfl,λ_ h=>nomatch h⟩
 |x::ks,d::ds,_,⟨v,r,e,h1,h2⟩=>by
  subst e;unfold bM
  by_cases h:x=k
  ·rw[if_pos h,if_pos h];exact⟨λz=>(by cases z),λd z=>(by cases z;exact⟨v,rfl,h1⟩)⟩
  ·rw[if_neg h,if_neg h];exact lh h2
theorem xe {ks ds:List D}{vs:List IA}(r:Rs m M ds vs) (h:R m M d v):Rs m M (kh k d ks ds) (kh k v ks vs):=by
 have g:∀{ks ds:List D}{vs:List IA},Rs m M ds vs->Rs m M (fq k d ks ds) (fq k v ks vs):=by
  intro ks
  induction ks with
  |nil=>intro ds vs _;rfl
  |cons x ks ih=>intro ds vs r;cases ds with
   |nil=>cases r;rfl
   |cons e ds=>
    obtain⟨u,t,rfl,h1,h2⟩:=r;refine⟨_,_,rfl,?_,ih h2⟩
    split
    ·exact h
    ·exact h1
 unfold kh;split
 ·exact g r
 ·exact r.append (.one h)
theorem qZ {ks:List D}{us:List IA}(r:Rs m M ks us) (h:R m M k u):Rs m M (bH k ks) (CB k u ks us):=by
 unfold bH CB;split
 ·exact r
 ·exact r.append (.one h)
section
variable{X:Cx}{M M':Mp}{δ:DEnv}{s:IB}{Q:IA->IB->Prop}{a b c:Expr}{fa fb fc:DEnv->Option D}{m m' mm bb:Bool}{p px pos pos' apos cpos:Ov}
theorem Inv.nsys (I:Inv X M δ s) (q:Rd m M d o):(d==sysModules)=Y:=by
 obtain⟨k,e,h⟩:=q;rw[beq_eq_false_iff_ne];rintro rfl;obtain rfl:=I.sys _ _ e;cases h
theorem DcO.ty (c:DcO bb o ks us vs) (e:s.heap.get? d=U o):s.TypeIs (.ref d) "dict":=⟨o,e,c.2.1.1⟩
theorem Rd.heap (q:Rd m M d o) (H:Hm M s.heap):s.heap.get? d=U o:=by obtain⟨k,e,_⟩:=q;exact H _ _ _ e
set_option tactic.hygienic true in
theorem FJ (ha:DE X m a fa) (hb:DE X m' b fb):DE X m (.Subscript a b pos) (λδ=>EP (fa δ) (fb δ)):=⟨rfl,λ{M δ s d Q} I e k=>by
 unfold EP at e;split at e<;>cases e
 rename_i q;obtain⟨d1,k1,b1,ks,ds,e1,e2,e3,e4,e5⟩:=fS q;refine Oo (ha.ev I e1 λv s1 M1 x1 I1 r1=>hb.ev I1 e2 λu s2 M2 x2 I2 r2=>?_)
 obtain⟨l,o,us,vs,rfl,q,c,rk,rs⟩:=(r1.up x2).dc e3;have ho:=q.heap I2.heap;have un:=I2.un;obtain⟨v,g1,g2⟩:=(lh rs).2 _ e5.symm;refine tail_any (c.ty ho) slot_dict_getitem.lookup ?_ (vD hb.pl)
 unfold getItem
 try with_reducible refine Jg ?_
 refine Ix (OC (c.ty ho) (by decide) ?_)
 refine Ix (JR (name:=JM "__getitem__") (c.ty ho) slot_dict_getitem (Jx slot_dict_getitem (c.ty ho) entry_dict_getitem ?_ (args_dict_getitem _ _)))
 show wpAny _ _ (dictGet l u >>= _) _ _ _;refine Ix (HE (show X.A.units+1+30<cLine by lia) I2.heap ho c rk e4 r2 λtk=>?_)
 rw[g1];exact Iy ⟨v,rfl,Iy (k _ _ _ (x1.trans x2) I2.tok g2)⟩⟩
theorem xC (ha:DE X m a fa) (hb:DE X m' b fb):DT X (.Compare a [.NotIn] [b] pos) (λδ=>fM (F8 (fa δ) (fb δ))):=λ{M δ s c Q} I e k=>by
 unfold F8 at e;dsimp only at e;cases q:iI (fb δ) (fa δ)with
 |none=>simp[q,fM]at e
 |some og=>
  simp only[q,fM]at e;cases e;obtain⟨d1,k1,b1,ks,ds,e1,e2,e3,e4,e5⟩:=fS q;refine LP (ha.ev I e2 λu s1 M1 x1 I1 r1=>hb.ev I1 e1 λv s2 M2 x2 I2 r2=>?_) (nL hb.pl)
  obtain⟨l,o,us,vs,rfl,q,c,rk,rs⟩:=r2.dc e3;have ho:=q.heap I2.heap;have un:=I2.un;have hS:=I2.nsys q;show wpAny (model P w) X.A (do return KA (!(<-contains (.ref l) u))) _ _ _
  refine Ix ?_
  unfold contains
  try with_reducible refine Jg ?_
  refine Ix (K3 (c.ty ho) slot_dict_contains.lookup ?_)
  show wpAny _ _ (if(U (OY "dict.__contains__")==U Kv)=V then _ else _) _ _ _
  rw[if_neg (by rw[beq_builtin_none];exact KS)]
  refine Ix (wpAny_callSpecialUnlessNone?_slot (name:=JM "__contains__") (c.ty ho) slot_dict_contains (Jx slot_dict_contains (c.ty ho) entry_dict_contains ?_ (args_dict_contains _ _)))
  show wpAny _ _ (dictGet l u >>= _) _ _ _;refine Ix (HE (show X.A.units+1+30<cLine by lia) I2.heap ho c rk e4 (r1.up x2) λtk=>?_)
  have fin:=k _ _ (x1.trans x2) (I2.tok (t:=tk));subst e5;obtain⟨g1,g2⟩:=lh (k:=k1) (ks:=ks) rs;cases z:bM k1 ks ds with
  |none=>
   rw[g1 z];rw[z]at fin;show wpAny _ _ (Builtin.Dict.pendingKey? l u >>= _) _ _ _;exact Ix (wpAny_pendingKey_other hS (Iy ⟨_,rfl,JW (Iy (JW fin))⟩))
  |some y=>
   obtain⟨v,g3,_⟩:=g2 y z;rw[g3];rw[z]at fin;show wpAny _ _ (ret (.bool V)) _ _ _;exact Iy ⟨_,rfl,JW (Iy (JW fin))⟩
set_option tactic.hygienic true in
theorem Dp (ha:DE X m a fa) (hb:DE X m b fb) (hc:DE X m c fc) (l:(apos.endLine==cpos.line)=V):DE X m (.Call (.Attribute a "get" apos) [b,c] [] cpos) (λδ=>cO (fa δ) (fb δ) (fc δ)):=⟨rfl,λ{M δ s d Q} I e k=>by
 unfold cO at e;split at e<;>cases e
 rename_i og z q1 q2;obtain⟨d1,k1,b1,ks,ds,e1,e2,e3,e4,e5⟩:=fS q1;refine yo MM O8 PySem.F.type_dict_get l ha (aT hb (aT hc cL)) (by simp) I e1 (ds:=[k1,z]) (by rw[e2,q2];rfl) (λH r=>?_) λv ws s1 M1 x1 I1 r1 r2=>?_
 ·obtain⟨l,o,us,vs,rfl,q,c,_⟩:=r.dc e3
  exact⟨c.ty (q.heap H),λb e=>by cases e;exact⟨o,q.heap H,c.2.1.2.1⟩⟩
 ·obtain⟨u,v2,rfl,r3,r4⟩:=r2.is2
  obtain⟨l,o,us,vs,rfl,q,c,rk,rs⟩:=r1.dc e3;have ho:=q.heap I1.heap;have un:=I1.un;have hS:=I1.nsys q;refine Jx O8 (c.ty ho) PySem.F.entry_dict_get ?_ (PySem.F.args_dict_get_3 _ _ _)
  show wpAny _ _ (dictGet l u >>= _) _ _ _;refine Ix (HE (show X.A.units+1+30<cLine by lia) I1.heap ho c rk e4 r3 λtk=>?_)
  subst e5;obtain⟨g1,g2⟩:=lh (k:=k1) (ks:=ks) rs;cases z:bM k1 ks ds with
  |none=>
   rw[g1 z];rw[z]at k;show wpAny _ _ (Builtin.Dict.missed l u >>= _) _ _ _;exact Ix (wpAny_missed_other hS (Iy ⟨_,rfl,k _ _ _ x1 I1.tok r4⟩))
  |some y=>
   obtain⟨v,g3,g4⟩:=g2 y z;rw[g3];rw[z]at k;exact Iy ⟨_,rfl,k _ _ _ x1 I1.tok g4⟩⟩
theorem qI:DcO bb {cls:=.type "dict",data:=.dict #[]} [] [] []:=⟨Jf _,⟨rfl,rfl,rfl⟩,Kc,rfl,#[],_,rfl,rfl,rfl,rfl⟩
theorem zB:DF X (.Dict [] [] pos) (λ_=>U (.dK [] [])):=⟨rfl,λI e k=>by
 cases e;exact Nt (k _ _ _ _ Ext.refl I.push (I.fresh (IM _)) (IF _ rfl) ⟨[],[],qI,rfl,rfl⟩)⟩
theorem BM:DF X (.Dict [] [] pos) (λ_=>U (.dD [] [])):=⟨rfl,λI e k=>by
 cases e;exact Nt (k _ _ _ _ Ext.refl I.push (I.fresh (IM _)) (IF _ rfl) ⟨[],[],qI,rfl,rfl⟩)⟩
end
end L2
namespace L2
open PySem PySem.Spec PyProof.Rows Md
variable[Md]
noncomputable def neX (x:Option (D×DEnv)) (fb:DEnv->Option D):Option (Bool×DEnv):=ae x λp=>match neO (U p.1) (fb p.2)with|some c=>U (c,p.2)|none=>B
structure DX (X:Cx) (e:Expr) (f:DEnv->Option (D×DEnv)):Prop where
 pl:plE e=V
 ev:∀{M δ s d δ'} {Q:IA->IB->Prop},Inv X M δ s->f δ=U (d,δ')->(∀v s' M',Sx M M'->Inv X M' δ' s'->R Y M' d v->Q v s')->WP X (eval e X.env) Q s
noncomputable def DTX (X:Cx) (e:Expr) (f:DEnv->Option (Bool×DEnv)):Prop:=∀{M δ s c δ'} {Q:Bool->IB->Prop},Inv X M δ s->f δ=U (c,δ')->(∀s' M',Sx M M'->Inv X M' δ' s'->Q c s')->WP X (isTrue e X.env (eval e X.env)) Q s
section
variable{X:Cx}{M M':Mp}{δ:DEnv}{s:IB}{a b c:Expr}{fa fb fc:DEnv->Option D}{m m' mm bb:Bool}{p px pos pos' apos cpos:Ov}{g1 g2:DEnv->Option Out}
theorem HO (c:DcO bb o ks us vs):Ow o:=by obtain⟨_,h1,_,_,es,ep,h2,_⟩:=c;exact⟨by rw[h1.1];simp,λ_ z=>by rw[h2]at z;cases z⟩
theorem R.keyF (I:Inv X M δ s) (h:cW 8 k=V) (r:R m M k u):R Y M k u:=r.key (λa o vs ⟨kk,e,q⟩ t=>by
 cases kk with
 |f=>exact rdf.mpr e
 |p=>cases q
 |o i=>exact absurd t.2.1 (I.own _ _ _ e).1) h
theorem Inv.dput {h':Kl}{tk:Nat}{a:IZ}(I:Inv X M δ s) (h:Nm X i x) (nd:X.N.Nodup) (e:δ[i]?=U (U (d,V))) (q:M a=U (.o i,o)) (sb:JX a s.heap h') (g:h'.get? a=U o') (dc:DcO bb o' ks us vs) (c:C M y o'):∃M',Inv X M' (δ.set i (U (y,V))) {s with heap:=h',toks:=tk}/\Sx M M':=by
 obtain⟨h1,h2,h3⟩:=I.chg (s':={s with heap:=h',toks:=tk}) e h.n h.v nd q (λb ob z w=>(sb.2 b z).trans w) g (HO dc) c
 exact⟨_,h1,h2,λa o=>(h3 a o).mp,λa o=>(h3 a o).mpr⟩
set_option tactic.hygienic true in
theorem Dc (h:Nm X i x) (nd:X.N.Nodup) (hb:DE X m b fb) (hv:DE X Y c fc) (hs:swapsWith c (U (.Subscript (.Name x px) b pos')) pos.line X.env=pure Y):DS X (.Assign [.Subscript (.Name x px) b pos'] c pos) (λδ=>Ar i (fb δ) (fc δ) δ):=λ{M δ s o Q} I e k=>by
 unfold Ar at e;dsimp only at e;split at e<;>try cases e
 split at e<;>cases e
 rename_i d kd vd q0 q1 q2 _ y qy;have h1:=aO q0;obtain⟨b1,ks,ds,e3,e4,e5,_,e6⟩:=mG qy;refine wpAny_Assign_Subscript (hv.ev I q2 λr s1 M1 x1 I1 r1=>L0 (I1.load h h1 λv z=>hb.ev I1 q1 λu s2 M2 x2 I2 r2=>?_) h.d) hs
 obtain⟨l,o,rfl,q,c⟩:=z;have q:M2 l=U (.o i,o):=by rcases x2 l with w|w;rw[w,q];rw[w.1]at q;cases q
 have c:=c.to x2.sub;obtain⟨us,vs,c,rk,rs⟩:=c.dc e3;have ho:=I2.heap _ _ _ q;have un:=I2.un;have hl:=aw (IM lim);unfold setItem
 try with_reducible refine Jg ?_
 refine Ix (OC (c.ty ho) (by decide) ?_)
 refine Ix (JR (name:=JM "__setitem__") (c.ty ho) Nd (Jx Nd (c.ty ho) entry_dict_setitem ?_ (args_dict_setitem _ _ _)))
 show wpAny _ _ (Oh "__setitem__" ⟨[.ref l,u,r],[]⟩ >>= _) _ _ _;refine Ix (Le (c.ty ho) ?_)
 show wpAny _ _ (dictSet l u r >>= _) _ _ _;refine Ix (Hb (show X.A.units+1+30<cLine by lia) I2.heap ho c rk e4 r2 (by lia) λh' tk o' sb g dc=>?_)
 obtain⟨M3,I3,x3⟩:=I2.dput (tk:=tk) h nd h1 q sb g dc (e6 dc (qZ rk (r2.keyF I2 (kH e4))) (xe rs (r1.up x2)));exact Iy ⟨.none,rfl,Iy (k _ _ ((x1.trans x2).sx.trans x3) I3)⟩
theorem Az {M:Mp}(h:dcD d=U (bb,ks,ds)) (c:C M d o):o.cls=.type "dict"/\o.dict=B:=by obtain⟨_,_,c,_⟩:=c.dc h;exact⟨c.2.1.1,c.2.1.2.1⟩
set_option tactic.hygienic true in
theorem xw (h:Nm X i x) (nd:X.N.Nodup) (hb:DE X Y b fb) (hc:DE X Y c fc) (l:(apos.endLine==cpos.line)=V):DX X (.Call (.Attribute (.Name x px) "setdefault" apos) [b,c] [] cpos) (λδ=>sdO i (fb δ) (fc δ) δ):=⟨rfl,λ{M δ s d δ' Q} I e k=>by
 unfold sdO at e;split at e<;>try cases e
 rename_i d0 kd vd q0 q1 q2;cases og:iI (U d0) (U kd)with
 |none=>rw[og]at e;cases e
 |some oy=>
  obtain⟨_,_,b1,ks,ds,z1,z2,e3,e4,e5⟩:=fS og;cases z1;cases z2;have h1:=aO q0;refine Bz MM Ob Oa l h (aT hb (aT hc cL)) (by simp) I h1 (ds:=[kd,vd]) (by rw[q1,q2];rfl) (λc=>Az e3 c) λa o ws s1 M1 x1 I1 q c r=>?_
  obtain⟨u,v,rfl,r1,r2⟩:=r.is2;obtain⟨us,vs,c,rk,rs⟩:=c.dc e3;have ho:=I1.heap _ _ _ q;have un:=I1.un;have hS:(a==sysModules)=Y:=by rw[beq_eq_false_iff_ne];rintro rfl;exact nomatch I1.sys _ _ q
  have hl:=aw (IM lim);refine Jx F.slot_dict_setdefault (c.ty ho) PU ?_ (PN _ _ _)
  refine Ix (Ix (Le (c.ty ho) (Iy ?_)))
  change wpAny _ _ (if(a==sysModules)=V then _ else(dictSetDefault a u v >>= _)) _ _ _
  rw[if_neg (by rw[hS];exact KS)]
  obtain⟨g1,g2⟩:=lh (k:=kd) (ks:=ks) rs;rw[og]at e;cases oy with
  |some y=>
   cases e;obtain⟨v',g3,g4⟩:=g2 _ e5.symm;refine Ix (Hx (show X.A.units+1+30<cLine by lia) I1.heap ho c rk e4 r1 (λz=>by rw[dh z]at g3;cases g3) (λx tk z=>?_) λh' tk o' z=>?_)
   ·rw[g3]at z;cases z;exact Iy ⟨_,rfl,k _ _ _ x1.sx I1.tok g4⟩
   ·rw[dh z]at g3;cases g3
  |none=>
   dsimp only at e;split at e<;>cases e
   rename_i y qy;obtain⟨_,_,_,z1,_,e7,_,e6⟩:=mG qy;rw[e3]at z1;cases z1;refine Ix (Hx (show X.A.units+1+30<cLine by lia) I1.heap ho c rk e4 r1 (λ_=>by lia) (λx tk z=>?_) λh' tk o' z sb g dc=>?_)
   ·rw[g1 e5.symm]at z;cases z
   ·obtain⟨M3,I3,x3⟩:=I1.dput (tk:=tk) h nd h1 q sb g dc (e6 dc (qZ rk r1) (xe rs r2))
    exact Iy ⟨_,rfl,k _ _ _ (x1.sx.trans x3) I3 (r2.to x3.f)⟩⟩
set_option tactic.hygienic true in
theorem CW {ga:DEnv->Option (D×DEnv)}(ha:DX X a ga) (hb:DE X Y b fb):DTX X (.Compare a [.NotEq] [b] pos) (λδ=>neX (ga δ) fb):=λ{M δ s c δ' Q} I e k=>by
 obtain⟨⟨d1,δ1⟩,e1,e2⟩:=ag e;dsimp only at e2;split at e2<;>cases e2
 rename_i qc;refine LP (ha.ev I e1 λv s1 M1 x1 I1 r1=>?_) (nL hb.pl)
 obtain⟨x,y,z1,z2,z3⟩:=iP (jK qc);cases z1;exact hb.ev I1 z2 λu s2 M2 x2 I2 r2=>Ez I2 (r1.up x2).tt r2.tt z3 λs3 I3=>JW (k _ _ (x1.trans x2.sx) I3)
set_option tactic.hygienic true in
theorem GD {gt:DEnv->Option (Bool×DEnv)}{x y:List J6}(hc:DTX X c gt) (ha:DSs X x g1) (hb:DSs X y g2):DS X (.If c x y pos) (λδ=>ifX (gt δ) g1 g2):=λ{M δ s o Q} I e k=>by
 unfold ifX at e;dsimp only at e;split at e
 ·rename_i q;exact Px (hc I q λs1 M1 x1 I1=>ha I1 e (k.to x1))
 ·rename_i q;exact Px (hc I q λs1 M1 x1 I1=>hb I1 e (k.to x1))
 ·cases e
end
end L2
namespace L2
open PySem PySem.Spec PyProof.Rows Md
variable[Md]
section
variable{prog:J9}{w:KB}{A:Jj}{E:IA->IB->Prop}{s:IB}
theorem pU {d:IZ}{o:N1}{es:Array N6}{ep:Nat}{Q:IA->IB->Prop}(hd:(d==sysModules)=Y) (ho:s.heap.get? d=U o) (hc:o.ExactDict) (hdat:o.data=.dict es ep)
  (hQ:Q (.ref s.heap.objs.size) {s with heap:=s.heap.push {cls:=.type "dict_keyiterator",data:=.fields #[.ref d,.int 0 0,.int es.size 0,.int ep 0]}}):wpAny (model prog w) A (pyIter (.ref d)) Q E s:=by
 have ty:s.TypeIs (.ref d) "dict":=⟨o,ho,hc.1⟩;refine OD ty F.slot_dict_iter (Jx F.slot_dict_iter ty F.entry_dict_iter ?_ (F.args_dict_iter_1 _))
 refine Ix ?_
 refine Ix (Le ty (Iy ?_))
 change wpAny _ _ (Os d >>= _) _ E s;unfold Os;rw[if_neg (by lia)]
 refine Ix (Iy (Ix (Nb ho hdat (Ix (wpAny_dictEpoch ho hdat (Ix (JQ (Iy ⟨_,rfl,"dict_keyiterator",_,⟨_,IF _ rfl,rfl⟩,F.slot_dict_keyiterator_next.lookup,?_⟩))))))))
 assumption
theorem hW {it d:IZ}{o:N1}{es:Array N6}{i ep:Nat}{Q:Option IA->IB->Prop}(hh:A.handled=B) (hit:s.heap.IsKeyIter it d i es.size ep) (ho:s.heap.get? d=U o) (hdat:o.data=.dict es ep)
  (item:∀e,es[i]?=U e->∀h',h'.IsKeyIter it d (i+1) es.size ep->JX it s.heap h'->Q (U e.key) {s with heap:=h'})
  (stop:es[i]?=B->∀h',NC it s.heap h'->Q B {s with heap:=h'}):wpAny (model prog w) A (pyNext (.ref it)) Q E s:=by
 obtain⟨oi,gi,ci,di⟩:=id hit;refine Ix (Ln (JR (name:=JM "__next__") hit.typeIs O1 (Jx O1 hit.typeIs F.entry_dict_keyiterator_next ?_ (F.args_dict_keyiterator_next_1 _))))
 refine Ix (Iy (Ix (Ix ?_)))
 first|refine Ix (MC hit.typeIs (Iy ?_))|refine Ix (Ni hit.typeIs (Iy ?_))
 refine Ix (MS gi di ?_)
 refine Ix (Iy (Ix (Nb ho hdat ?_)))
 rw[if_neg (by simp)]
 refine Ix (Iy (Ix (wpAny_dictEpoch ho hdat ?_)))
 rw[if_neg (by simp)]
 refine Iy ?_
 by_cases hlt:i<es.size
 ·have hx:=JN hlt
  simp only[show ¬((i:Int)<0) from by lia,if_false,Kd,hx]
  refine Ix ?_
  first|refine Ix (MC hit.typeIs (Iy ?_))|refine Ix (Ni hit.typeIs (Iy ?_))
  refine Ix (wpAny_isOneOf_keyiter hit.typeIs ?_)
  change wpAny _ _ (setField (.ref it) 1 (rawInt ((i:Int)+1)) >>= _) _ _ s;have nx:(s.heap.update it (Ms (·.setIfInBounds 1 (rawInt ((i:Int)+1))))).IsKeyIter it d (i+1) es.size ep:=⟨_,IY _ gi (K7 (JO di _)),(Mj ..).trans ci,by rw[JO di];rfl⟩
  refine Ix (KZ gi di (by simp) (Ix (Jg (Ix (wpAny_isOneOf_keyiter (s:={s with heap:=s.heap.update it (Ms (·.setIfInBounds 1 (rawInt ((i:Int)+1))))}) nx.typeIs ?_)))))
  exact Iy (Iy ⟨_,rfl,Iy (item _ hx _ nx (Jw ..))⟩)
 ·have hx:es[i]?=B:=Lu (by lia)
  simp only[show ¬((i:Int)<0) from by lia,if_false,Kd,hx]
  refine Ix ?_
  first|refine Ix (MC hit.typeIs (Iy ?_))|refine Ix (Ni hit.typeIs (Iy ?_))
  change wpAny _ _ (setField (.ref it) 0 .none >>= _) _ _ s;refine Ix (KZ gi di (by simp) ?_)
  refine Ix (Ix (JQ ?_ (by size_fits)))
  refine Ix (m:=firstArgMember _ _) (MD (a:=Kv) (by rfl) (JQ ?_ (by size_fits)))
  refine Ix (Oj ?_)
  rw[show A.in1.handled=B from hh]
  refine Ix (Iy (O3 ?_))
  refine Ix (K8 (T:="StopIteration") (b:=V) ⟨_,IF _ rfl,rfl⟩ MT ?_)
  exact Iy (stop hx _ (((Jw ..).extBut.push _).push _))
theorem wL (hh:A.handled=B) (I d:IZ) (hne:d≠I) {o:N1}{es:Array N6}{ep:Nat}(hdat:o.data=.dict es ep):
  OJ prog w A I [I,d] [I] es.size (λi v=>∃e,es[i]?=U e/\v=e.key) (λi h=>h.IsKeyIter I d i es.size ep/\h.get? d=U o) where
 sub:=λb hb=>by simp_all
 frame:=λ_ _ _ st hk=>⟨st.1.at λo e=>hk I (by simp) o e,hk d (by simp) _ st.2⟩
 item:=λi s Q E hi st hQ=>hW hh st.1 st.2 hdat (λe he h' it' sb=>hQ _ h' s.toks ⟨e,he,rfl⟩ ⟨it',(sb.2 d hne).trans st.2⟩ λb o hb e=>(sb.2 b (λz=>hb (by simp[z]))).trans e) λhn=>by
  simp_all
 done:=λs Q E st hQ=>hW hh st.1 st.2 hdat (λe he=>by simp_all) λ_ h' eb=>hQ h' s.toks λb o hb e=>eb b o (λz=>hb (by simp[z])) e
 self:=λ_ _ _ _ st hQ=>wpAny_pyIter_keyiter st.1 hQ
theorem sN {R:NI->IB->Prop}(hh:A.handled=B) {d S:IZ}{o:N1}{es:Array N6}{ep c₀:Nat}(hd:(d==sysModules)=Y) (ho:s.heap.get? d=U o) (hc:o.ExactDict) (hdat:o.data=.dict es ep) (hn:es.size<=sizeLine) (res:IA)
  (hS:s.heap.get? S=U {cls:=.type "list",data:=.seq #[] c₀})
  (hR:∀h' tk acc' c',(∀b o,b≠S->s.heap.get? b=U o->h'.get? b=U o)->h'.get? S=U {cls:=.type "list",dict:=B,data:=.seq acc' c',slots:=#[]}->ItemsOf (λi v=>∃e,es[i]?=U e/\v=e.key) acc' es.size->R (.ok (.ret res)) {s with heap:=h',toks:=tk}):
  wpAny (model prog w) A.in1 (Lr (.ref S) (.ref d) res)
   (λfin s'=>match fin with|.done f=>R (.ok f) s'|.again c'=>c'.quiet=V/\codeAny (model prog w) A c' R s') (λe s'=>R (.error e) s') s:=by
 have ty:s.TypeIs (.ref d) "dict":=⟨o,ho,hc.1⟩;have nSd:S≠d:=λe=>by lia
 have nSI:=Ji (IJ hS);have ndI:=Ji (IJ ho);have nSf:S∉[s.heap.objs.size,d]:=λhm=>by
  simp_all
 refine Ix (LH ty ?_)
 simp only[show KL (.ref S) (.ref d)=Y by simp[KL,nSd],show(Ki "dict"==Ki "list")=Y by decide,show(Ki "dict"==Ki "tuple")=Y by decide,Pa,IT,if_false]
 refine Ix (pU hd ho hc hdat (Ix (Jg ?_)))
 have ho1:(s.heap.push {cls:=.type "dict_keyiterator",data:=.fields #[.ref d,.int 0 0,.int es.size 0,.int ep 0]}).get? d=U o:=Iz _ ho
 have ty1:LY {s with heap:=s.heap.push {cls:=.type "dict_keyiterator",data:=.fields #[.ref d,.int 0 0,.int es.size 0,.int ep 0]}} (.ref d) "dict":=⟨o,ho1,hc.1⟩
 refine Ix (K3 ty1 F.slot_dict_len.lookup ?_)
 refine Ix (K8 ty1 (b:=V) (by rfl) ?_)
 refine Ix (LH ty1 (Iy ?_))
 have hS1:(s.heap.push {cls:=.type "dict_keyiterator",data:=.fields #[.ref d,.int 0 0,.int es.size 0,.int ep 0]}).get? S=U {cls:=.type "list",data:=.seq #[] c₀}:=Iz _ hS
 refine Ix (Kf (Ix ?_))
 have hS2:=IY (Jc (·.push Kv)) hS1 rfl
 refine Ix (J4 hS1 rfl (J4 (hz:=by seq_fits) hS2 rfl ?_))
 have hS3:=IY (Jc (·.pop)) hS2 rfl
 have oth:∀b o,b≠S->(s.heap.push {cls:=.type "dict_keyiterator",data:=.fields #[.ref d,.int 0 0,.int es.size 0,.int ep 0]}).get? b=U o->(((s.heap.push {cls:=.type "dict_keyiterator",data:=.fields #[.ref d,.int 0 0,.int es.size 0,.int ep 0]}).update S (Jc (·.push Kv))).update S (Jc (·.pop))).get? b=U o:=
  λb o hb e=>(IP _ _ (Jb hb)).trans ((IP _ _ (Jb hb)).trans e)
 refine Iy ⟨JT MK _,codeAny_extend_loopS (wL (A:=A.in1) (show A.in1.handled=B from hh) s.heap.objs.size d ndI hdat).toS hn _ nSf _ es.size 0 _ _ _ rfl (Jf _) ⟨⟨_,oth _ _ (Jb nSI) (IF _ rfl),rfl,rfl⟩,oth _ _ (Jb nSd) ho1⟩ hS3 (ItemsOf.nil _) λs' acc' c' hm hS' hacc=>?_⟩
 rw[Moved.eq_with hm];refine hR s'.heap s'.toks acc' c' (λb ob hb e=>hm.heap b ob (λhmem=>?_) (oth b ob hb (Iz _ e))) hS' hacc
 rcases List.mem_cons.mp hmem with e'|hmem
 ·exact hb e'
 ·rw[List.mem_singleton.mp hmem]at e;exact absurd (IJ e) (JV _)
theorem lU {Q:IA->IB->Prop}(hh:A.handled=B) {d:IZ}{o:N1}{es:Array N6}{ep:Nat}(hd:(d==sysModules)=Y) (ho:s.heap.get? d=U o) (hc:o.ExactDict) (hdat:o.data=.dict es ep) (hn:es.size<=sizeLine)
  (hQ:∀h' tk acc' c',(∀b o,s.heap.get? b=U o->h'.get? b=U o)->h'.get? s.heap.objs.size=U {cls:=.type "list",dict:=B,data:=.seq acc' c',slots:=#[]}->ItemsOf (λi v=>∃e,es[i]?=U e/\v=e.key) acc' es.size->Q (.ref s.heap.objs.size) {s with heap:=h',toks:=tk}):
  wpAny (model prog w) A (call (.type "list") [.ref d]) Q E s:=by
 refine Pz (Q₁:=λobj s₁=>obj=.ref s.heap.objs.size/\s₁={s with heap:=s.heap.push {cls:=.type "list",data:=.seq #[]}}) F.called_list (F.typeCall_list_1 _) F.entry_list_init (code_list_new _ ⟨rfl,rfl⟩) λobj s₁ h₁=>?_
 obtain⟨rfl,rfl⟩:=h₁;have hS:(s.heap.push {cls:=.type "list",data:=.seq #[]}).get? s.heap.objs.size=U {cls:=.type "list",data:=.seq #[]}:=IF _ rfl
 refine⟨⟨_,hS,rfl⟩,F.args_list_init_2 _ _,?_⟩
 refine Ix ?_
 refine Ix (JI hS rfl (Iy ?_))
 have hS2:=IY (Jc (λ_=>(#[]:Array IA))) hS rfl
 have up:∀b ob,s.heap.get? b=U ob->((s.heap.push {cls:=.type "list",data:=.seq #[]}).update s.heap.objs.size (Jc (λ_=>(#[]:Array IA)))).get? b=U ob:=λb ob e=>(IP _ _ (Jb (Ji (IJ e)))).trans (Iz _ e)
 refine Ix (J4 hS rfl (Ix (K0 ?_)))
 exact sN (A:=A.in1) hh hd (up d o ho) hc hdat hn .none hS2 λh' tk acc' c' hk hS' hacc=>⟨rfl,hQ h' tk acc' c' (λb ob e=>hk b ob (Ji (IJ e)) (up b ob e)) hS' hacc⟩
end
open PySem.W in
section
open PySem.W
theorem fY:entryFor table "dict.update.loop"=U L5.«dict.update.loop»:=entryFor_of_tree (by kernel_rfl)
theorem gu:plainId "dict.update.loop"=V:=by decide +kernel
theorem yx:typeLookup (.type "list") "keys"=pure B:=by rfl
theorem CY {prog:J9}{w:KB}{A:Jj}{E:IA->IB->Prop}{s:IB}{a:IZ}{o:N1}{xs:Array IA}{k:Nat}{Q:Option IA->IB->Prop}
  (hx:s.heap.get? a=U o) (hc:o.cls=.type "list") (hdat:o.data=.seq xs k) (hd:o.dict=B) (hA:A.handled=B)
  (h:∀h' tk,(∀b o,s.heap.get? b=U o->h'.get? b=U o)->Q B {s with heap:=h',toks:=tk}):wpAny (model prog w) A (getAttr? (.ref a) "keys") Q E s:=by
 obtain⟨c,dct,dat,sl⟩:=o;simp only at hc hdat hd;subst hc hdat hd;obtain⟨hp,g,d,tk,os⟩:=s;have hT:∀tk',(⟨hp,g,d,tk',os⟩:IB).TypeIs (.ref a) "list":=λ_=>⟨_,hx,rfl⟩
 have f1:=sub_AttributeError;have f3:=F.slot_list_getattribute.lookup;have f4:=F.slot_list_getattribute.bind (.ref a);have f5:=am_list_getattr_none;unfold getAttr? getAttrBy? getAttrBy
 repeat (any_goals (first|assumption|exact hT _|((with_reducible show wpAny _ _ (call (OY "list.__getattribute__") _ _) _ _ _);refine NH F.slot_list_getattribute (hT _) am_entry_list_getattribute (F.args_list_getattribute_2 _ _) (meets_getattribute_miss_list a xs k sl _ _ yx (by decide) (by decide)) ⟨hx,hA,λh' tk' e hx'=>?_⟩)|wp_step))
 obtain⟨t',u',he⟩:=hx'.there;show wpAny _ _ (getattributeRaised _ _ _ _ _ _ _) _ _ _;unfold getattributeRaised
 repeat (any_goals (first|assumption|wp_step))
 exact h _ _ hx'.keeps
end
section
variable{X:Cx}{M M':Mp}{δ:DEnv}{s:IB}{tg a:Expr}{fa:DEnv->Option D}{m m' bb:Bool}{p pos:Ov}
theorem yE (hh:A.handled=B) (q:Rd m M c o) (dc:DcO bb o ks us vs) (he:o.data=.dict es ep) (rk:Rs m M ks us):FD A tg m M ks [it] it (λi h=>h.IsKeyIter it c i es.size ep) where
 ex:=λ⟨o,e,_⟩ b hb=>by
   obtain rfl:b=it:=by simpa using hb
   exact⟨o,e⟩
 keep:=λst k=>st.at λo e=>k it (by simp) o e
 item:=λ{i s d} st h e=>by
  obtain⟨l1,l2,l3,ha⟩:=dc.at he;obtain⟨u,h1,h2⟩:=rk.get e;refine hW hh st (h _ _ q) he (λen hen h' st' sb=>?_) λhn=>?_
  ·have:=(ha i).2.1
   rw[hen,h1]at this;injection this with this;subst this
   obtain⟨o,e,c,d⟩:=id st';exact⟨_,rfl,AC (s:={s with heap:=h'}) e c d (by decide) ⟨ox (t:=s.toks) sb,st',.inl h2⟩⟩
  ·have:=(ha i).2.1;rw[hn,h1]at this;cases this
 done:=λ{s} st h=>by
  obtain⟨l1,l2,l3,ha⟩:=dc.at he;exact hW hh st (h _ _ q) he (λen hen=>by rw[Lu (by lia)]at hen;cases hen) λhn h' eb=>⟨rfl,q8 eb⟩
 self:=λst h=>wpAny_pyIter_keyiter st h
theorem vH (h:yA x=U ks):∃vs,x=U (.dD ks vs):=by unfold yA at h;split at h<;>simp_all
theorem Do (h:DE X m a fa):DI X m tg a (λδ=>yA (fa δ)):=⟨h.pl,λI e k=>by
 obtain⟨vs,e⟩:=vH e;refine h.ev I e λv s1 M1 x1 I1 r=>?_
 obtain⟨c,o,us,vs,rfl,q,dc,rk,rs⟩:=r;obtain⟨_,hc,_,_,es,ep,he,_⟩:=id dc;exact pU (I1.nsys q) (q.heap I1.heap) hc he (k _ _ _ _ _ x1 (I1.push (t:=s1.toks)) (yE I.ok.room.hd q dc he rk) ⟨_,IF _ rfl,rfl,rfl⟩ (zQ I1))⟩
theorem A2 {us:List IA}{acc:Array IA}{P:Nat->IA->Prop}(h:ItemsOf P acc us.length) (hp:∀i v,P i v->us[i]?=U v):acc=us.toArray:=by
 refine Array.ext_getElem? λi=>?_
 by_cases hi:i<acc.size
 ·rw[JN hi,LF,hp i _ (h.2 i _ (JN hi))]
 ·have:=h.1;rw[Lu (by lia),Lu (by simp;lia)]
set_option tactic.hygienic true in
theorem BH (g:Bn X "list") (ha:DE X Y a fa):DF X (.Call (.Name "list" p) [a] [] pos) (λδ=>yp (fa δ)):=⟨rfl,λ{M δ s d Q} I e k=>by
 unfold yp at e;split at e<;>cases e
 rename_i ks ds q0;refine eX g (by rfl:bootBuiltins "list"=U (.type "list")) ha I q0 λv s1 M1 x1 I1 r=>?_
 obtain⟨c,o,us,vs,rfl,q,dc,rk,rs⟩:=r;obtain⟨hz,hc,_,_,es,ep,he,_⟩:=id dc;obtain⟨l1,l2,l3,at'⟩:=dc.at he;refine lU I.ok.room.hd (I1.nsys q) (q.heap I1.heap) hc he (by lia) λh' tk acc c' hk hS hacc=>?_
 rw[show es.size=us.length by lia]at hacc
 have e:=A2 hacc λi v ⟨en,z1,z2⟩=>by have:=(at' i).2.1;rw[z1]at this;rw[<-this,z2];rfl
 subst e;exact k _ _ {s1 with heap:=h',toks:=tk} M1 x1 (I1.kp hk) (I1.fresh (IM _)) hS ⟨us,⟨by lia,c',rfl⟩,rk⟩⟩
theorem rR (h:ud d=U (k,v)):d=.tup [k,v]/\kOk V k=V:=by
 unfold ud at h;split at h<;>try cases h
 split at h<;>cases h
 exact⟨rfl,lH (by assumption)⟩
set_option tactic.hygienic true in
theorem vJ {X:Cx}{δ:DEnv}{A:Jj}{d l it:IZ}{ol:N1}{ws:List IA}{dsl:List D}{M:Mp}{R':NI->IB->Prop}(hu:A.units+40<cLine) (hh:A.handled=B) (ql:Rd Y M l ol) (tl:LstO ol ws) (rl:Rs Y M dsl ws) (hne:it≠d) (fd:Free X M d) (fi:Free X M it):
  ∀(n i:Nat) (t:Tok) (s:IB) (o:N1) (ks ds:List D) (us vs:List IA) (ps:List (D×D)),i+n=dsl.length->iG (dsl.drop i)=U ps->Inv X M δ s->s.heap.get? d=U o->DcO V o ks us vs->Rs Y M ks us->Rs Y M ds vs->ks.length+n<lim->s.heap.IsListIter it l i->
   (∀s' o' us' vs',Inv X M δ s'->s'.heap.get? d=U o'->DcO V o' (oB ks ds ps).1 us' vs'->Rs Y M (oB ks ds ps).1 us'->Rs Y M (oB ks ds ps).2 vs'->R' (.ok (.ret .none)) s')->
   codeAny (model P w) A (.builtin "dict.update.loop" ⟨[.ref d,.ref it,.int i t,.none],[]⟩) R' s:=by
 intro n
 induction n with
 |zero=>
  intro i t s o ks ds us vs ps hi hp I hd dc rk rs hl st hR;refine Jt fY ?_
  refine Ix (wpAny_pyNext_list_end hh st (tl.is I.heap ql) (by have:=rl.length;simp;lia) λh' eb=>?_)
  rw[Pq (by lia)]at hp;cases hp
  refine Ix (Iy (Iy (hR _ _ _ _ (I.ch (q8 eb) (λb hb=>by rw[List.mem_singleton.mp hb];exact fi)) (eb _ _ (Jb hne) hd) dc rk rs)))
 |succ n ih=>
  intro i t s o ks ds us vs ps hi hp I hd dc rk rs hl st hR;refine Jt fY ?_
  have hip:i<dsl.length:=by lia
  rw[Jr hip]at hp;simp only[iG]at hp;split at hp<;>cases hp
  rename_i pp ps' q1 q2;obtain⟨pk,pv⟩:=pp;obtain⟨ed,hk⟩:=rR q1;obtain⟨u,hu1,ru⟩:=rl.get (i:=i) (d:=dsl[i]) (by simp[hip])
  refine Ix (wpAny_pyNext_list_item st (tl.is I.heap ql) (x:=u) (by simpa using hu1) λh' st' sb=>?_)
  have I1:Inv X M δ {s with heap:=h'}:=I.ch (ox (t:=s.toks) sb) λb hb=>by rw[List.mem_singleton.mp hb];exact fi
  rw[ed]at ru;obtain⟨b,to,tis,rfl,tq,tt,rr⟩:=ru;obtain⟨ku,vu,rfl,rk1,rv1⟩:=rr.is2;obtain⟨to,tg,tc,tn,td⟩:=tt.is I1.heap tq;refine Ix (Jg (Ix (KY ?_)))
  refine Ix (LH (show LY {s with heap:=h'} (.ref b) "tuple" from⟨_,tg,tc⟩) ?_)
  refine Ix (Ix (NE tg ?_))
  rw[td];refine Iy (Iy ?_)
  have hlim:=aw (IM lim);refine Jg (Hb (s:={s with heap:=h'}) (show A.units+1+30<cLine by lia) I1.heap ((sb.2 d (Jb hne)).trans hd) dc rk hk rk1 (by lia) λh2 tk o2 hs2 g2 dc2=>?_)
  refine Iy ⟨JT gu _,?_⟩
  have hlen:(bH pk ks).length<=ks.length+1:=by unfold bH;split<;>simp
  refine ih (i+1) 0 _ o2 (bH pk ks) (kh pk pv ks ds) _ _ ps' (by lia) q2 (I1.wr (s':={s with heap:=h2,toks:=tk}) [d] (λb hb=>by rw[List.mem_singleton.mp hb];exact fd) λb o hb e=>(hs2.2 b (λz=>hb (by simp[z]))).trans e) g2 dc2 (qZ rk rk1) (xe rs rv1) (by lia) ?_ hR
  obtain⟨o,ho,hc,hd'⟩:=st';exact⟨o,(hs2.2 it hne).trans ho,hc,hd'⟩
set_option tactic.hygienic true in
theorem AB (g:Bn X "dict") (ha:DE X Y a fa):DF X (.Call (.Name "dict" p) [a] [] pos) (λδ=>jR (fa δ)):=⟨rfl,λ{M δ s d Q} I e k=>by
 unfold jR at e;split at e<;>try cases e
 split at e<;>try cases e
 split at e<;>cases e
 rename_i ds q0 _ ps qp hl;refine eX g (by rfl:bootBuiltins "dict"=U (.type "dict")) ha I q0 λv s1 M1 x1 I1 r=>?_
 obtain⟨l,ol,ws,rfl,ql,tl,rl⟩:=r;have hh:=I.ok.room.hd;have un:=I1.un;refine Pz (Q₁:=λobj s₁=>obj=.ref s1.heap.objs.size/\s₁={s1 with heap:=s1.heap.push {cls:=.type "dict",data:=.dict #[]}}) F.kt_called_dict (F.kt_typeCall_dict_1 _) F.entry_dict_init (kt_code_dict_new _ ⟨rfl,rfl⟩) ?_
 rintro obj s₁ ⟨rfl,rfl⟩
 have fd:=I1.fresh (IM _);have I2:Inv X M1 δ {s1 with heap:=s1.heap.push {cls:=.type "dict",data:=.dict #[]}}:=I1.push (t:=s1.toks)
 have hT:LY {s1 with heap:=s1.heap.push {cls:=.type "dict",data:=.dict #[]}} (.ref s1.heap.objs.size) "dict":=⟨_,IF _ rfl,rfl⟩
 obtain⟨n,hol⟩:=tl.obj I2.heap ql;refine⟨hT,F.args_dict_init_2 _ _,?_⟩
 refine Ix (Ix (Le hT (Iy ?_)))
 refine Ix (LH (show LY {s1 with heap:=s1.heap.push {cls:=.type "dict",data:=.dict #[]}} (.ref l) "list" from⟨_,hol,rfl⟩) ?_)
 refine Ix (CY hol rfl rfl rfl (by simp[hh]) λh2 tk2 kp2=>?_)
 have I3:Inv X M1 δ {s1 with heap:=h2,toks:=tk2}:=I2.kp kp2
 refine Ix (Kf (Ix (KO (tl.is I3.heap ql) (Iy ⟨JT gu _,?_⟩))))
 have hd2:=kp2 _ _ (IF (h:=s1.heap) (o:={cls:=.type "dict",data:=.dict #[]}) rfl)
 refine vJ (X:=X) (δ:=δ) (A:=X.A.in1) (show X.A.units+1+40<cLine by lia) (by simp[hh]) ql tl rl (Lx (IJ hd2)) fd (I3.fresh (IM _)) ds.length 0 0 _ _ [] [] [] [] ps (by lia) (by simpa using qp) (I3.push (t:=tk2)) (Iz _ hd2) qI rfl rfl (by simpa using hl) ⟨_,IF _ rfl,rfl,rfl⟩ λs' o' us' vs' I' g' dc' rk' rs'=>?_
 exact⟨rfl,k _ _ _ _ x1 I' fd g' ⟨us',vs',dc',rk',rs'⟩⟩⟩
end
end L2
namespace L2
open PySem PySem.Spec PyProof.Rows Md
noncomputable def ItAt (t:Bool) (h:Kl) (c q:IZ) (n:Nat):Prop:=if t=V then h.IsTupleIter c q n else h.IsListIter c q n
noncomputable def SqAt (t:Bool) (h:Kl) (q:IZ) (vs:Array IA):Prop:=if t=V then h.IsTuple q vs else h.IsList q vs
theorem ItAt.obj {t:Bool}{h:Kl}{c q:IZ}{n:Nat}(x:ItAt t h c q n):∃o,h.get? c=U o/\o.cls=.type (if t=V then "tuple_iterator" else "list_iterator")/\o.data=.fields #[.ref q,.int n 0]:=by
 cases t<;>exact x
theorem ItAt.to {t:Bool}{h h':Kl}{c q:IZ}{n:Nat}(x:ItAt t h c q n) (k:∀o,h.get? c=U o->h'.get? c=U o):ItAt t h' c q n:=by
 cases t<;>(obtain⟨o,e,r⟩:=x;exact⟨o,k o e,r⟩)
theorem SqAt.to {t:Bool}{h h':Kl}{q:IZ}{vs:Array IA}(x:SqAt t h q vs) (k:∀o,h.get? q=U o->h'.get? q=U o):SqAt t h' q vs:=by
 cases t<;>(obtain⟨o,e,r⟩:=x;exact⟨o,k o e,r⟩)
section
variable{prog:J9}{w:KB}{A:Jj}{E:IA->IB->Prop}{s:IB}
theorem Ac {c q:IZ}{n:Nat}{vs:Array IA}{Q:IA->IB->Prop}(hh:A.handled=B) (hc:s.heap.IsTupleIter c q n) (hq:s.heap.IsTuple q vs)
  (some':∀v,vs[n]?=U v->∀h',h'.IsTupleIter c q (n+1)->JX c s.heap h'->Q v {s with heap:=h'})
  (none':vs[n]?=B->∀h' e,NC c s.heap h'->(∃o,h'.get? e=U o/\o.cls=.type "StopIteration")->E (.ref e) {s with heap:=h'}):
  wpAny (model prog w) A (Nv (.ref c)) Q E s:=by
 have ty:=hc.typeIs;obtain⟨oc,gc,kc,dc⟩:=hc;obtain⟨oq,gq,_,m,dq⟩:=hq;refine Ix (JR (name:=JM "__next__") ty Pj (Jx Pj ty F.entry_tuple_iterator_next ?body (F.args_tuple_iterator_next_1 _)))
 change wpAny _ _ (field (.ref c) 0 >>= _) _ E s;refine Ix (LB gc dc (x:=.ref q) rfl ?_)
 refine Ix (LB gc dc (x:=.int n 0) rfl (Ix (JI gq dq ?_)))
 simp only[Kd]
 rcases hv:vs[n]? with _|v
 ·refine Ix (Kf (Ix (KZ gc dc (by simp) (Ix (Ix (JQ ?_ (by size_fits)))))))
  refine Ix (m:=firstArgMember _ _) (MD (a:=Kv) (by rfl) (JQ ?_ (by size_fits)))
  refine Ix (Oj ?_)
  rw[show A.in1.handled=B from hh]
  exact Ix (Iy (O3 (none' hv _ _ (((Jw ..).extBut.push _).push _) ⟨_,IF _ rfl,rfl⟩)))
 ·refine Ix (KZ gc dc (by simp) (Iy ⟨v,rfl,Iy (some' v hv _ ⟨_,IY _ gc (K7 (JO dc _)),?_,?_⟩ (Jw ..))⟩))
  ·rw[Mj];exact kc
  ·rw[JO dc];rfl
theorem GW {t:Bool}{c q:IZ}{n:Nat}{vs:Array IA}{Q:IA->IB->Prop}(hh:A.handled=B) (hc:ItAt t s.heap c q n) (hq:SqAt t s.heap q vs)
  (some':∀v,vs[n]?=U v->∀h',ItAt t h' c q (n+1)->JX c s.heap h'->Q v {s with heap:=h'})
  (none':vs[n]?=B->∀h' e,NC c s.heap h'->(∃o,h'.get? e=U o/\o.cls=.type "StopIteration")->E (.ref e) {s with heap:=h'}):
  wpAny (model prog w) A (Nv (.ref c)) Q E s:=by
 cases t with
 |true=>exact Ac hh hc hq some' none'
 |false=>
  rcases hv:vs[n]? with _|v
  ·exact wpAny_nextOf_list_end hh hc hq hv (none' hv)
  ·exact wpAny_nextOf_list_item hc hq hv (some' v hv)
end
structure Zp (t u:Bool) (h:Kl) (z P O c d p q:IZ) (n:Nat) (f:IA):Prop where
 zz:IsZip h z P O f
 pp:MZ h P (.ref c) (.ref d)
 oo:∃a b,MZ h O a b
 cc:ItAt t h c p n
 dd:ItAt u h d q n
structure Ap (z P O c d p q:IZ):Prop where
 nd:[z,P,O,c,d].Nodup
 p:p∉[z,P,O,c,d]
 q:q∉[z,P,O,c,d]
theorem ai {a b:IZ}{h h':Kl}{o:N1}(k:JX a h h') (n:b≠a) (e:h.get? b=U o):h'.get? b=U o:=(k.2 b n).trans e
section
variable{prog:J9}{w:KB}{A:Jj}{E:IA->IB->Prop}{s:IB}
theorem AX {t u:Bool}{z P O c d p q:IZ}{n:Nat}{xs ys:Array IA}{Q:IA->IB->Prop}(hh:A.handled=B) (ap:Ap z P O c d p q) (Z:Zp t u s.heap z P O c d p q n .none)
  (hp:SqAt t s.heap p xs) (hq:SqAt u s.heap q ys)
  (item:∀x y,xs[n]?=U x->ys[n]?=U y->∀h',Zp t u h' z P O c d p q (n+1) (rawInt s.heap.objs.size)->MZ h' s.heap.objs.size x y->h'.objs.size=s.heap.objs.size+1->
   (∀b o,b∉[z,P,O,c,d]->s.heap.get? b=U o->h'.get? b=U o)->Q (.ref s.heap.objs.size) {s with heap:=h'})
  (stop:(xs[n]?=B\/ys[n]?=B)->∀h' e,(∀b o,b∉[z,P,O,c,d]->s.heap.get? b=U o->h'.get? b=U o)->(∃o,h'.get? e=U o/\o.cls=.type "StopIteration")->E (.ref e) {s with heap:=h'}):
  wpAny (model prog w) A (L5.«zip.__next__» ⟨[.ref z],[]⟩) (λr s'=>∃v,r=.done (.ret v)/\Q v s') E s:=by
 obtain⟨zz,pp,⟨a,b,oo⟩,cc,dd⟩:=Z;have nd:=ap.nd;have np:=ap.p;have nq:=ap.q;simp only[Mw,Jo,JE,or_false,not_or,Kc,and_true,not_false_eq_true]at nd np nq;obtain⟨⟨zP,zO,zc,zd⟩,⟨PO,Pc,Pd⟩,⟨Oc,Od⟩,cd⟩:=nd;obtain⟨pz,pP,pO,pc,pd⟩:=np;obtain⟨qz,qP,qO,qc,qd⟩:=nq;change wpAny _ _ (field (.ref z) 2 >>= _) _ E s;refine Ix (LB zz rfl (x:=.bool Y) rfl ?_)
 refine Ix (LB zz rfl (x:=.ref P) rfl (Ix (JI pp rfl ?_)))
 refine Ix (Ix (LB zz rfl (x:=.none) rfl (Iy ?_)))
 refine Ix (Kf (Ix (LB zz rfl (x:=.ref O) rfl (Ix (Lb zz (by simp) λk₁ g₁ m₁=>Ix ?_)))))
 have z₁:=g₁;refine Ix (Ix (wpAny_onRaise ?_))
 refine Ix (GW (t:=t) hh (cc.to λo e=>ai m₁ (Jb zc) e) (hp.to λo e=>ai m₁ pz e) (λx hx k₂ c₂ m₂=>Iy ?_) λhx k₂ e m₂ he=>?_)
 ·have o₂:=ai m₂ Oc (ai m₁ (Jb zO) oo)
  refine Ix (JI o₂ rfl (Ix (wpAny_updateSeq_pair o₂ λk₃ g₃ m₃=>Ix (K0 (Iy ?_)))))
  have o₃:=g₃;refine Ix (Ix (wpAny_onRaise ?_))
  refine Ix (GW (t:=u) hh (dd.to λo e=>ai m₃ (Jb Od) (ai m₂ (Jb cd) (ai m₁ (Jb zd) e))) (hq.to λo e=>ai m₃ qO (ai m₂ qc (ai m₁ qz e))) (λy hy k₄ d₄ m₄=>Iy ?_) λhy k₄ e m₄ he=>?_)
  ·have o₄:=ai m₄ Od o₃
   refine Ix (JI o₄ rfl (Ix (wpAny_updateSeq_pair o₄ λk₅ g₅ m₅=>Ix (K0 (Iy (Iy ?_))))))
   have o₅:MZ k₅ O x y:=g₅;have old:∀f o,f≠z->f≠O->f≠c->f≠d->s.heap.get? f=U o->k₅.get? f=U o:=λf o n1 n2 n3 n4 e=>ai m₅ n2 (ai m₄ n4 (ai m₃ n2 (ai m₂ n3 (ai m₁ n1 e))))
   have sz:k₅.objs.size=s.heap.objs.size:=by rw[m₅.1,m₄.1,m₃.1,m₂.1,m₁.1]
   have z₅:=ai m₅ zO (ai m₄ zd (ai m₃ zO (ai m₂ zc z₁)));refine Ix (JI o₅ rfl (Ix (NX ?_)))
   have z₆:IsZip (k₅.push {cls:=.type "tuple",data:=.seq #[x,y]}) z P O .ellipsis:=Iz _ z₅
   refine Ix (Ix (Lb z₆ (by simp) λk₇ g₇ m₇=>?_))
   have z₇:=g₇;refine Lb z₇ (by simp) λk₈ g₈ m₈=>Iy ⟨_,rfl,?_⟩
   have z₈:=g₈;have up:∀f o,f≠z->k₅.get? f=U o->k₈.get? f=U o:=λf o n1 e=>ai m₈ n1 (ai m₇ n1 (Iz _ e))
   have lz:=IJ z₅;have new:=ai m₈ (Lx lz) (ai m₇ (Lx lz) (IF _ rfl))
   have sz8:k₈.objs.size=k₅.objs.size+1:=by rw[m₈.1,m₇.1,JG]
   rw[sz]at z₈ new sz8⊢;refine item x y hx hy k₈ ⟨z₈,up _ _ (Jb zP) (old _ _ (Jb zP) PO Pc Pd pp),⟨x,y,up _ _ (Jb zO) o₅⟩,?_,?_⟩ new sz8 λf o hf e=>?_
   ·exact c₂.to λo e=>up _ o (Jb zc) (ai m₅ (Jb Oc) (ai m₄ cd (ai m₃ (Jb Oc) e)))
   ·exact d₄.to λo e=>up _ o (Jb zd) (ai m₅ (Jb Od) e)
   simp_all
  ·obtain⟨oe,ge,ke⟩:=he
   have z₄:=m₄ _ _ zd (ai m₃ zO (ai m₂ zc z₁));have ez:e≠z:=λr=>by lia
   refine Lb z₄ (by simp) λk₅ _ m₅=>stop (.inr hy) k₅ e (λf o hf g=>?_) ⟨oe,ai m₅ ez ge,ke⟩
   simp only[Jo,JE,or_false,not_or]at hf;obtain⟨n1,_,n2,n3,n4⟩:=hf;exact ai m₅ n1 (m₄ _ _ n4 (ai m₃ n2 (ai m₂ n3 (ai m₁ n1 g))))
 ·obtain⟨oe,ge,ke⟩:=he
  have z₂:=m₂ _ _ zc z₁;have ez:e≠z:=λr=>by lia
  refine Lb z₂ (by simp) λk₃ _ m₃=>stop (.inl hx) k₃ e (λf o hf g=>?_) ⟨oe,ai m₃ ez ge,ke⟩
  simp only[Jo,JE,or_false,not_or]at hf;exact ai m₃ hf.1 (m₂ _ _ hf.2.2.2.1 (ai m₁ hf.1 g))
end
section
variable{prog:J9}{w:KB}{A:Jj}{E:IA->IB->Prop}{s:IB}
theorem nN {t u:Bool}{z P O c d p q:IZ}{n:Nat}{xs ys:Array IA}{Q:Option IA->IB->Prop}(hh:A.handled=B) (ap:Ap z P O c d p q) (Z:Zp t u s.heap z P O c d p q n .none)
  (hp:SqAt t s.heap p xs) (hq:SqAt u s.heap q ys)
  (item:∀x y,xs[n]?=U x->ys[n]?=U y->∀h',Zp t u h' z P O c d p q (n+1) (rawInt s.heap.objs.size)->MZ h' s.heap.objs.size x y->h'.objs.size=s.heap.objs.size+1->
   (∀b o,b∉[z,P,O,c,d]->s.heap.get? b=U o->h'.get? b=U o)->Q (U (.ref s.heap.objs.size)) {s with heap:=h'})
  (stop:(xs[n]?=B\/ys[n]?=B)->∀h',(∀b o,b∉[z,P,O,c,d]->s.heap.get? b=U o->h'.get? b=U o)->Q B {s with heap:=h'}):
  wpAny (model prog w) A (pyNext (.ref z)) Q E s:=by
 have ty:s.TypeIs (.ref z) "zip":=⟨_,Z.zz,rfl⟩;refine Ix (Ln (JR (name:=JM "__next__") ty ND (Jx ND ty F.entry_zip_next (AX hh ap Z hp hq (λx y hx hy h' b1 b2 b3 b4=>Iy (item x y hx hy h' b1 b2 b3 b4)) λhn h' e k he=>?_) (F.args_zip_next_1 _))))
 obtain⟨o,ho,hc⟩:=he;exact Ix (K8 (T:="StopIteration") (b:=V) ⟨o,ho,hc⟩ MT (Iy (stop hn h' k)))
end
noncomputable def itO (t:Bool) (p:IZ):N1:={cls:=.type (if t=V then "tuple_iterator" else "list_iterator"),data:=.fields #[.ref p,.int 0 0]}
theorem iD {prog:J9}{w:KB}{A:Jj}{E:IA->IB->Prop}{s:IB}{t:Bool}{p:IZ}{xs:Array IA}{Q:IA->IB->Prop}(hp:SqAt t s.heap p xs) (h:Q (.ref s.heap.objs.size) {s with heap:=s.heap.push (itO t p)}):wpAny (model prog w) A (pyIter (.ref p)) Q E s:=by
 cases t with
 |true=>exact wpAny_pyIter_tuple hp h
 |false=>exact KO hp h
noncomputable def zO (a b:IA):N1:={cls:=.type "tuple",data:=.seq #[a,b]}
noncomputable def FH (t u:Bool) (h:Kl) (p q:IZ):Kl:=
 ((((h.push (itO t p)).push (itO u q)).push (zO (.ref h.objs.size) (.ref (h.push (itO t p)).objs.size))).push (zO .none .none)).push
  {cls:=.type "zip",data:=.fields #[.none,.bool Y,.bool Y,.ref ((h.push (itO t p)).push (itO u q)).objs.size,.ref (((h.push (itO t p)).push (itO u q)).push (zO (.ref h.objs.size) (.ref (h.push (itO t p)).objs.size))).objs.size]}
theorem EG (t u:Bool) (p q:IZ) (xs ys:Array IA):
  Meets (L5.«zip.__new__» ⟨[.type "zip",.ref p,.ref q],[]⟩) (λ_ R s=>SqAt t s.heap p xs/\SqAt u s.heap q ys/\
   R (.ok (.ret (.ref (((((s.heap.push (itO t p)).push (itO u q)).push (zO (.ref s.heap.objs.size) (.ref (s.heap.push (itO t p)).objs.size))).push (zO .none .none)).objs.size)))) {s with heap:=FH t u s.heap p q}):=
 .of_wp λprog w A R s h=>by
  obtain⟨hp,g,d,tk,os⟩:=s;obtain⟨h1,h2,h⟩:=h;have hsub:=sub_zip;have k1:=h1;have k2:SqAt u (Shared.heap ⟨hp.push (itO t p),g,d,tk,os⟩) q ys:=h2.to λo e=>Iz _ e
  wp_walk using iD k1,iD k2
  exact⟨_,rfl,h⟩
theorem Ab {prog:J9}{w:KB}{A:Jj}{E:IA->IB->Prop}{s:IB}{t u:Bool}{p q:IZ}{xs ys:Array IA}{Q:IA->IB->Prop}(hp:SqAt t s.heap p xs) (hq:SqAt u s.heap q ys)
  (h:∀z P O c d h',Ap z P O c d p q->Zp t u h' z P O c d p q 0 .none->(∀b∈[z,P,O,c,d],s.heap.objs.size<=b)->(∀b o,s.heap.get? b=U o->h'.get? b=U o)->Q (.ref z) {s with heap:=h'}):
  wpAny (model prog w) A (call (.type "zip") [.ref p,.ref q]) Q E s:=by
 refine callType_new F.called_zip (by decide) (F.typeCall_zip_2 _ _) (F.newCall_zip_2 _ _) (λobj=>F.args_object_init_3 obj _ _) F.entry_zip_new (EG t u p q xs ys) ⟨hp,hq,?_⟩
 have lp:p<s.heap.objs.size:=by cases t<;>(obtain⟨o,e,_⟩:=hp;exact IJ e)
 have lq:q<s.heap.objs.size:=by cases u<;>(obtain⟨o,e,_⟩:=hq;exact IJ e)
 generalize e1:s.heap.push (itO t p)=k1;generalize e2:k1.push (itO u q)=k2;generalize e3:k2.push (zO (.ref s.heap.objs.size) (.ref k1.objs.size))=k3;generalize e4:k3.push (zO .none .none)=k4;have hL:FH t u s.heap p q=k4.push {cls:=.type "zip",data:=.fields #[.none,.bool Y,.bool Y,.ref k2.objs.size,.ref k3.objs.size]}:=by unfold FH;rw[e1,e2,e3,e4]
 have s1:k1.objs.size=s.heap.objs.size+1:=by rw[<-e1];exact JG ..
 have s2:k2.objs.size=s.heap.objs.size+2:=by rw[<-e2,JG,s1]
 have s3:k3.objs.size=s.heap.objs.size+3:=by rw[<-e3,JG,s2]
 have s4:k4.objs.size=s.heap.objs.size+4:=by rw[<-e4,JG,s3]
 have u1:∀{b o},s.heap.get? b=U o->k1.get? b=U o:=λe=>by rw[<-e1];exact Iz _ e
 have u2:∀{b o},k1.get? b=U o->k2.get? b=U o:=λe=>by rw[<-e2];exact Iz _ e
 have u3:∀{b o},k2.get? b=U o->k3.get? b=U o:=λe=>by rw[<-e3];exact Iz _ e
 have u4:∀{b o},k3.get? b=U o->k4.get? b=U o:=λe=>by rw[<-e4];exact Iz _ e
 have u5:∀{b o},k4.get? b=U o->(FH t u s.heap p q).get? b=U o:=λe=>by rw[hL];exact Iz _ e
 have z5:IsZip (FH t u s.heap p q) k4.objs.size k2.objs.size k3.objs.size .none:=by rw[hL];exact IF _ rfl
 have o5:=u5 (by rw[<-e4];exact IF _ rfl)
 have p5:=u5 (u4 (by rw[<-e3];exact IF _ rfl))
 have d5:=u5 (u4 (u3 (by rw[<-e2];exact IF _ rfl)))
 have c5:=u5 (u4 (u3 (u2 (by rw[<-e1];exact IF _ rfl))))
 refine⟨⟨_,z5,rfl⟩,h k4.objs.size k2.objs.size k3.objs.size s.heap.objs.size k1.objs.size _ ⟨?_,?_,?_⟩ ⟨z5,p5,⟨_,_,o5⟩,?_,?_⟩ ?_ λb o e=>u5 (u4 (u3 (u2 (u1 e))))⟩
 ·rw[s1,s2,s3,s4]
  simp only[Mw,Jo,JE,or_false,not_or,Kc,and_true,not_false_eq_true];refine⟨⟨?_,?_,?_,?_⟩,⟨?_,?_,?_⟩,⟨?_,?_⟩,?_⟩<;>(intro e;have e':(_:Nat)=_:=e;lia)
 ·simp;lia
 ·simp;lia
 ·cases t<;>exact⟨_,c5,rfl,rfl⟩
 ·cases u<;>exact⟨_,d5,rfl,rfl⟩
 simp;lia
noncomputable def gQ:List D->List D->List D
 |d::ds,e::es=>.tup [d,e]::gQ ds es
 |_,_=>[]
theorem qR:∀(ds es:List D) (i:Nat) (x:D),(gQ ds es)[i]?=U x->∃d e,ds[i]?=U d/\es[i]?=U e/\x=.tup [d,e]
 |[],_,i,x,h=>by trivial
 |d::ds,[],i,x,h=>by trivial
 |d::ds,e::es,0,x,h=>by simp[gQ]at h;exact⟨d,e,rfl,rfl,h.symm⟩
 |d::ds,e::es,i+1,x,h=>by simpa using qR ds es i x h
theorem iq:∀ds es:List D,(gQ ds es).length=min ds.length es.length
 |[],_=>by rfl
 |d::ds,[]=>by rfl
 |d::ds,e::es=>by simp[gQ,iq ds es]
noncomputable def Ge (t:Bool) (x:Option D):Option (List D):=if t=V then rB x else bA x
noncomputable def xI (t u:Bool) (x y:Option D):Option (List D):=ae (Ge t x) λds=>ae (Ge u y) λes=>U (gQ ds es)
noncomputable abbrev IsZ (h:Kl) (z P O:IZ) (f:IA) (b:Bool):Prop:=
 h.get? z=U {cls:=.type "zip",dict:=B,data:=.fields #[f,.bool b,.bool Y,.ref P,.ref O],slots:=#[]}
structure Zq (t u:Bool) (h:Kl) (z P O c d p q:IZ) (n:Nat) (T:IZ) (b:Bool):Prop where
 zz:IsZ h z P O (rawInt T) b
 al:∃o,h.get? T=U o
 pp:MZ h P (.ref c) (.ref d)
 oo:∃a b,MZ h O a b
 cc:ItAt t h c p n
 dd:ItAt u h d q n
section
variable{prog:J9}{w:KB}{A:Jj}{E:IA->IB->Prop}{s:IB}
theorem iW {M:Model}{A:Jj}{E:IA->IB->Prop}{s:IB}{a:IZ}{Q:Option N1->IB->Prop}(h:Q (s.heap.get? a) s):wpAny M A (loadIfAlive a) Q E s:=λΓ p _=>by
 assumption
theorem Bb {bo:Bool}{z P O T:IZ}{oT:N1}{Q:Bool->IB->Prop}(zz:IsZ s.heap z P O (rawInt T) bo) (al:s.heap.get? T=U oT) (h:∀k₁,IsZ k₁ z P O (rawInt T) V->JX z s.heap k₁->Q Y {s with heap:=k₁}):
  wpAny (model prog w) A (Builtin.SmallTypes.ownedTupleIsFree (.ref z)) Q E s:=by
 have hal:s.heap.get? (Int.toNat (T:Int))=U oT:=by rw[Kd];exact al
 refine Ix (LB zz rfl (x:=rawInt T) rfl ?_)
 refine Ix (iW ?_)
 rw[hal];refine Ix (LB zz rfl (x:=.bool bo) rfl ?_)
 cases bo with
 |true=>
  exact Iy (h _ zz ⟨rfl,λ_ _=>rfl⟩)
 |false=>
  exact Ix (Lb zz (by simp) λk₁ g₁ m₁=>Iy (h k₁ g₁ m₁))
theorem yz {t u bo:Bool}{z P O c d p q T:IZ}{n:Nat}{xs ys:Array IA}{Q:IA->IB->Prop}(hh:A.handled=B) (ap:Ap z P O c d p q) (hT:T∉[z,P,O,c,d]) (Z:Zq t u s.heap z P O c d p q n T bo)
  (hp:SqAt t s.heap p xs) (hq:SqAt u s.heap q ys)
  (item:∀x y,xs[n]?=U x->ys[n]?=U y->∀h',Zq t u h' z P O c d p q (n+1) T V->MZ h' s.heap.objs.size x y->h'.objs.size=s.heap.objs.size+1->
   (∀b o,b∉[z,P,O,c,d]->s.heap.get? b=U o->h'.get? b=U o)->Q (.ref s.heap.objs.size) {s with heap:=h'})
  (stop:(xs[n]?=B\/ys[n]?=B)->∀h' e,(∀b o,b∉[z,P,O,c,d]->s.heap.get? b=U o->h'.get? b=U o)->(∃o,h'.get? e=U o/\o.cls=.type "StopIteration")->E (.ref e) {s with heap:=h'}):
  wpAny (model prog w) A (L5.«zip.__next__» ⟨[.ref z],[]⟩) (λr s'=>∃v,r=.done (.ret v)/\Q v s') E s:=by
 obtain⟨zz,⟨oT,al⟩,pp,⟨a,b,oo⟩,cc,dd⟩:=Z;have nd:=ap.nd;have np:=ap.p;have nq:=ap.q;simp only[Mw,Jo,JE,or_false,not_or,Kc,and_true,not_false_eq_true]at nd np nq hT;obtain⟨⟨zP,zO,zc,zd⟩,⟨PO,Pc,Pd⟩,⟨Oc,Od⟩,cd⟩:=nd;obtain⟨pz,pP,pO,pc,pd⟩:=np;obtain⟨qz,qP,qO,qc,qd⟩:=nq;obtain⟨Tz,TP,TO,Tc,Td⟩:=hT;change wpAny _ _ (field (.ref z) 2 >>= _) _ E s;refine Ix (LB zz rfl (x:=.bool Y) rfl ?_)
 refine Ix (LB zz rfl (x:=.ref P) rfl (Ix (JI pp rfl ?_)))
 refine Ix (Bb zz al λk₁ z₁ m₁=>?_)
 simp only[IT,if_false];refine Ix (Ix (Ix (Jg ?_)))
 refine Ix (GW (t:=t) hh (cc.to λo e=>ai m₁ (Jb zc) e) (hp.to λo e=>ai m₁ pz e) (λx hx k₂ c₂ m₂=>Iy ?_) λhx k₂ e m₂ he=>?_)
 ·refine Iy ?_
  refine Ix (Ix (Jg ?_))
  refine Ix (GW (t:=u) hh (dd.to λo e=>ai m₂ (Jb cd) (ai m₁ (Jb zd) e)) (hq.to λo e=>ai m₂ qc (ai m₁ qz e)) (λy hy k₄ d₄ m₄=>Iy ?_) λhy k₄ e m₄ he=>?_)
  ·refine Iy (Iy ?_)
   refine Ix (NX (Iy ⟨_,rfl,?_⟩) (by show 2<=sizeLine;trivial))
   have sz:k₄.objs.size=s.heap.objs.size:=by rw[m₄.1,m₂.1,m₁.1]
   have old:∀f o,f≠z->f≠c->f≠d->s.heap.get? f=U o->k₄.get? f=U o:=λf o n1 n3 n4 e=>ai m₄ n4 (ai m₂ n3 (ai m₁ n1 e))
   have z₄:=ai m₄ zd (ai m₂ zc z₁);have up:∀f o,k₄.get? f=U o->(k₄.push {cls:=.type "tuple",data:=.seq #[x,y]}).get? f=U o:=λf o e=>Iz _ e
   have new:MZ (k₄.push {cls:=.type "tuple",data:=.seq #[x,y]}) k₄.objs.size x y:=IF _ rfl
   have sz8:(k₄.push {cls:=.type "tuple",data:=.seq #[x,y]}).objs.size=k₄.objs.size+1:=JG ..;rw[sz]at new sz8⊢;refine item x y hx hy _ ⟨up _ _ z₄,⟨oT,up _ _ (old _ _ Tz Tc Td al)⟩,up _ _ (old _ _ (Jb zP) Pc Pd pp),⟨a,b,up _ _ (old _ _ (Jb zO) Oc Od oo)⟩,?_,?_⟩ new sz8 λf o hf e=>?_
   ·exact c₂.to λo e=>up _ o (ai m₄ cd e)
   ·exact d₄.to λo e=>up _ o e
   simp_all
  ·refine stop (.inr hy) k₄ e (λf o hf g=>?_) he
   simp only[Jo,JE,or_false,not_or]at hf;obtain⟨n1,_,n2,n3,n4⟩:=hf;exact m₄ _ _ n4 (ai m₂ n3 (ai m₁ n1 g))
 ·refine stop (.inl hx) k₂ e (λf o hf g=>?_) he
  simp only[Jo,JE,or_false,not_or]at hf;exact m₂ _ _ hf.2.2.2.1 (ai m₁ hf.1 g)
noncomputable def ZS (t u:Bool) (h:Kl) (z P O c d p q:IZ) (n:Nat):Prop:=Zp t u h z P O c d p q n .none\/∃T b,T∉[z,P,O,c,d]/\Zq t u h z P O c d p q n T b
theorem ZS.to {t u:Bool}{h h':Kl}{z P O c d p q:IZ}{n:Nat}{S:IZ}(Z:ZS t u h z P O c d p q n) (k:∀b o,b≠S->h.get? b=U o->h'.get? b=U o) (hS:S∉[z,P,O,c,d]) (he:∃o,h'.get? S=U o):ZS t u h' z P O c d p q n:=by
 have ne:∀b∈[z,P,O,c,d],b≠S:=λb hb e=>hS (by rw[<-e];exact hb)
 rcases Z with⟨zz,pp,⟨a,b,oo⟩,cc,dd⟩|⟨T,bo,nT,⟨zz,⟨o,al⟩,pp,⟨a,b,oo⟩,cc,dd⟩⟩
 ·exact .inl ⟨k _ _ (ne z (by simp)) zz,k _ _ (ne P (by simp)) pp,⟨a,b,k _ _ (ne O (by simp)) oo⟩,cc.to λo e=>k _ o (ne c (by simp)) e,dd.to λo e=>k _ o (ne d (by simp)) e⟩
 ·refine .inr ⟨T,bo,nT,k _ _ (ne z (by simp)) zz,?_,k _ _ (ne P (by simp)) pp,⟨a,b,k _ _ (ne O (by simp)) oo⟩,cc.to λo e=>k _ o (ne c (by simp)) e,dd.to λo e=>k _ o (ne d (by simp)) e⟩
  grind
theorem pr {t u:Bool}{z P O c d p q:IZ}{n:Nat}{xs ys:Array IA}{Q:Option IA->IB->Prop}(hh:A.handled=B) (ap:Ap z P O c d p q) (Z:ZS t u s.heap z P O c d p q n)
  (hp:SqAt t s.heap p xs) (hq:SqAt u s.heap q ys)
  (item:∀x y,xs[n]?=U x->ys[n]?=U y->∀h',ZS t u h' z P O c d p q (n+1)->MZ h' s.heap.objs.size x y->h'.objs.size=s.heap.objs.size+1->
   (∀b o,b∉[z,P,O,c,d]->s.heap.get? b=U o->h'.get? b=U o)->Q (U (.ref s.heap.objs.size)) {s with heap:=h'})
  (stop:(xs[n]?=B\/ys[n]?=B)->∀h',(∀b o,b∉[z,P,O,c,d]->s.heap.get? b=U o->h'.get? b=U o)->Q B {s with heap:=h'}):
  wpAny (model prog w) A (pyNext (.ref z)) Q E s:=by
 have lts:∀b∈[z,P,O,c,d],b<s.heap.objs.size:=λb hb=>by
  rcases Z with⟨zz,pp,⟨a,b',oo⟩,cc,dd⟩|⟨T,bo,nT,⟨zz,⟨o,al⟩,pp,⟨a,b',oo⟩,cc,dd⟩⟩<;>
   (simp only[Jo,JE,or_false]at hb
    rcases hb with rfl|rfl|rfl|rfl|rfl
    ·exact IJ zz
    ·exact IJ pp
    ·exact IJ oo
    ·obtain⟨o,e,_⟩:=cc.obj;exact IJ e
    ·obtain⟨o,e,_⟩:=dd.obj;exact IJ e)
 rcases Z with Z|⟨T,bo,nT,Z⟩
 ·refine nN hh ap Z hp hq (λx y hx hy h' Z' new sz k=>item x y hx hy h' (.inr ⟨s.heap.objs.size,Y,λhm=>JV _ (lts _ hm),?_⟩) new sz k) stop
  obtain⟨zz,pp,oo,cc,dd⟩:=Z';exact⟨zz,⟨_,new⟩,pp,oo,cc,dd⟩
 ·have ty:s.TypeIs (.ref z) "zip":=⟨_,Z.zz,rfl⟩
  refine Ix (Ln (JR (name:=JM "__next__") ty ND (Jx ND ty F.entry_zip_next (yz hh ap nT Z hp hq (λx y hx hy h' b1 b2 b3 b4=>Iy (item x y hx hy h' (.inr ⟨T,V,nT,b1⟩) b2 b3 b4)) λhn h' e k he=>?_) (F.args_zip_next_1 _))))
  obtain⟨o,ho,hc⟩:=he;exact Ix (K8 (T:="StopIteration") (b:=V) ⟨o,ho,hc⟩ MT (Iy (stop hn h' k)))
noncomputable def Made (h:Kl) (lo:IZ) (xs ys:Array IA):Nat->List IA->Prop
 |_,[]=>True
 |i,v::r=>∃T x y,v=.ref T/\lo<=T/\xs[i]?=U x/\ys[i]?=U y/\MZ h T x y/\(∀v'∈r,v'≠v)/\Made h lo xs ys (i+1) r
theorem Made.to {h h':Kl}{lo:IZ}{xs ys:Array IA}:∀{i:Nat}{l:List IA},Made h lo xs ys i l->(∀T,.ref T∈l->∀o,h.get? T=U o->h'.get? T=U o)->Made h' lo xs ys i l
 |_,[],_,_=>trivial
 |i,v::r,hz,k=>by obtain⟨T,x,y,h1,h2,h3,h4,h5,h6,h7⟩:=hz;exact⟨T,x,y,h1,h2,h3,h4,k T (by rw[h1];simp) _ h5,h6,h7.to λT' hT=>k T' (IK _ hT)⟩
theorem Made.snoc {h:Kl}{lo T:IZ}{xs ys:Array IA}{x y:IA}:∀{i:Nat}{l:List IA},Made h lo xs ys i l->lo<=T->xs[i+l.length]?=U x->ys[i+l.length]?=U y->MZ h T x y->(∀v∈l,v≠.ref T)->Made h lo xs ys i (l++[.ref T])
 |i,[],_,a1,a2,a3,a4,_=>⟨T,x,y,rfl,a1,a2,a3,a4,λv hv=>(by lia),trivial⟩
 |i,v::r,hz,a1,a2,a3,a4,a5=>by
  obtain⟨T',x',y',h1,h2,h3,h4,h5,h6,h7⟩:=hz;refine⟨T',x',y',h1,h2,h3,h4,h5,λv' hv'=>?_,h7.snoc a1 (by rw[IU]at a2;rw[show i+1+r.length=i+(r.length+1) by lia];exact a2) (by rw[IU]at a3;rw[show i+1+r.length=i+(r.length+1) by lia];exact a3) a4 λv' hv'=>a5 v' (IK _ hv')⟩
  rcases List.mem_append.mp hv' with hv'|hv'
  ·exact h6 v' hv'
  ·rw[List.mem_singleton.mp hv'];exact Jb (a5 v (IN ..))
theorem Made.lt {h:Kl}{lo:IZ}{xs ys:Array IA}:∀{i:Nat}{l:List IA},Made h lo xs ys i l->∀v∈l,∃T,v=.ref T/\T<h.objs.size/\lo<=T
 |_,[],_,v,hv=>by trivial
 |i,v::r,hz,v',hv=>by
  obtain⟨T,x,y,h1,h2,h3,h4,h5,h6,h7⟩:=hz
  rcases List.mem_cons.mp hv with rfl|hv
  ·exact⟨T,h1,IJ h5,h2⟩
  ·exact h7.lt v' hv
theorem sI {R:NI->IB->Prop}{t u:Bool}{z P O c d p q S lo:IZ}{xs ys:Array IA}{res:IA}{n:Nat}(hh:A.handled=B) (ap:Ap z P O c d p q) (hS:S∉[z,P,O,c,d]) (pS:p≠S) (qS:q≠S) (hmin:n=min xs.size ys.size) (hn:n<=sizeLine) (bl:∀b∈[z,P,O,c,d],lo<=b) (bS:lo<=S):
  ∀(k i:Nat) (s:IB) (acc:Array IA) (e:Nat),n - i=k->i<=n->ZS t u s.heap z P O c d p q i->SqAt t s.heap p xs->SqAt u s.heap q ys->s.heap.get? S=U {cls:=.type "list",dict:=B,data:=.seq acc e,slots:=#[]}->acc.size=i->Made s.heap lo xs ys 0 acc.toList->lo<=s.heap.objs.size->(∀T,.ref T∈acc.toList->T∉S::[z,P,O,c,d])->
  (∀s' acc' e',(∀b o,b∉S::[z,P,O,c,d]->s.heap.get? b=U o->s'.heap.get? b=U o)->s'.heap.get? S=U {cls:=.type "list",dict:=B,data:=.seq acc' e',slots:=#[]}->acc'.size=n->Made s'.heap lo xs ys 0 acc'.toList->(∃h' tk,s'={s with heap:=h',toks:=tk})->R (.ok (.ret res)) s')->
  codeAny (model prog w) A (.builtin "list.extend.loop" ⟨[.ref S,.ref z,res],[]⟩) R s:=by
 intro k
 induction k with
 |zero=>
  intro i s acc e hk hi Z hp hq hL ha hm hlo hT hR;have hin:i=n:=by lia
  subst hin;refine Jt F.entry_extend_loop ?_
  refine Ix (pr (show A.in1.handled=B from hh) ap Z hp hq (λx y hx hy=>?_) λ_ h' kp=>?_)
  ·exfalso
   have a1:=(Array.getElem?_eq_some_iff.mp hx).1
   have a2:=(Array.getElem?_eq_some_iff.mp hy).1
   lia
  ·refine Iy (hR _ acc e (λb o hb g=>kp b o (λz=>hb (IK _ z)) g) (kp S _ hS hL) ha (hm.to λT hT' o g=>kp T o (λz=>hT T hT' (IK _ z)) g) ⟨h',s.toks,rfl⟩)
 |succ k ih=>
  intro i s acc e hk hi Z hp hq hL ha hm hlo hT hR;have hlt:i<n:=by lia
  refine Jt F.entry_extend_loop ?_
  refine Ix (pr (show A.in1.handled=B from hh) ap Z hp hq (λx y hx hy h' Z' new sz kp=>?_) λhn' h' kp=>?_)
  ·have hL':=kp S _ hS hL
   have zlt:∀b∈S::[z,P,O,c,d],b≠s.heap.objs.size:=λb hb e'=>by
    rcases List.mem_cons.mp hb with rfl|hb
    ·lia
    ·have:b<s.heap.objs.size:=by
      rcases Z with⟨zz,pp,⟨a,b',oo⟩,cc,dd⟩|⟨T,bo,nT,⟨zz,⟨o,al⟩,pp,⟨a,b',oo⟩,cc,dd⟩⟩<;>
       (simp only[Jo,JE,or_false]at hb
        rcases hb with rfl|rfl|rfl|rfl|rfl
        ·exact IJ zz
        ·exact IJ pp
        ·exact IJ oo
        ·obtain⟨o,e,_⟩:=cc.obj;exact IJ e
        ·obtain⟨o,e,_⟩:=dd.obj;exact IJ e)
     rw[e']at this;exact JV _ this
   refine Ix (J4 hL' rfl (Iy ⟨JT MK _,?_⟩) (by rw[ha];lia) (by show(acc.push _).size<=sizeLine+1;rw[Ot,ha];lia))
   have sb:=Jw h' S (Jc (·.push (.ref s.heap.objs.size)))
   have oth:∀b o,b≠S->h'.get? b=U o->(h'.update S (Jc (·.push (.ref s.heap.objs.size)))).get? b=U o:=λb o hb g=>(sb.2 b hb).trans g
   have gS:=IY (Jc (·.push (Ny s.heap.objs.size))) hL' rfl
   refine ih (i+1) _ (acc.push (.ref s.heap.objs.size)) _ (by lia) hlt (Z'.to oth hS ⟨_,gS⟩) (hp.to λo g=>oth _ o pS (kp _ o ap.p g)) (hq.to λo g=>oth _ o qS (kp _ o ap.q g)) gS (by rw[Ot,ha]) ?_ ?_ ?_ λs' acc' e' k1 k2 k3 k4 k5=>?_
   ·rw[Ky]
    refine(hm.to λT hT' o g=>oth _ o (λz=>hT T hT' (by rw[z];exact IN ..)) (kp T o (λz=>hT T hT' (IK _ z)) g)).snoc hlo ?_ ?_ (oth _ _ (Jb (zlt S (IN ..))) new) λv hv z=>?_
    ·simp;lia
    ·simp;lia
    ·obtain⟨T,rfl,lt,_⟩:=hm.lt v hv
     cases z;exact JV _ lt
   ·simp;lia
   ·grind
   ·refine hR s' acc' e' (λb o hb g=>k1 b o hb (oth b o (λz=>hb (by rw[z];exact IN ..)) (kp b o (λz=>hb (IK _ z)) g))) k2 k3 k4 ?_
    obtain⟨h2,tk,e2⟩:=k5;exact⟨h2,tk,e2⟩
  ·exfalso
   rcases hn' with hn'|hn'
   ·rw[OO]at hn';lia
   ·rw[OO]at hn';lia
theorem qC:typeLookup (.type "zip") "__len__"=pure B:=by rfl
theorem oz:typeLookup (.type "zip") "__length_hint__"=pure B:=by rfl
theorem mY {R:NI->IB->Prop}(hh:A.handled=B) {t u:Bool}{z P O c d p q S lo:IZ}{xs ys:Array IA}{c₀:Nat}(ap:Ap z P O c d p q) (hS:S∉[z,P,O,c,d]) (pS:p≠S) (qS:q≠S) (hn:min xs.size ys.size<=sizeLine) (bl:∀b∈[z,P,O,c,d],lo<=b) (bS:lo<=S) (res:IA)
  (Z:Zp t u s.heap z P O c d p q 0 .none) (hp:SqAt t s.heap p xs) (hq:SqAt u s.heap q ys) (hlo:lo<=s.heap.objs.size)
  (hL:s.heap.get? S=U {cls:=.type "list",data:=.seq #[] c₀})
  (hR:∀s' acc' e',(∀b o,b∉S::[z,P,O,c,d]->s.heap.get? b=U o->s'.heap.get? b=U o)->s'.heap.get? S=U {cls:=.type "list",dict:=B,data:=.seq acc' e',slots:=#[]}->acc'.size=min xs.size ys.size->Made s'.heap lo xs ys 0 acc'.toList->(∃h' tk,s'={s with heap:=h',toks:=tk})->R (.ok (.ret res)) s'):
  wpAny (model prog w) A.in1 (Lr (.ref S) (.ref z) res)
   (λfin s'=>match fin with|.done f=>R (.ok f) s'|.again c'=>c'.quiet=V/\codeAny (model prog w) A c' R s') (λe s'=>R (.error e) s') s:=by
 have ty:s.TypeIs (.ref z) "zip":=⟨_,Z.zz,rfl⟩;have nSz:S≠z:=λe=>hS (by rw[e];simp)
 refine Ix (LH ty ?_)
 simp only[show KL (.ref S) (.ref z)=Y by simp[KL,nSz],show(Ki "zip"==Ki "list")=Y by decide,show(Ki "zip"==Ki "tuple")=Y by decide,Pa,IT,if_false]
 refine Ix (OV Z.zz (Ix (Jg ?_)))
 refine Ix (K3 ty qC ?_)
 refine Ix (K3 ty oz (Iy ?_))
 refine Ix (Kf (Ix ?_))
 have hS2:=IY (Jc (·.push Kv)) hL rfl
 refine Ix (J4 hL rfl (J4 (hz:=by seq_fits) hS2 rfl ?_))
 have hS3:=IY (Jc (·.pop)) hS2 rfl
 have oth:∀b o,b≠S->s.heap.get? b=U o->((s.heap.update S (Jc (·.push Kv))).update S (Jc (·.pop))).get? b=U o:=
  λb o hb e=>(IP _ _ (Jb hb)).trans ((IP _ _ (Jb hb)).trans e)
 refine Iy ⟨JT MK _,sI hh ap hS pS qS rfl hn bl bS _ 0 _ _ _ rfl (Jf _) ((show ZS t u s.heap z P O c d p q 0 from .inl Z).to oth hS ⟨_,hS3⟩) (hp.to λo e=>oth _ o pS e) (hq.to λo e=>oth _ o qS e) hS3 (by simp) (by simp[Made]) ?_ (by simp) λs' acc' e' k1 k2 k3 k4 k5=>?_⟩
 ·simp;lia
 ·obtain⟨h',tk,e2⟩:=k5
  exact hR s' acc' e' (λb o hb e=>k1 b o hb (oth b o (λz=>hb (by rw[z];exact IN ..)) e)) k2 k3 k4 ⟨h',tk,e2⟩
theorem oF {Q:IA->IB->Prop}(hh:A.handled=B) {t u:Bool}{z P O c d p q:IZ}{xs ys:Array IA}(ap:Ap z P O c d p q) (hn:min xs.size ys.size<=sizeLine) {lo:IZ}(bl:∀b∈[z,P,O,c,d],lo<=b) (hlo:lo<=s.heap.objs.size)
  (Z:Zp t u s.heap z P O c d p q 0 .none) (hp:SqAt t s.heap p xs) (hq:SqAt u s.heap q ys)
  (hQ:∀h' tk acc' e',(∀b o,b∉[z,P,O,c,d]->s.heap.get? b=U o->h'.get? b=U o)->h'.get? s.heap.objs.size=U {cls:=.type "list",dict:=B,data:=.seq acc' e',slots:=#[]}->acc'.size=min xs.size ys.size->Made h' lo xs ys 0 acc'.toList->Q (.ref s.heap.objs.size) {s with heap:=h',toks:=tk}):
  wpAny (model prog w) A (call (.type "list") [.ref z]) Q E s:=by
 refine Pz (Q₁:=λobj s₁=>obj=.ref s.heap.objs.size/\s₁={s with heap:=s.heap.push {cls:=.type "list",data:=.seq #[]}}) F.called_list (F.typeCall_list_1 _) F.entry_list_init (code_list_new _ ⟨rfl,rfl⟩) λobj s₁ h₁=>?_
 obtain⟨rfl,rfl⟩:=h₁;have hS:(s.heap.push {cls:=.type "list",data:=.seq #[]}).get? s.heap.objs.size=U {cls:=.type "list",data:=.seq #[]}:=IF _ rfl
 refine⟨⟨_,hS,rfl⟩,F.args_list_init_2 _ _,?_⟩
 refine Ix ?_
 refine Ix (JI hS rfl (Iy ?_))
 have hS2:=IY (Jc (λ_=>(#[]:Array IA))) hS rfl
 have up:∀b ob,s.heap.get? b=U ob->((s.heap.push {cls:=.type "list",data:=.seq #[]}).update s.heap.objs.size (Jc (λ_=>(#[]:Array IA)))).get? b=U ob:=λb ob e=>(IP _ _ (Jb (Ji (IJ e)))).trans (Iz _ e)
 have lts:∀b∈[z,P,O,c,d],b<s.heap.objs.size:=λb hb=>by
  obtain⟨zz,pp,⟨a,b',oo⟩,cc,dd⟩:=Z;simp only[Jo,JE,or_false]at hb
  rcases hb with rfl|rfl|rfl|rfl|rfl
  ·exact IJ zz
  ·exact IJ pp
  ·exact IJ oo
  ·obtain⟨o,e,_⟩:=cc.obj;exact IJ e
  ·obtain⟨o,e,_⟩:=dd.obj;exact IJ e
 have lp:p<s.heap.objs.size:=by cases t<;>(obtain⟨o,e,_⟩:=hp;exact IJ e)
 have lq:q<s.heap.objs.size:=by cases u<;>(obtain⟨o,e,_⟩:=hq;exact IJ e)
 refine Ix (J4 hS rfl (Ix (K0 ?_)))
 obtain⟨zz,pp,⟨a,b',oo⟩,cc,dd⟩:=Z;refine mY (A:=A.in1) hh ap (λhm=>JV _ (lts _ hm)) (Ji lp) (Ji lq) hn bl hlo .none ⟨up _ _ zz,up _ _ pp,⟨a,b',up _ _ oo⟩,cc.to λo e=>up _ o e,dd.to λo e=>up _ o e⟩ (hp.to λo e=>up _ o e) (hq.to λo e=>up _ o e) ?_ hS2 λs' acc' e' k1 k2 k3 k4 k5=>?_
 ·simp;lia
 ·obtain⟨h',tk,rfl⟩:=k5
  exact⟨rfl,hQ h' tk acc' e' (λb ob hb e=>k1 b ob (λhm=>(List.mem_cons.mp hm).elim (λz=>Ji (IJ e) z) hb) (up b ob e)) k2 k3 k4⟩
end
structure En (h:Kl) (e c p:IZ) (n:Nat):Prop where
 ee:∃old,IsEnum h e c n old
 cc:h.IsListIter c p n
theorem Ed {prog:J9}{w:KB}{A:Jj}{E:IA->IB->Prop}{s:IB}{elts:List Expr}{x1} {pos:Ov}{e c T:IZ}{i:Int}{x:IA}{Q:Unit->IB->Prop}(he:IsEnumOut s.heap e c i x T)
  (hQ:∀h',IsEnum h' e c i x->JX e s.heap h'->Q () {s with heap:=h'}):wpAny (model prog w) A (letOwnedTupleGo (.Tuple elts x1 pos) (.ref e) (.ref T)) Q E s:=by
 refine Ix (NE he ?_)
 change wpAny _ _ (if(["enumerate","zip","dict_itemiterator","dict_reverseitemiterator","odict_iterator","itertools.zip_longest","itertools.pairwise"].contains "enumerate"&&(#[rawInt T,.bool Y,.ref c,rawInt i,.none,x]:Array IA)[0]?==U (rawInt T))=V then _ else _) Q E s
 rw[if_pos (by simp)]
 refine Ix (Kf (Lb he (by simp) λh' g' m'=>hQ h' g' m'))
noncomputable def enL (h:Kl) (p:IZ):Kl:=(h.push (itO Y p)).push {cls:=.type "enumerate",data:=.fields #[.none,.bool Y,.ref h.objs.size,rawInt 0,.none,.none]}
set_option tactic.hygienic true in
theorem zS (p:IZ) (xs:Array IA):Meets (L5.«enumerate.__new__» ⟨[.type "enumerate",.ref p],[]⟩) (λ_ R s=>SqAt Y s.heap p xs/\R (.ok (.ret (.ref (s.heap.push (itO Y p)).objs.size))) {s with heap:=enL s.heap p}):=
 .of_wp λprog w A R s h=>by
  obtain⟨hp,g,d,tk,os⟩:=s;obtain⟨h1,h⟩:=h;have hsub:=sub_enumerate;have k1:=h1
  wp_walk using iD k1
  refine wpAny_stack_any λst=>Iy ?_
  split
  ·rename_i c0 _ _ _ _ _
   cases (c0==Ki "enumerate")<;>(wp_walk using iD k1;exact⟨_,rfl,h⟩)
  ·wp_walk using iD k1
   exact⟨_,rfl,h⟩
theorem xh {prog:J9}{w:KB}{A:Jj}{E:IA->IB->Prop}{s:IB}{p:IZ}{xs:Array IA}{Q:IA->IB->Prop}(hp:SqAt Y s.heap p xs)
  (h:∀h',IsEnum h' (s.heap.objs.size+1) s.heap.objs.size 0 .none->h'.IsListIter s.heap.objs.size p 0->(∀b o,s.heap.get? b=U o->h'.get? b=U o)->Q (.ref (s.heap.objs.size+1)) {s with heap:=h'}):
  wpAny (model prog w) A (call (.type "enumerate") [.ref p]) Q E s:=by
 refine callType_new F.called_enumerate (by decide) (F.typeCall_enumerate_1 _) (F.newCall_enumerate_1 _) (λobj=>F.args_object_init_2 obj _) F.entry_enumerate_new (zS p xs) ⟨hp,?_⟩
 have s1:(s.heap.push (itO Y p)).objs.size=s.heap.objs.size+1:=JG ..;have e5:(enL s.heap p).get? (s.heap.push (itO Y p)).objs.size=U {cls:=.type "enumerate",data:=.fields #[.none,.bool Y,.ref s.heap.objs.size,rawInt 0,.none,.none]}:=IF _ rfl
 have c5:(enL s.heap p).get? s.heap.objs.size=U (itO Y p):=Iz _ (IF _ rfl)
 rw[s1]at e5;refine⟨⟨_,by rw[s1];exact e5,rfl⟩,?_⟩
 rw[s1];exact h _ e5 ⟨_,c5,rfl,rfl⟩ λb o e=>Iz _ (Iz _ e)
noncomputable def fV (i:Nat):List D->List D
 |[]=>[]
 |d::ds=>.tup [.int i,d]::fV (i+1) ds
theorem pQ:∀(ds:List D) (j i:Nat) (x:D),(fV j ds)[i]?=U x->∃d,ds[i]?=U d/\x=.tup [.int ((j+i:Nat):Int),d]
 |[],j,i,x,h=>by trivial
 |d::ds,j,0,x,h=>by simp_all [fV,h]
 |d::ds,j,i+1,x,h=>by
  obtain⟨e,h1,h2⟩:=pQ ds (j+1) i x h;exact⟨e,by trivial,by rw[h2,show j+1+i=j+(i+1) by lia]⟩
theorem pW:∀(j:Nat) (ds:List D),(fV j ds).length=ds.length
 |_,[]=>rfl
 |j,d::ds=>by simp[fV,pW (j+1) ds]
noncomputable def pf (x:Option D):Option (List D):=match x with|some (.lst ds)=>U (fV 0 ds)|_=>B
variable[Md]
section
variable{X:Cx}{M M':Mp}{δ:DEnv}{s:IB}{elts:List Expr}{x1:Nat}{tp:Ov}{a b:Expr}{fa fb:DEnv->Option D}{m m':Bool}{p p2 pos pos2:Ov}{t u:Bool}{A:Jj}
noncomputable def SqO (t:Bool) (o:N1) (vs:List IA):Prop:=if t=V then TupO o vs else LstO o vs
theorem SqO.at (q:SqO t o vs) (h:s.heap.get? c=U o):SqAt t s.heap c vs.toArray:=by
 cases t with
 |true=>exact⟨o,h,q.2⟩
 |false=>obtain⟨_,n,rfl⟩:=q;exact⟨_,h,rfl,n,rfl⟩
theorem Cg {v:IA}(h:Ge t x=U ds):∃d,x=U d/\∀{m M v},R m M d v->∃c o vs,v=.ref c/\Rd m M c o/\SqO t o vs/\Rs m M ds vs:=by
 cases t with
 |true=>exact⟨_,pb h,λr=>r⟩
 |false=>exact⟨_,kx h,λr=>r⟩
theorem E1:TupO {cls:=.type "tuple",data:=.seq #[x,y]} [x,y]:=⟨by show 2<=sizeLine;decide,rfl,_,rfl⟩
theorem R.pair (h:M T=B) (r1:R m M d x) (r2:R m M e y):R m (upd M T (U (.f,{cls:=.type "tuple",data:=.seq #[x,y]}))) (.tup [d,e]) (.ref T):=
 ⟨T,_,[x,y],rfl,⟨.f,aq,rfl⟩,E1,⟨x,[y],rfl,r1.to (eP h),.one (r2.to (eP h))⟩⟩
theorem R.pairN {h:Kl}(rd:∀a o,Rd m M a o->h.get? a=U o) (hT:h.objs.size<=T) (r1:R m M d x) (r2:R m M e y):R m (upd M T (U (.f,{cls:=.type "tuple",data:=.seq #[x,y]}))) (.tup [d,e]) (.ref T):=by
 have sb:Sub m M m (upd M T (U (.f,{cls:=.type "tuple",data:=.seq #[x,y]}))):=λb o ⟨k,e,z⟩=>⟨k,by
  rw[av];exact e
  rintro rfl;exact absurd (IJ (rd _ _ ⟨k,e,z⟩)) (Nat.not_lt.mpr hT),z⟩
 exact⟨T,_,[x,y],rfl,⟨.f,aq,rfl⟩,E1,⟨x,[y],rfl,r1.to sb,.one (r2.to sb)⟩⟩
theorem Zp.ex {t u:Bool}{h:Kl}{z P O c d p q:IZ}{n:Nat}{f:IA}(Z:Zp t u h z P O c d p q n f):∀b∈[z,P,O,c,d],∃o,h.get? b=U o:=λb hb=>by
 obtain⟨zz,pp,⟨a,a',oo⟩,cc,dd⟩:=Z;simp only[Jo,JE,or_false]at hb
 rcases hb with rfl|rfl|rfl|rfl|rfl
 ·exact⟨_,zz⟩
 ·exact⟨_,pp⟩
 ·exact⟨_,oo⟩
 ·obtain⟨o,e,_⟩:=cc.obj;exact⟨o,e⟩
 ·obtain⟨o,e,_⟩:=dd.obj;exact⟨o,e⟩
theorem Bh {z Pr O c d p q:IZ}(hh:A.handled=B) (ap:Ap z Pr O c d p q) (q1:Rd m M p o1) (t1:SqO t o1 xs) (r1:Rs m M ds xs) (q2:Rd m M q o2) (t2:SqO u o2 ys) (r2:Rs m M es ys):
  FD A (.Tuple elts x1 tp) m M (gQ ds es) [z,Pr,O,c,d] z (λn h=>Zp t u h z Pr O c d p q n .none) where
 ex:=λst=>st.ex
 keep:=λst k=>by
  obtain⟨zz,pp,⟨a,a',oo⟩,cc,dd⟩:=st;exact⟨k z (by simp) _ zz,k Pr (by simp) _ pp,⟨a,a',k O (by simp) _ oo⟩,cc.to λo e=>k c (by simp) o e,dd.to λo e=>k d (by simp) o e⟩
 item:=λ{i s x} st h e=>by
  obtain⟨d1,d2,e1,e2,rfl⟩:=qR _ _ _ _ e;obtain⟨vx,g1,g2⟩:=r1.get e1;obtain⟨vy,g3,g4⟩:=r2.get e2;refine nN hh ap st (t1.at (h _ _ q1)) (t2.at (h _ _ q2)) (λux uy hx hy h' Z' new sz k=>?_) λhn=>by simp_all
  simp only[LF]at hx hy
  rw[g1]at hx;cases hx;rw[g3]at hy;cases hy;refine⟨_,rfl,?_⟩
  obtain⟨zz,pp,⟨a,a',oo⟩,cc,dd⟩:=Z';have nd:=ap.nd;simp only[Mw,Jo,JE,or_false,not_or,Kc,and_true,not_false_eq_true]at nd;have zT:z≠s.heap.objs.size:=Ji (IJ st.zz);refine wpAny_letOwnedTupleGo_zip (s:={s with heap:=h'}) zz λk2 z2 m2=>⟨⟨⟨rfl,rfl⟩,λb o hb e=>ai m2 (λw=>hb (by simp[w])) (k b o hb e)⟩,⟨z2,ai m2 (Jb nd.1.1) pp,⟨a,a',ai m2 (Jb nd.1.2.1) oo⟩,cc.to λo e=>ai m2 (Jb nd.1.2.2.1) e,dd.to λo e=>ai m2 (Jb nd.1.2.2.2) e⟩,.inr ⟨s.heap.objs.size,_,IM _,ai m2 (Jb zT) new,R.pairN h (IM _) g2 g4⟩⟩
 done:=λ{s} st h=>nN hh ap st (t1.at (h _ _ q1)) (t2.at (h _ _ q2)) (λvx vy hvx hvy h' Z' new sz k=>by
  exfalso;have l1:=r1.length;have l2:=r2.length;rw[iq]at hvx hvy;have a1:=(Array.getElem?_eq_some_iff.mp hvx).1
  have a2:=(Array.getElem?_eq_some_iff.mp hvy).1
  simp at a1 a2;lia) λhn h' k=>⟨rfl,⟨rfl,rfl⟩,k⟩
 self:=λst h=>OV st.zz h
theorem yR {Q:IA->IB->Prop}(g:Bn X "zip") (h:DE X m a fa) (h':DE X m b fb) (I:Inv X M δ s) (e:xI t u (fa δ) (fb δ)=U ls) (k:∀z Pr O c d p q o1 o2 xs ys ds es h' s1 M1,ls=gQ ds es->Ext M M1->Inv X M1 δ s1->Ap z Pr O c d p q->Zp t u h' z Pr O c d p q 0 .none->(∀b∈[z,Pr,O,c,d],s1.heap.objs.size<=b)->(∀b o,s1.heap.get? b=U o->h'.get? b=U o)->Rd m M1 p o1->SqO t o1 xs->Rs m M1 ds xs->Rd m M1 q o2->SqO u o2 ys->Rs m M1 es ys->Q (.ref z) {s1 with heap:=h'}):
  WP X (eval (.Call (.Name "zip" p) [a,b] [] pos) X.env) Q s:=by
 obtain⟨ds,e1,e⟩:=ag e;obtain⟨es,e2,e⟩:=ag e;cases e;obtain⟨d1,f1,k1⟩:=Cg (v:=.none) e1;obtain⟨d2,f2,k2⟩:=Cg (v:=.none) e2;refine xM g boot_zip (aT h (aT h' cL)) I (ds:=[d1,d2]) (by rw[f1,f2];rfl) λvs s1 M1 x1 I1 r=>?_
 obtain⟨v1,v2,rfl,r1,r2⟩:=r.is2;obtain⟨l1,o1,xs,rfl,q1,t1,rs1⟩:=k1 r1;obtain⟨l2,o2,ys,rfl,q2,t2,rs2⟩:=k2 r2;exact Ab (t1.at (q1.heap I1.heap)) (t2.at (q2.heap I1.heap)) λz P O c d h' ap Z hi kk=>k _ _ _ _ _ _ _ _ _ _ _ _ _ _ _ _ rfl x1 I1 ap Z hi kk q1 t1 rs1 q2 t2 rs2
theorem Go {t u:Bool}(g:Bn X "zip") (h:DE X m a fa) (h':DE X m b fb):DI X m (.Tuple elts x1 tp) (.Call (.Name "zip" p) [a,b] [] pos) (λδ=>xI t u (fa δ) (fb δ)):=⟨rfl,λI e k=>
 yR g h h' I e λz Pr O c d p q o1 o2 xs ys ds es h' s1 M1 e x1 I1 ap Z hi kk q1 t1 r1 q2 t2 r2=>by
  subst e;exact OV (s:={s1 with heap:=h'}) Z.zz (k _ _ _ _ _ x1 (I1.kp kk) (Bh I.ok.room.hd ap q1 t1 r1 q2 t2 r2) Z λb hb=>I1.fresh (hi b hb))⟩
theorem yP {lo:IZ}{is js:List IA}:∀(l:List IA) (i:Nat) (M:Mp) (ds es:List D),Inv X M δ s->Made s.heap lo is.toArray js.toArray i l->(∀T,.ref T∈l->Free X M T)->Rs Y M ds (is.drop i)->Rs Y M es (js.drop i)->l.length=min ds.length es.length->
  ∃M',Ext M M'/\Inv X M' δ s/\(∀c,.ref c∉l->M' c=M c)/\Rs Y M' (gQ ds es) l
 |[],i,M,ds,es,I,m,f,r1,r2,hl=>by
  refine⟨M,Ext.refl,I,λ_ _=>rfl,?_⟩
  cases ds with
  |nil=>rfl
  |cons d ds=>cases es with
   |nil=>rfl
   |cons e es=>simp at hl
 |v::l,i,M,ds,es,I,hz,f,r1,r2,hl=>by
  obtain⟨T,x,y,rfl,e2,e3,e4,e5,e6,e7⟩:=hz;cases ds with
  |nil=>simp at hl
  |cons d ds=>cases es with
   |nil=>simp at hl
   |cons e es=>
    have hi:i<is.length:=by simpa using(Array.getElem?_eq_some_iff.mp e3).1
    have hj:i<js.length:=by simpa using(Array.getElem?_eq_some_iff.mp e4).1
    rw[Jr hi]at r1;rw[Jr hj]at r2;obtain⟨_,_,w1,a1,a2⟩:=r1;obtain⟨_,_,w2,b1,b2⟩:=r2;cases w1;cases w2;rw[show is[i]=x by simpa[hi]using e3]at a1
    rw[show js[i]=y by simpa[hj]using e4]at b1
    have fT:=f T (IN ..);have ne:∀T',Ny T'∈l->T'≠T:=λT' hT' z=>e6 _ hT' (by rw[z])
    have xT:=fF (o:={cls:=.type "tuple",data:=.seq #[x,y]}) fT.m;obtain⟨M',i1,i2,i3,i4⟩:=yP l (i+1) _ ds es (I.put fT e5) e7 (λT' hT'=>by
     have g:=f T' (IK _ hT');exact⟨by rw[av (ne T' hT')];exact g.m,g.l,g.c,g.t,g.s⟩) (a2.up xT) (b2.up xT) (by simp at hl;lia)
    refine⟨M',xT.trans i1,i2,λc hc=>?_,⟨_,l,rfl,(R.pair fT.m a1 b1).up i1,i4⟩⟩
    rw[i3 c (λz=>hc (IK _ z)),av (λz=>hc (by rw[z];exact IN ..))]
theorem Made.pair {h:Kl}{lo:IZ}{xs ys:Array IA}:∀{l:List IA}{i:Nat},Made h lo xs ys i l->∀T,.ref T∈l->∃x y,MZ h T x y
 |[],_,_,T,hT=>by simp at hT
 |v::l,i,⟨T',x,y,e1,e2,e3,e4,e5,e6,e7⟩,T,hT=>by
  rcases List.mem_cons.mp hT with e|hT
  ·rw[e1]at e;cases e;exact⟨x,y,e5⟩
  ·exact e7.pair T hT
noncomputable def qB (t u:Bool) (x y:Option D):Option D:=match xI t u x y with|some ds=>if ds.length<=lim then U (.lst ds) else B|none=>B
theorem mD (h:qB t u x y=U d):∃ls,xI t u x y=U ls/\ls.length<=lim/\d=.lst ls:=by
  unfold qB at h;split at h<;>try cases h
  split at h<;>cases h;exact⟨_,by assumption,by assumption,rfl⟩
theorem wO (t u:Bool) (gl:Bn X "list") (g:Bn X "zip") (h:DE X Y a fa) (h':DE X Y b fb):DF X (.Call (.Name "list" p) [.Call (.Name "zip" p2) [a,b] [] pos2] [] pos) (λδ=>qB t u (fa δ) (fb δ)):=⟨rfl,λI e k=>by
 obtain⟨ls,e0,hl,rfl⟩:=mD e;refine Kg (I.bltn gl (by rfl:bootBuiltins "list"=U (.type "list")) (Mk ?_ rfl rfl))
 refine Ke (yR g h h' I e0 λz Pr O c d p q o1 o2 xs ys ds es h' s1 M1 e x1 I1 ap Z hi kk q1 t1 r1 q2 t2 r2=>KV ?_)
 subst e;have hsz:=IR (hi z (by simp)) (Np (IJ Z.zz))
 have l1:=r1.length;have l2:=r2.length;rw[iq]at hl;refine oF (s:={s1 with heap:=h'}) I.ok.room.hd ap (by have:=aw hl;simp;lia) (lo:=s1.heap.objs.size) hi hsz Z ((t1.at (q1.heap I1.heap)).to λo e=>kk _ o e) ((t2.at (q2.heap I1.heap)).to λo e=>kk _ o e) λh2 tk acc e' k1 k2 k3 k4=>?_
 have I2:Inv X M1 _ {s1 with heap:=h2,toks:=tk}:=I1.kp λb o e=>k1 b o (λhm=>absurd (Ly (IJ e) (hi b hm)) (JV _)) (kk b o e)
 obtain⟨M3,x3,I3,n3,r3⟩:=yP (s:={s1 with heap:=h2,toks:=tk}) (is:=xs) (js:=ys) acc.toList 0 M1 ds es I2 k4 (λT hT=>by obtain⟨T',e,_,lo⟩:=k4.lt _ hT;cases e;exact I1.fresh lo) r1 r2 (by simp at k3⊢;lia)
 have f:=I1.fresh hsz;refine k _ _ _ _ (x1.trans x3) I3 ⟨?_,f.l,f.c,f.t,f.s⟩ k2 ⟨acc.toList,⟨by have:=aw hl;simp at k3⊢;lia,e',by simp⟩,r3⟩
 rw[n3 _ λhm=>?_];exact f.m
 obtain⟨x,y,z⟩:=k4.pair _ hm;have:=J7 (k2.symm.trans z);simp at this⟩
theorem wY {e c p:IZ}(hh:A.handled=B) (ne:e≠c) (q1:Rd m M p o1) (t1:LstO o1 xs) (r1:Rs m M ds xs):FD A (.Tuple elts x1 tp) m M (fV 0 ds) [e,c] e (λn h=>En h e c p n) where
 ex:=λ⟨⟨old,ee⟩,cc⟩ b hb=>by
  simp only[Jo,JE,or_false]at hb
  rcases hb with rfl|rfl
  ·exact⟨_,ee⟩
  ·obtain⟨o,g,_⟩:=cc;exact⟨o,g⟩
 keep:=λ⟨⟨old,ee⟩,cc⟩ k=>⟨⟨old,k e (by simp) _ ee⟩,cc.at λo g=>k c (by simp) o g⟩
 item:=λ{i s x} st h hx=>by
  obtain⟨d1,e1,rfl⟩:=pQ _ _ _ _ hx;obtain⟨vx,g1,g2⟩:=r1.get e1;obtain⟨⟨old,ee⟩,cc⟩:=st;refine wpAny_pyNext_enum_item ee cc (nR h q1 t1) (x:=vx) (by simpa using g1) ne λh' out cc' new sz k=>⟨_,rfl,?_⟩
  have eT:e≠s.heap.objs.size:=Ji (IJ ee);refine Ed (s:={s with heap:=h',toks:=s.toks+1}) out λk2 e2 m2=>⟨⟨⟨rfl,rfl⟩,λb o hb g=>ai m2 (λw=>hb (by simp[w])) (k b o (λz=>hb (by simp[z])) (λz=>hb (by simp[z])) g)⟩,⟨⟨_,e2⟩,cc'.at λo g=>ai m2 (Jb ne) g⟩,.inr ⟨s.heap.objs.size,_,IM _,ai m2 (Jb eT) new,R.pairN h (IM _) ⟨_,by rw[K4]⟩ g2⟩⟩
 done:=λ{s} ⟨⟨old,ee⟩,cc⟩ h=>wpAny_pyNext_enum_end hh ee cc (nR h q1 t1) (by simp[pW,r1.length]) λh' k=>⟨rfl,⟨rfl,rfl⟩,λb o hb q=>k b o (λz=>hb (by simp[z])) q⟩
 self:=λ⟨⟨old,ee⟩,cc⟩ h=>wpAny_pyIter_enum ee h
set_option tactic.hygienic true in
theorem CV (g:Bn X "enumerate") (h:DE X m a fa):DI X m (.Tuple elts x1 tp) (.Call (.Name "enumerate" p) [a] [] pos) (λδ=>pf (fa δ)):=⟨rfl,λ{M δ s ds Q} I e k=>by
 unfold pf at e;split at e<;>cases e
 rename_i q0;refine eX g boot_enumerate h I q0 λv s1 M1 x1 I1 r=>?_
 obtain⟨c,o,vs,rfl,q,t,rs⟩:=r;refine xh (p:=c) (t.is I1.heap q) λh' ee cc kk=>?_
 refine wpAny_pyIter_enum (s:={s1 with heap:=h'}) ee (k _ _ _ _ _ x1 (I1.kp kk) (wY I.ok.room.hd (Lx (Kj _)) q t rs) ⟨⟨_,ee⟩,cc⟩ λb hb=>I1.fresh ?_)
 simp only[Jo,JE,or_false]at hb
 rcases hb with rfl|rfl
 ·exact LQ _
 ·exact IM _⟩
noncomputable def xn (x:Option D):Option D:=match x with|some (.int j)=>if decide (0<=j/\j<=1000)=V then U (.lst (iK 0 j.toNat)) else B|_=>B
theorem E0:∀{n:Nat}{ds:List D}{vs:List IA},ds.length=vs.length->(∀(i:Nat) (h:i<ds.length),∃v,vs[i]?=U v/\R m M ds[i] v)->Rs m M ds vs
 |_,[],[],_,_=>rfl
 |n,d::ds,v::vs,e,h=>⟨v,vs,rfl,by obtain⟨v',h1,h2⟩:=h 0 (by simp);cases h1;exact h2,E0 (n:=n) (by simpa using e) λi hi=>by obtain⟨v',h1,h2⟩:=h (i+1) (by simpa using hi);exact⟨v',by simpa using h1,by simpa using h2⟩⟩
set_option tactic.hygienic true in
theorem AP (gl:Bn X "list") (gr:Bn X "range") (h:DE X m a fa):DF X (.Call (.Name "list" p) [.Call (.Name "range" p2) [a] [] pos2] [] pos) (λδ=>xn (fa δ)):=⟨rfl,λ{M δ s d Q} I e k=>by
 unfold xn at e;split at e<;>try cases e
 split at e<;>cases e
 rename_i j q0 hj;have hj:=of_decide_eq_true hj;refine Kg (I.bltn gl (by rfl:bootBuiltins "list"=U (.type "list")) (Mk ?_ rfl rfl))
 refine Ke (eX gr boot_range h I q0 λv s1 M1 x1 I1 r=>?_)
 obtain⟨t,rfl⟩:=r;refine call_range_1 (KV ?_)
 refine call_list_range (n:=j.toNat) I.ok.room.hd (Pi ..) (small_one (by lia) (by lia) (by lia) (by lia)) (by rw[rangeSize_one];split<;>lia) (by lia) λh' tk acc c' hk hS hacc=>?_
 have I2:=(I1.push (t:=s1.toks+1) (o:=_)).kp (s':={s1 with heap:=h',toks:=tk}) hk
 have lz:1000<=sizeLine:=by decide
 have ha:=hacc.1;refine k _ _ _ _ x1 I2 (I1.fresh (by rw[JG];exact LQ _)) hS ⟨acc.toList,⟨by simp;lia,c',by simp⟩,E0 (n:=0) (by simp[iK,ha]) λi hi=>?_⟩
 simp only[iK,IC,LI]at hi;obtain⟨t,e⟩:=hacc.2 i acc[i] (by simp[ha,hi])
 refine⟨acc[i],by simp[ha,hi],?_⟩
 rw[show(iK 0 j.toNat)[i]=.int i by simp[iK]];exact⟨t,by rw[e];simp⟩⟩
end
end L2
namespace SM
open PySem PyProof.Rows
structure OrdK (LT:IQ->IQ->Bool):Prop where
 asym:∀x y,LT x y=V->LT y x=Y
 tr:∀x y z,LT y x=Y->LT z y=Y->LT z x=Y
theorem OrdK.irr {LT:IQ->IQ->Bool}(O:OrdK LT) (x:IQ):LT x x=Y:=by
 cases h:LT x x with
 |false=>rfl
 |true=>exact h.symm.trans (O.asym x x h)
noncomputable def Ans (prog:J9) (w:KB) (A:Jj) (s:IB) (κ:Mc) (LT:IQ->IQ->Bool) (T:Array IQ):Prop:=
 ∀x∈T,∀y∈T,∀C:Bool->IB->Prop,C (LT x y) s->wpAny (model prog w) A (keyLt' κ x.1 y.1) C (λ_ _=>False) s
noncomputable abbrev nK:IQ:=(Kv,Kv)
noncomputable def K (a:Array IQ) (i:Nat):IQ:=(a[i]?).getD nK
theorem H0 {a:Array IQ}{i:Nat}(h:i<a.size):a[i]?=U (K a i):=by unfold K;simp_all
theorem Db {a:Array IQ}{i:Nat}(h:i<a.size):K a i∈a:=by unfold K;simp_all
theorem ER {a b:Array IQ}{i j:Nat}(h:a[i]?=b[j]?):K a i=K b j:=by unfold K;rw[h]
theorem nz {a:Array IQ}{i j:Nat}(hj:j<=a.size) (k:Nat):K (mirror a i j ((j - i) / 2)) k=if i<=k/\k<j then K a (i+j - 1 - k) else K a k:=by
 have e:=getElem?_mirror_all (i:=i) hj k
 by_cases h:i<=k/\k<j
 ·rw[if_pos h]at e⊢;exact ER e
 ·rw[if_neg h]at e⊢;exact ER e
theorem EK {a:Array IQ}{src d:Nat}(hs:src<a.size) (hd:d<=src) (k:Nat):K (bubble a src d) k=if k=src - d then K a src else if src - d<k/\k<=src then K a (k - 1) else K a k:=by
 have e:=getElem?_bubble hs d hd k
 by_cases h:k=src - d
 ·rw[if_pos h]at e⊢;exact ER e
 ·rw[if_neg h]at e⊢
  by_cases h2:src - d<k/\k<=src
  ·rw[if_pos h2]at e⊢;exact ER e
  ·rw[if_neg h2]at e⊢;exact ER e
section
variable{prog:J9}{w:KB}{A:Jj}{E:IA->IB->Prop}{s:IB}{LT:IQ->IQ->Bool}{T:Array IQ}{κ:Mc}{st:JB}
noncomputable def Up (LT:IQ->IQ->Bool) (a:Array IQ) (i j:Nat):Prop:=∀p q,i<=p->p<=q->q<j->LT (K a q) (K a p)=Y
noncomputable def Dn (LT:IQ->IQ->Bool) (a:Array IQ) (i j:Nat):Prop:=∀p q,i<=p->p<=q->q<j->LT (K a p) (K a q)=Y
theorem Up.one (O:OrdK LT) {a:Array IQ}{i:Nat}:Up LT a i (i+1):=λp q h1 h2 h3=>by
 have e:p=q:=by lia
 rw[e];exact O.irr _
theorem Dn.one (O:OrdK LT) {a:Array IQ}{i:Nat}:Dn LT a i (i+1):=λp q h1 h2 h3=>by
 have e:p=q:=by lia
 rw[e];exact O.irr _
theorem Up.snoc (O:OrdK LT) {a:Array IQ}{i j:Nat}(h:Up LT a i j) (hij:i<j) (hl:LT (K a j) (K a (j - 1))=Y):Up LT a i (j+1):=λp q h1 h2 h3=>by
 by_cases e:q=j
 ·subst e
  by_cases e':p=q
  ·rw[e'];exact O.irr _
  ·exact O.tr _ _ _ (h p (q - 1) h1 (by lia) (by lia)) hl
 ·exact h p q h1 h2 (by lia)
theorem Dn.snoc (O:OrdK LT) {a:Array IQ}{i j:Nat}(h:Dn LT a i j) (hij:i<j) (hl:LT (K a (j - 1)) (K a j)=Y):Dn LT a i (j+1):=λp q h1 h2 h3=>by
 by_cases e:q=j
 ·subst e
  by_cases e':p=q
  ·rw[e'];exact O.irr _
  ·exact O.tr _ _ _ hl (h p (q - 1) h1 (by lia) (by lia))
 ·exact h p q h1 h2 (by lia)
theorem xB (H:Ans prog w A s κ LT T) (hk:kindOf st=κ) {x y:IQ}{Q:Option Bool->JB->Prop}(hx:x∈T) (hy:y∈T) (h:Q (U (LT x y)) st):wpS (model prog w) A E s (lt' x y) Q st:=by
 rw[lt'_eq];refine IS (M5 ?_)
 rw[hk];refine IS (NV (Ln (KP (H x hx y hy (λb s'=>s'=s/\wpS (model prog w) A E s (pure (U b)) Q st) ⟨rfl,IV h⟩) (λ_ _ h=>h) λ_ _ h=>h.elim)))
theorem aE {a:Array IQ}{i:Nat}{Q:IQ->JB->Prop}(hi:i<a.size) (h:Q (K a i) st):wpS (model prog w) A E s (elem' a i) Q st:=by
 rw[elem'_eq,H0 hi];exact IV h
theorem jY (H:Ans prog w A s κ LT T) (hk:kindOf st=κ) (hp:(arrOf st).Perm T) {i j:Nat}{Q:Option Bool->JB->Prop}(hi:i<T.size) (hj:j<T.size) (h:Q (U (LT (K (arrOf st) i) (K (arrOf st) j))) st):
  wpS (model prog w) A E s (ltAt' i j) Q st:=by
 have hz:=hp.size_eq;rw[ltAt'_eq];refine IS (M5 ?_)
 exact IS (aE (by lia) (IS (aE (by lia) (xB H hk (hp.mem_iff.mp (Db (by lia))) (hp.mem_iff.mp (Db (by lia))) h))))
structure Chg (T a:Array IQ) (lo:Nat) (a':Array IQ):Prop where
 perm:a'.Perm T
 keep:∀k,k<lo->K a' k=K a k
theorem Chg.rev {a a':Array IQ}{lo i j:Nat}(h:Chg T a lo a') (hi:lo<=i) (hj:j<=T.size):Chg T a lo (mirror a' i j ((j - i) / 2)):=by
 have hz:=h.perm.size_eq;refine⟨(mirror_perm a' i j _).trans h.perm,λk hk=>?_⟩
 rw[nz (by lia),if_neg (by lia)];exact h.keep k hk
theorem Chg.bub {a a':Array IQ}{lo src d:Nat}(h:Chg T a lo a') (hs:src<T.size) (hd:lo+d<=src):Chg T a lo (bubble a' src d):=by
 have hz:=h.perm.size_eq;refine⟨(bubble_perm a' src d).trans h.perm,λk hk=>?_⟩
 rw[EK (by lia) (by lia),if_neg (by lia),if_neg (by lia)];exact h.keep k hk
theorem AO {a:Array IQ}{i j:Nat}(hj:j<=a.size) (h:Dn LT a i j):Up LT (mirror a i j ((j - i) / 2)) i j:=λp q h1 h2 h3=>by
 rw[nz hj,nz hj,if_pos ⟨by lia,h3⟩,if_pos ⟨h1,by lia⟩]
 exact h _ _ (by lia) (by lia) (by lia)
theorem yQ {a:Array IQ}{lo i j:Nat}(hj:j<=a.size) (hi:lo<=i) (h:Dn LT a lo j) (e:∀p q,i<=p->i<=q->p<j->q<j->LT (K a p) (K a q)=Y):Dn LT (mirror a i j ((j - i) / 2)) lo j:=λp q h1 h2 h3=>by
 rw[nz hj,nz hj]
 by_cases c1:i<=p/\p<j
 ·rw[if_pos c1]
  by_cases c2:i<=q/\q<j
  ·rw[if_pos c2];exact e _ _ (by lia) (by lia) (by lia) (by lia)
  ·lia
 ·rw[if_neg c1]
  by_cases c2:i<=q/\q<j
  ·rw[if_pos c2];exact h _ _ h1 (by lia) (by lia)
  ·rw[if_neg c2];exact h _ _ h1 h2 h3
theorem BZ (O:OrdK LT) (H:Ans prog w A s κ LT T) (hk:kindOf st=κ) {a:Array IQ}(hc:(arrOf st).Perm T) {lo n nrem:Nat}(hz:lo+nrem<=T.size) (hn:1<=n) (hnn:n<=nrem) (hu:Up LT (arrOf st) lo (lo+n))
  {β:Type}{Q:β->JB->Prop}{f:Option (Option Nat)×Nat->StateT JB Op β}(h:∀m,n<=m->m<=nrem->Up LT (arrOf st) lo (lo+m)->(m<nrem->LT (K (arrOf st) (lo+m)) (K (arrOf st) (lo+m - 1))=V)->wpS (model prog w) A E s (f (B,m)) Q st):
  wpS (model prog w) A E s (forIn [n:nrem] ((B,n):Option (Option Nat)×Nat) (λ_ r=>do
   let x <-ltAt' (lo+r.2) (lo+r.2 - 1)
   match x with
   |some smaller=>if smaller=V then pure (ForInStep.done (B,r.2)) else pure (KU (B,r.2+1))
   |_=>pure (ForInStep.done (U B,r.2))) >>= f) Q st:=by
 refine IS (Lk (Kr (I:=λx c st'=>c=(B,x)/\st'=st/\n<=x/\Up LT (arrOf st) lo (lo+x)) (Q:=λc st'=>∃m,c=(B,m)/\st'=st/\n<=m/\m<=nrem/\Up LT (arrOf st) lo (lo+m)/\(m<nrem->LT (K (arrOf st) (lo+m)) (K (arrOf st) (lo+m - 1))=V)) ?_ ?_ ⟨rfl,rfl,IM _,hu⟩) ?_)
 ·intro x c st' h1 h2 hz;obtain⟨rfl,rfl,h3,h4⟩:=hz
  dsimp only;refine IS (jY H hk hc (by lia) (by lia) ?_)
  cases hl:LT (K (arrOf st') (lo+x)) (K (arrOf st') (lo+x - 1))with
  |true=>exact IV ⟨x,rfl,rfl,h3,by lia,h4,λ_=>hl⟩
  |false=>exact IV ⟨rfl,rfl,by lia,h4.snoc O (by lia) hl⟩
 ·intro c st' hz;obtain⟨rfl,rfl,h3,h4⟩:=hz
  have e:max n nrem=nrem:=by lia
  rw[e]at h4⊢;exact⟨nrem,rfl,rfl,hnn,IM _,h4,λh=>absurd h (JV _)⟩
 simp_all
end
end SM
namespace SM
open PySem PyProof.Rows
section
variable{prog:J9}{w:KB}{A:Jj}{E:IA->IB->Prop}{s:IB}{LT:IQ->IQ->Bool}{T:Array IQ}{κ:Mc}{st:JB}
noncomputable def HI (LT:IQ->IQ->Bool) (a:Array IQ) (i j:Nat):Prop:=∀p q,i<=p->i<=q->p<j->q<j->LT (K a p) (K a q)=Y
theorem zi (O:OrdK LT) (H:Ans prog w A s κ LT T) (hk:kindOf st=κ) {a a':Array IQ}{lo n nrem:Nat}(hC:Chg T a lo a') (hz:lo+nrem<=T.size) (hn:1<=n) (hnn:n<=nrem) (hd:Dn LT a' lo (lo+n))
  {Q:Option Nat->JB->Prop}(h:∀m a'',1<=m->m<=nrem->Chg T a lo a''->Up LT a'' lo (lo+m)->Q (U m) (setArr st a'')):
  wpS (model prog w) A E s (do
   let mut n:=n
   reverseSlice' lo (lo+n)
   for _ in [n:nrem] do
    let U smaller <-ltAt' (lo+n) (lo+n - 1)|return B
    if smaller then break
    n:=n+1
   return U n) Q (setArr st a'):=by
 have e:=hC.perm.size_eq;refine IS (Lm ?_)
 have C':=hC.rev (i:=lo) (j:=lo+n) (IM _) (by lia)
 have PW:=AO (LT:=LT) (a:=a') (i:=lo) (j:=lo+n) (by lia) hd
 exact BZ (st:=setArr st (mirror a' lo (lo+n) ((lo+n - lo) / 2))) (a:=a) O H hk C'.perm hz hn hnn PW λm h1 h2 h3 _=>IV (h m _ (by lia) h2 C' h3)
theorem yI (O:OrdK LT) (H:Ans prog w A s κ LT T) (hk:kindOf st=κ) {a a':Array IQ}{lo n nrem:Nat}(hC:Chg T a lo a') (hz:lo+nrem<=T.size) (hn:1<=n) (hnn:n<nrem) (hd:Dn LT a' lo (lo+n)) (hl:LT (K a' (lo+n)) (K a' (lo+n - 1))=V)
  {Q:Option Nat->JB->Prop}(h:∀m a'',1<=m->m<=nrem->Chg T a lo a''->Up LT a'' lo (lo+m)->Q (U m) (setArr st a'')):
  wpS (model prog w) A E s (do
   let mut n:=n
   rule "list.sort.descending-run"
   n:=n+1
   let mut neq:=0
   for _ in [n:nrem] do
    let U smaller <-ltAt' (lo+n) (lo+n - 1)|return B
    if smaller then
     if neq>0 then reverseSlice' (lo+n - (neq+1)) (lo+n)
     neq:=0
    else
     let U larger <-ltAt' (lo+n - 1) (lo+n)|return B
     if larger then break
     neq:=neq+1
    n:=n+1
   if neq>0 then reverseSlice' (lo+n - (neq+1)) (lo+n)
   reverseSlice' lo (lo+n)
   for _ in [n:nrem] do
    let U smaller <-ltAt' (lo+n) (lo+n - 1)|return B
    if smaller then break
    n:=n+1
   return U n) Q (setArr st a'):=by
 refine IS (NV (Kf ⟨rfl,?_⟩))
 have d1:=hd.snoc O (by lia) (O.asym _ _ hl)
 refine IS (Lk (Kr (I:=λx c st'=>∃q a1,c=(B,x,q)/\st'=setArr st a1/\Chg T a lo a1/\n+1<=x/\q+1<=x/\Dn LT a1 lo (lo+x)/\HI LT a1 (lo+x - (q+1)) (lo+x))
  (Q:=λc st'=>∃x q a1,c=(B,x,q)/\st'=setArr st a1/\Chg T a lo a1/\x<=nrem/\n+1<=x/\q+1<=x/\Dn LT a1 lo (lo+x)/\HI LT a1 (lo+x - (q+1)) (lo+x)) ?_ ?_ ⟨0,a',rfl,rfl,hC,IM _,by lia,d1,λp q h1 h2 h3 h4=>by rw[show p=q by lia];exact O.irr _⟩) ?_)
 ·intro x c st' h1 h2 hz;obtain⟨q,a1,rfl,rfl,C1,h3,h4,D1,L1⟩:=hz
  have e:=C1.perm.size_eq;dsimp only;refine IS (jY (st:=setArr st a1) H hk C1.perm (by lia) (by lia) ?_)
  cases hl:LT (K a1 (lo+x)) (K a1 (lo+x - 1))with
  |true=>
   have D2:=D1.snoc O (by lia) (O.asym _ _ hl)
   by_cases hq:q>0
   ·rw[if_pos hq,reverseSlice'_eq]
    refine IS (Lm (IV ⟨0,_,rfl,rfl,C1.rev (by lia) (by lia),by lia,by lia,?_,λp q h1 h2 h3 h4=>by rw[show p=q by lia];exact O.irr _⟩))
    have D3:=yQ (LT:=LT) (a:=a1) (lo:=lo) (i:=lo+x - (q+1)) (j:=lo+x) (by lia) (by lia) D1 L1
    refine D3.snoc O (by lia) ?_
    rw[nz (by lia),nz (by lia),if_pos (by lia),if_neg (by lia)]
    exact D2 _ _ (by lia) (by lia) (by lia)
   ·rw[if_neg hq]
    exact IV ⟨0,a1,rfl,rfl,C1,by lia,by lia,D2,λp q h1 h2 h3 h4=>by rw[show p=q by lia];exact O.irr _⟩
  |false=>
   refine IS (jY (st:=setArr st a1) H hk C1.perm (by lia) (by lia) ?_)
   cases hg:LT (K a1 (lo+x - 1)) (K a1 (lo+x))with
   |true=>exact IV ⟨x,q,a1,rfl,rfl,C1,by lia,h3,h4,D1,L1⟩
   |false=>
    refine IV ⟨q+1,a1,rfl,rfl,C1,by lia,by lia,D1.snoc O (by lia) hg,λp p' h1 h2 h5 h6=>?_⟩
    have key:∀p,lo+(x+1) - (q+1+1)<=p->p<lo+(x+1)->LT (K a1 p) (K a1 (lo+x - 1))=Y/\LT (K a1 (lo+x - 1)) (K a1 p)=Y:=λp h1 h2=>by
     by_cases e:p=lo+x
     ·rw[e];exact⟨hl,hg⟩
     ·exact⟨L1 _ _ (by lia) (by lia) (by lia) (by lia),L1 _ _ (by lia) (by lia) (by lia) (by lia)⟩
    exact O.tr _ _ _ (key p' h2 h6).2 (key p h1 h5).1
 ·intro c st' hz;obtain⟨q,a1,rfl,rfl,C1,h3,h4,D1,L1⟩:=hz
  rw[show max (n+1) nrem=nrem by lia]at*
  exact⟨nrem,q,a1,rfl,rfl,C1,IM _,h3,h4,D1,L1⟩
 ·intro c st' hz;obtain⟨x,q,a1,rfl,rfl,C1,h1,h3,h4,D1,L1⟩:=hz
  have e:=C1.perm.size_eq;dsimp only
  by_cases hq:q>0
  ·rw[if_pos hq]
   refine IS ?_
   exact Lm (zi O H hk (C1.rev (by lia) (by lia)) hz (by lia) h1 (yQ (LT:=LT) (a:=a1) (lo:=lo) (i:=lo+x - (q+1)) (j:=lo+x) (by lia) (by lia) D1 L1) h)
  ·rw[if_neg hq]
   exact zi O H hk C1 hz (by lia) h1 D1 h
theorem sX (O:OrdK LT) (H:Ans prog w A s κ LT T) (hk:kindOf st=κ) {lo nrem:Nat}(hp:(arrOf st).Perm T) (hz:lo+nrem<=T.size) (hn:1<=nrem)
  {Q:Option Nat->JB->Prop}(h:∀m a',1<=m->m<=nrem->Chg T (arrOf st) lo a'->Up LT a' lo (lo+m)->Q (U m) (setArr st a')):wpS (model prog w) A E s (countRun' lo nrem) Q st:=by
 have e:=hp.size_eq;have C0:Chg T (arrOf st) lo (arrOf st):=⟨hp,λ_ _=>rfl⟩
 refine BZ (a:=arrOf st) O H hk hp hz (IM 1) hn (Up.one O) λm h1 h2 h3 h4=>?_
 dsimp only
 by_cases hm:m=nrem
 ·rw[if_pos (beq_iff_eq.mpr hm)]
  exact IV (h m (arrOf st) h1 h2 C0 h3)
 ·rw[if_neg (λq=>hm (beq_iff_eq.mp q))]
  have hl:=h4 (by lia)
  by_cases h5:m>1
  ·rw[if_pos h5]
   refine IS (jY H hk hp (by lia) (by lia) ?_)
   cases hr:LT (K (arrOf st) lo) (K (arrOf st) (lo+m - 1))with
   |true=>
    exact IV (h m (arrOf st) h1 h2 C0 h3)
   |false=>
    have al:HI LT (arrOf st) lo (lo+m):=λp q h1 h2 h5 h6=>O.tr _ _ _ (h3 q (lo+m - 1) h2 (by lia) (by lia)) (O.tr _ _ _ hr (h3 lo p (IM _) h1 (by lia)))
    have D1:Dn LT (arrOf st) lo (lo+m):=λp q h1 h2 h5=>al p q h1 (by lia) (by lia) h5
    refine yI O H hk (C0.rev (IM _) (by lia)) hz h1 (by lia) (yQ (LT:=LT) (a:=arrOf st) (lo:=lo) (i:=lo) (j:=lo+m) (by lia) (IM _) D1 al) ?_ h
    rw[nz (by lia),nz (by lia),if_neg (by lia),if_pos (by lia)]
    cases hc:LT (K (arrOf st) (lo+m)) (K (arrOf st) (lo+(lo+m) - 1 - (lo+m - 1)))with
    |true=>rfl
    |false=>exact absurd (O.tr _ _ _ (al (lo+(lo+m) - 1 - (lo+m - 1)) (lo+m - 1) (by lia) (by lia) (by lia) (by lia)) hc) (by lia)
  ·rw[if_neg h5]
   have hm1:m=1:=by lia
   exact yI O H hk C0 hz h1 (by lia) (by subst hm1;exact Dn.one O) hl h
end
end SM
namespace SM
open PySem PyProof.Rows
section
variable{prog:J9}{w:KB}{A:Jj}{E:IA->IB->Prop}{s:IB}{LT:IQ->IQ->Bool}{T:Array IQ}{κ:Mc}{st:JB}
theorem Fq (O:OrdK LT) {a:Array IQ}{lo k l:Nat}(hs:lo+k<a.size) (hl:l<=k) (hu:Up LT a lo (lo+k)) (h1:∀p,p<l->LT (K a (lo+k)) (K a (lo+p))=Y) (h2:∀p,l<=p->p<k->LT (K a (lo+k)) (K a (lo+p))=V):
  Up LT (bubble a (lo+k) (lo+k - (lo+l))) lo (lo+(k+1)):=λp q g1 g2 g3=>by
 have h2':∀p,lo+l<=p->p<lo+k->LT (K a p) (K a (lo+k))=Y:=λp a1 a2=>by
  have:=h2 (p - lo) (by lia) (by lia)
  rw[show lo+(p - lo)=p by lia]at this
  exact O.asym _ _ this
 have h1':∀p,lo<=p->p<lo+l->LT (K a (lo+k)) (K a p)=Y:=λp a1 a2=>by
  have:=h1 (p - lo) (by lia)
  simp_all
 have e:lo+k - (lo+k - (lo+l))=lo+l:=by lia
 rw[EK hs (by lia),EK hs (by lia),e]
 repeat' split
 all_goals first
  |exact O.irr _
  |(exfalso;lia)
  |exact h2' _ (by lia) (by lia)
  |exact h1' _ (by lia) (by lia)
  |exact hu _ _ (by lia) (by lia) (by lia)
theorem nX (O:OrdK LT) (H:Ans prog w A s κ LT T) (hk:kindOf st=κ) {lo n ok:Nat}(hp:(arrOf st).Perm T) (hz:lo+n<=T.size) (hok:ok<=n) (hn:1<=n) (hu:Up LT (arrOf st) lo (lo+ok))
  {Q:Bool->JB->Prop}(h:∀a',Chg T (arrOf st) lo a'->Up LT a' lo (lo+n)->Q V (setArr st a')):wpS (model prog w) A E s (binarySort' lo n ok) Q st:=by
 have e:=hp.size_eq;have C0:Chg T (arrOf st) lo (arrOf st):=⟨hp,λ_ _=>rfl⟩
 have hu1:Up LT (arrOf st) lo (lo+max ok 1):=by
  by_cases c:ok=0
  ·subst c;exact Up.one O
  ·rw[show max ok 1=ok by lia];exact hu
 rw[binarySort'_eq];refine IS (Lk (Kr (I:=λx c st'=>c=(B,())/\∃a1,st'=setArr st a1/\Chg T (arrOf st) lo a1/\Up LT a1 lo (lo+x))
  (Q:=λc st'=>c=(B,())/\∃a1,st'=setArr st a1/\Chg T (arrOf st) lo a1/\Up LT a1 lo (lo+n)) ?_ ?_ ⟨rfl,arrOf st,rfl,C0,hu1⟩) ?_)
 ·intro k c st' h1 h2 hz;obtain⟨rfl,a1,rfl,C1,U1⟩:=hz
  have e1:=C1.perm.size_eq;refine IS (Lk (Kr (I:=λx c st'=>∃l r,c=(B,l,r)/\st'=setArr st a1/\l<=r/\r<=k/\r - l+x<=k/\(∀p,p<l->LT (K a1 (lo+k)) (K a1 (lo+p))=Y)/\∀p,r<=p->p<k->LT (K a1 (lo+k)) (K a1 (lo+p))=V)
   (Q:=λc st'=>∃l r,c=(B,l,r)/\st'=setArr st a1/\l<=k/\(∀p,p<l->LT (K a1 (lo+k)) (K a1 (lo+p))=Y)/\∀p,l<=p->p<k->LT (K a1 (lo+k)) (K a1 (lo+p))=V) ?_ ?_ ⟨0,k,rfl,rfl,Jf _,IM _,by lia,λp hp=>absurd hp (My _),λp q1 q2=>absurd q2 (by lia)⟩) ?_)
  ·intro x c st' g1 g2 hz;obtain⟨l,r,rfl,rfl,g3,g4,g5,g6,g7⟩:=hz
   dsimp only
   by_cases hlr:l>=r
   ·rw[if_pos hlr]
    have:l=r:=by lia
    exact IV ⟨l,r,rfl,rfl,by lia,g6,by rw[this];exact g7⟩
   ·rw[if_neg hlr]
    refine IS (jY (st:=setArr st a1) H hk C1.perm (by lia) (by lia) ?_)
    cases hl:LT (K a1 (lo+k)) (K a1 (lo+(l+r) / 2))with
    |true=>
     refine IV ⟨l,(l+r) / 2,rfl,rfl,by lia,by lia,by lia,g6,λp q1 q2=>?_⟩
     cases hc:LT (K a1 (lo+k)) (K a1 (lo+p))with
     |true=>rfl
     |false=>exact absurd (O.tr _ _ _ (U1 (lo+(l+r) / 2) (lo+p) (by lia) (by lia) (by lia)) hc) (by rw[hl];exact λq=>nomatch q)
    |false=>
     refine IV ⟨(l+r) / 2+1,r,rfl,rfl,by lia,g4,by lia,λp q1=>?_,g7⟩
     exact O.tr _ _ _ (U1 (lo+p) (lo+(l+r) / 2) (by lia) (by lia) (by lia)) hl
  ·intro c st' hz;obtain⟨l,r,rfl,rfl,g3,g4,g5,g6,g7⟩:=hz
   have:l=r:=by lia
   exact⟨l,r,rfl,rfl,by lia,g6,by rw[this];exact g7⟩
  ·intro c st' hz;obtain⟨l,r,rfl,rfl,g1,g2,g3⟩:=hz
   dsimp only;exact IS (Lm (IV ⟨rfl,_,rfl,C1.bub (by lia) (by lia),Fq O (show lo+k<a1.size by lia) g1 U1 g2 g3⟩))
 ·simp_all
 ·intro c st' hz;obtain⟨rfl,a1,rfl,C1,U1⟩:=hz
  exact IV (h a1 C1 U1)
noncomputable def fu:Bool->IQ->Array IQ->Nat->Nat->Nat->StateT JB Op (Option Nat):=sortPriv%PySem.Builtin.gallop
noncomputable def bey (left:Bool) (key:IQ) (arr:Array IQ) (base i:Nat):StateT JB Op (Option Bool):=do
 let x <-elem' arr (base+i)
 if left then lt' x key else return (<-lt' key x).map (!·)
theorem vW (left:Bool) (key:IQ) (arr:Array IQ) (base n hint:Nat):fu left key arr base n hint=(do
 let mut lastofs:=0
 let mut ofs:=1
 let mut lo:=0
 let mut hi:=0
 let U right <-bey left key arr base hint|return B
 if right then
  let maxofs:=n - hint
  for _ in [0:n] do
   if ofs>=maxofs then break
   let U more <-bey left key arr base (hint+ofs)|return B
   if !more then break
   lastofs:=ofs
   ofs:=2*ofs+1
  lo:=hint+lastofs+1
  hi:=hint+min ofs maxofs
 else
  let maxofs:=hint+1
  for _ in [0:n] do
   if ofs>=maxofs then break
   let U found <-bey left key arr base (hint - ofs)|return B
   if found then break
   lastofs:=ofs
   ofs:=2*ofs+1
  lo:=hint+1 - min ofs maxofs
  hi:=hint - lastofs
 for _ in [0:n] do
  if lo>=hi then break
  let m:=lo+(hi - lo) / 2
  let U more <-bey left key arr base m|return B
  if more then lo:=m+1 else hi:=m
 return U hi):=rfl
noncomputable def fB (LT:IQ->IQ->Bool) (left:Bool) (key:IQ) (arr:Array IQ) (base i:Nat):Bool:=if left then LT (K arr (base+i)) key else !LT key (K arr (base+i))
theorem uX (H:Ans prog w A s κ LT T) (hk:kindOf st=κ) {left:Bool}{key:IQ}{arr:Array IQ}{base i:Nat}{Q:Option Bool->JB->Prop}(hkey:key∈T) (hi:base+i<arr.size) (hx:K arr (base+i)∈T)
  (h:Q (U (fB LT left key arr base i)) st):wpS (model prog w) A E s (bey left key arr base i) Q st:=by
 refine IS (aE hi ?_)
 cases left with
 |true=>exact xB H hk hx hkey h
 |false=>
  exact IS (xB H hk hkey hx (IV h))
theorem nW (O:OrdK LT) {left:Bool}{key:IQ}{arr:Array IQ}{base n i j:Nat}(hu:Up LT arr base (base+n)) (hij:i<=j) (hj:j<n) (h:fB LT left key arr base j=V):fB LT left key arr base i=V:=by
 have u:=hu (base+i) (base+j) (by lia) (by lia) (by lia)
 unfold fB at h⊢;cases left with
 |true=>
  simp only[if_true]at h⊢;cases hc:LT (K arr (base+i)) key with
  |true=>rfl
  |false=>exact absurd (O.tr _ _ _ hc u) (by lia)
 |false=>
  simp only[IT,if_false,LL]at h⊢;exact O.tr _ _ _ u h
theorem Ct (O:OrdK LT) (H:Ans prog w A s κ LT T) (hk:kindOf st=κ) {left:Bool}{key:IQ}{arr:Array IQ}{base n:Nat}{Q:Option Nat->JB->Prop}(hkey:key∈T) (hb:base+n<=arr.size) (hx:∀i,i<n->K arr (base+i)∈T) (hu:Up LT arr base (base+n))
  {lo hi:Nat}(h1:lo<=hi) (h2:hi<=n) (h3:∀i,i<lo->fB LT left key arr base i=V) (h4:hi<n->fB LT left key arr base hi=Y)
  (h:∀k,k<=n->(∀i,i<k->fB LT left key arr base i=V)->(∀i,k<=i->i<n->fB LT left key arr base i=Y)->Q (U k) st):
  wpS (model prog w) A E s (do
   let mut lo:=lo
   let mut hi:=hi
   for _ in [0:n] do
    if lo>=hi then break
    let m:=lo+(hi - lo) / 2
    let U more <-bey left key arr base m|return B
    if more then lo:=m+1 else hi:=m
   return U hi) Q st:=by
 have fin:∀k,k<=n->(∀i,i<k->fB LT left key arr base i=V)->(k<n->fB LT left key arr base k=Y)->Q (U k) st:=λk a1 a2 a3=>h k a1 a2 λi b1 b2=>by
  cases hc:fB LT left key arr base i with
  |false=>rfl
  |true=>exact absurd (nW O hu b1 b2 hc) (by rw[a3 (by lia)];exact λq=>nomatch q)
 refine IS (Lk (Kr (I:=λx c st'=>∃lo hi,c=(B,lo,hi)/\st'=st/\lo<=hi/\hi<=n/\hi - lo+x<=n/\(∀i,i<lo->fB LT left key arr base i=V)/\(hi<n->fB LT left key arr base hi=Y))
  (Q:=λc st'=>∃hi,c=(B,hi,hi)/\st'=st/\hi<=n/\(∀i,i<hi->fB LT left key arr base i=V)/\(hi<n->fB LT left key arr base hi=Y)) ?_ ?_ ⟨lo,hi,rfl,rfl,h1,h2,by lia,h3,h4⟩) ?_)
 ·intro x c st' g1 g2 hz;obtain⟨lo,hi,rfl,rfl,g3,g4,g5,g6,g7⟩:=hz
  dsimp only
  by_cases hlr:lo>=hi
  ·rw[if_pos hlr]
   obtain rfl:lo=hi:=by lia
   exact IV ⟨lo,rfl,rfl,g4,g6,g7⟩
  ·rw[if_neg hlr]
   refine IS (uX H hk hkey (by lia) (hx _ (by lia)) ?_)
   cases hl:fB LT left key arr base (lo+(hi - lo) / 2)with
   |true=>exact IV ⟨lo+(hi - lo) / 2+1,hi,rfl,rfl,by lia,g4,by lia,λi hi'=>nW O hu (show i<=lo+(hi - lo) / 2 by lia) (by lia) hl,g7⟩
   |false=>exact IV ⟨lo,lo+(hi - lo) / 2,rfl,rfl,by lia,by lia,by lia,g6,λ_=>hl⟩
 ·intro c st' hz;obtain⟨lo,hi,rfl,rfl,g3,g4,g5,g6,g7⟩:=hz
  obtain rfl:lo=hi:=by lia
  exact⟨lo,rfl,rfl,g4,g6,g7⟩
 ·intro c st' hz;obtain⟨hi,rfl,rfl,g4,g6,g7⟩:=hz
  exact IV (fin hi g4 g6 g7)
theorem cZ (O:OrdK LT) (H:Ans prog w A s κ LT T) (hk:kindOf st=κ) {left:Bool}{key:IQ}{arr:Array IQ}{base n hint:Nat}{Q:Option Nat->JB->Prop}(hkey:key∈T) (hb:base+n<=arr.size) (hh:hint<n) (hx:∀i,i<n->K arr (base+i)∈T) (hu:Up LT arr base (base+n))
  (h:∀k,k<=n->(∀i,i<k->fB LT left key arr base i=V)->(∀i,k<=i->i<n->fB LT left key arr base i=Y)->Q (U k) st):wpS (model prog w) A E s (fu left key arr base n hint) Q st:=by
 rw[vW];refine IS (uX H hk hkey (by lia) (hx _ hh) ?_)
 cases hr:fB LT left key arr base hint with
 |true=>
  refine IS (Lk (Kr (I:=λx c st'=>∃la of,c=(B,la,of)/\st'=st/\x+1<=of/\la+1<=of/\la<n - hint/\fB LT left key arr base (hint+la)=V)
   (Q:=λc st'=>∃la of,c=(B,la,of)/\st'=st/\la+1<=of/\la<n - hint/\fB LT left key arr base (hint+la)=V/\(of<n - hint->fB LT left key arr base (hint+of)=Y)) ?_ ?_ ⟨0,1,rfl,rfl,by lia,by lia,by lia,hr⟩) ?_)
  ·intro x c st' g1 g2 hz;obtain⟨la,of,rfl,rfl,g3,g4,g5,g6⟩:=hz
   dsimp only
   by_cases ho:of>=n - hint
   ·rw[if_pos ho]
    exact IV ⟨la,of,rfl,rfl,g4,g5,g6,λq=>absurd q (by lia)⟩
   ·rw[if_neg ho]
    refine IS (uX H hk hkey (by lia) (hx _ (by lia)) ?_)
    cases hm:fB LT left key arr base (hint+of)with
    |false=>exact IV ⟨la,of,rfl,rfl,g4,g5,g6,λ_=>hm⟩
    |true=>exact IV ⟨of,2*of+1,rfl,rfl,by lia,by lia,by lia,hm⟩
  ·intro c st' hz;obtain⟨la,of,rfl,rfl,g3,g4,g5,g6⟩:=hz
   exact⟨la,of,rfl,rfl,g4,g5,g6,λq=>absurd q (by lia)⟩
  ·intro c st' hz;obtain⟨la,of,rfl,rfl,g4,g5,g6,g7⟩:=hz
   dsimp only;refine Ct O H hk hkey hb hx hu (by lia) (by lia) (λi hi=>nW O hu (show i<=hint+la by lia) (by lia) g6) (λhlt=>?_) h
   by_cases c:of<n - hint
   ·rw[show min of (n - hint)=of by lia];exact g7 c
   ·lia
 |false=>
  refine IS (Lk (Kr (I:=λx c st'=>∃la of,c=(B,la,of)/\st'=st/\x+1<=of/\la+1<=of/\la<=hint/\fB LT left key arr base (hint - la)=Y)
   (Q:=λc st'=>∃la of,c=(B,la,of)/\st'=st/\la+1<=of/\la<=hint/\fB LT left key arr base (hint - la)=Y/\(of<hint+1->fB LT left key arr base (hint - of)=V)) ?_ ?_ ⟨0,1,rfl,rfl,by lia,by lia,by lia,hr⟩) ?_)
  ·intro x c st' g1 g2 hz;obtain⟨la,of,rfl,rfl,g3,g4,g5,g6⟩:=hz
   dsimp only
   by_cases ho:of>=hint+1
   ·rw[if_pos ho]
    exact IV ⟨la,of,rfl,rfl,g4,g5,g6,λq=>absurd q (by lia)⟩
   ·rw[if_neg ho]
    refine IS (uX H hk hkey (by lia) (hx _ (by lia)) ?_)
    cases hm:fB LT left key arr base (hint - of)with
    |true=>exact IV ⟨la,of,rfl,rfl,g4,g5,g6,λ_=>hm⟩
    |false=>exact IV ⟨of,2*of+1,rfl,rfl,by lia,by lia,by lia,hm⟩
  ·intro c st' hz;obtain⟨la,of,rfl,rfl,g3,g4,g5,g6⟩:=hz
   exact⟨la,of,rfl,rfl,g4,g5,g6,λq=>absurd q (by lia)⟩
  ·intro c st' hz;obtain⟨la,of,rfl,rfl,g4,g5,g6,g7⟩:=hz
   dsimp only;refine Ct O H hk hkey hb hx hu (by lia) (by lia) (λi hi=>?_) (λ_=>g6) h
   by_cases c:of<hint+1
   ·exact nW O hu (show i<=hint - of by lia) (by lia) (g7 c)
   ·lia
end
end SM
namespace SM
open PySem PyProof.Rows
noncomputable def cb:Nat->StateT JB Op Unit:=sortPriv%PySem.Builtin.setMinGallop
noncomputable abbrev ar (st:JB) (g:Nat):JB:=JJ (kindOf st) (arrOf st) (pendingOf st) g (failedOf st)
noncomputable def nQ:Array IQ->Array IQ->StateT JB Op (Array IQ):=sortPriv%PySem.Builtin.mergeLo
noncomputable def nG:Array IQ->Array IQ->StateT JB Op (Array IQ):=sortPriv%PySem.Builtin.mergeHi
section
variable{LT:IQ->IQ->Bool}
theorem i9 (a:Array IQ) (i:Nat):K a i=(a.toList[i]?).getD nK:=by unfold K;simp
theorem jD {a:Array IQ}{i:Nat}(h:i<a.size):a.toList.drop i=[K a i]++a.toList.drop (i+1):=by
 rw[Jr (by trivial),i9];simp[h]
theorem db (a:Array IQ) (i k:Nat):a.toList.drop i=(a.extract i (i+k)).toList++a.toList.drop (i+k):=by
 rw[Mq,LX,show i+k - i=k by lia,<-List.drop_drop,K6]
theorem iN (a:Array IQ) (i:Nat):(a.extract i a.size).toList=a.toList.drop i:=by
 rw[Mq,LX];exact Lw (by simp)
theorem fO {a:Array IQ}{i:Nat}(h:a.size<=i):a.toList.drop i=[]:=Pq (by trivial)
theorem fA {a:Array IQ}{i:Nat}{x:IQ}(h:x∈a.toList.drop i):∃j,i<=j/\j<a.size/\x=K a j:=by
 obtain⟨k,hk,e⟩:=List.mem_drop_iff_getElem.mp h;simp at hk;exact⟨i+k,by lia,by lia,by rw[i9];simp[show i+k<a.size by lia,<-e]⟩
theorem fg {a:Array IQ}{i:Nat}{x:IQ}(h:x∈a.toList.take i):∃j,j<i/\j<a.size/\x=K a j:=by
 obtain⟨k,hk,e⟩:=List.mem_take_iff_getElem.mp h;simp at hk;exact⟨k,by lia,by lia,by rw[i9];simp[show k<a.size by lia,<-e]⟩
theorem bx {a:Array IQ}{i j:Nat}{x:IQ}(h:x∈(a.extract i j).toList):∃k,i<=k/\k<j/\k<a.size/\x=K a k:=by
 rw[Mq,LX]at h;obtain⟨k,hk,e⟩:=List.mem_take_iff_getElem.mp h;simp at hk;exact⟨i+k,by lia,by lia,by lia,by rw[i9];simp[show i+k<a.size by lia,<-e]⟩
theorem jB {a:Array IQ}{i:Nat}(h:i<a.size):(a.toList.take (i+1)).reverse=[K a i]++(a.toList.take i).reverse:=by
 rw[N2 (by trivial),Mz,i9];simp[h]
theorem qV (a:Array IQ) {i k:Nat}(h:i<=k):(a.toList.take k).reverse=(a.extract i k).reverse.toList++(a.toList.take i).reverse:=by
 rw[Nw,<-Mz,Mq,LX];rw[<-K6 i (a.toList.take k),List.take_take,Nat.min_eq_left h,List.drop_take]
noncomputable def R (LT:IQ->IQ->Bool) (x y:IQ):Prop:=LT y x=Y
structure J (LT:IQ->IQ->Bool) (T out ra rb:List IQ):Prop where
 pm:(out++ra++rb).Perm T
 sa:(out++ra).Pairwise (R LT)
 sb:(out++rb).Pairwise (R LT)
structure Good (LT:IQ->IQ->Bool) (T l:List IQ):Prop where
 pm:l.Perm T
 so:l.Pairwise (R LT)
variable{T out ra rb c:List IQ}
theorem J.swap (h:J LT T out ra rb):J LT T out rb ra:=⟨by
 have:=h.pm;rw[J0]at this⊢;exact((OT out List.perm_append_comm).trans this),h.sb,h.sa⟩
theorem J.push (h:J LT T out (c++ra) rb) (q:∀x∈c,∀y∈rb,LT y x=Y):J LT T (out++c) ra rb:=by
 obtain⟨h1,h2,h3⟩:=h;refine⟨by simp_all,by simp;lia,?_⟩
 rw[<-J0]at h2;rw[LO]at h3⊢;refine⟨(List.pairwise_append.mp h2).1,h3.2.1,λx hx y hy=>?_⟩
 rcases List.mem_append.mp hx with hx|hx
 ·exact h3.2.2 x hx y hy
 ·exact q x hx y hy
theorem J.done (h:J LT T out ra []):Good LT T (out++ra):=⟨by simpa using h.pm,h.sa⟩
theorem J.last {z:IQ}(h:J LT T out [z] rb) (q:∀y∈rb,LT z y=Y):Good LT T (out++rb++[z]):=by
 refine⟨h.swap.pm,?_⟩
 ·rw[LO]
  refine⟨h.sb,Ph _ _,λx hx y hy=>?_⟩
  rw[K5]at hy;subst hy
  rcases List.mem_append.mp hx with hx|hx
  ·exact(List.pairwise_append.mp h.sa).2.2 x hx y (.head _)
  ·exact q x hx
end
end SM
namespace SM
open PySem PyProof.Rows
noncomputable abbrev LS:=Option (Array IQ)×Array IQ×Nat×Nat×Nat×Nat×Nat
noncomputable abbrev dn' (a b out:Array IQ) (ia ib:Nat):Array IQ:=out++a.extract ia a.size++b.extract ib b.size
noncomputable abbrev la' (a b out:Array IQ) (ia ib:Nat):Array IQ:=out++b.extract ib b.size++a.extract ia a.size
noncomputable def loC (a b out:Array IQ) (ia ib mg ac bc:Nat):StateT JB Op (ForInStep LS):=do
 let x <-elem' a ia
 if ia+1+1==a.size then pure (.done (U (la' a b (out.push x) (ia+1) ib),out.push x,ia+1,ib,mg,ac,bc))
 else if ac<7&&bc<7 then pure (.done (B,out.push x,ia+1,ib,mg,ac,bc)) else pure (.yield (B,out.push x,ia+1,ib,mg,ac,bc))
noncomputable def loB (a b out:Array IQ) (ia ib mg ac bc:Nat):StateT JB Op (ForInStep LS):=do
 let x <-elem' b ib
 if ib+1==b.size then pure (.done (U (dn' a b (out.push x) ia (ib+1)),out.push x,ia,ib+1,mg,ac,bc))
 else do
  let y <-elem' a ia
  match <-fu V y b (ib+1) (b.size - (ib+1)) 0 with
  |some k=>
   if k>0 then
    if ib+1+k==b.size then pure (.done (U (dn' a b (out.push x++b.extract (ib+1) (ib+1+k)) ia (ib+1+k)),out.push x++b.extract (ib+1) (ib+1+k),ia,ib+1+k,mg,ac,k))
    else loC a b (out.push x++b.extract (ib+1) (ib+1+k)) ia (ib+1+k) mg ac k
   else loC a b (out.push x) ia (ib+1) mg ac k
  |_=>pure (.done (U (dn' a b (out.push x) ia (ib+1)),out.push x,ia,ib+1,mg,ac,bc))
noncomputable def loA (a b out:Array IQ) (ia ib mg ac bc:Nat):StateT JB Op (ForInStep LS):=do
 cb mg
 let y <-elem' b ib
 match <-fu Y y a ia (a.size - ia) 0 with
 |some k=>
  if k>0 then
   if ia+k+1==a.size then pure (.done (U (la' a b (out++a.extract ia (ia+k)) (ia+k) ib),out++a.extract ia (ia+k),ia+k,ib,mg,k,bc))
   else if ia+k==a.size then pure (.done (U (dn' a b (out++a.extract ia (ia+k)) (ia+k) ib),out++a.extract ia (ia+k),ia+k,ib,mg,k,bc))
   else loB a b (out++a.extract ia (ia+k)) (ia+k) ib mg k bc
  else loB a b out ia ib mg k bc
 |_=>pure (.done (U (dn' a b out ia ib),out,ia,ib,mg,ac,bc))
noncomputable abbrev WS:=Option (Array IQ)×Array IQ×Nat×Nat×Nat×Nat
noncomputable abbrev OS:=Option (Array IQ)×Array IQ×Nat×Nat×Nat
noncomputable def loW (a b out:Array IQ) (ia ib mg ac bc:Nat):StateT JB Op (ForInStep WS):=do
 let x <-elem' b ib
 let y <-elem' a ia
 match <-lt' x y with
 |some t=>
  if t then do
   let x <-elem' b ib
   if ib+1==b.size then pure (.done (U (dn' a b (out.push x) ia (ib+1)),out.push x,ia,ib+1,0,bc+1))
   else if bc+1>=mg then pure (.done (B,out.push x,ia,ib+1,0,bc+1)) else pure (.yield (B,out.push x,ia,ib+1,0,bc+1))
  else do
   let x <-elem' a ia
   if ia+1+1==a.size then pure (.done (U (la' a b (out.push x) (ia+1) ib),out.push x,ia+1,ib,ac+1,0))
   else if ac+1>=mg then pure (.done (B,out.push x,ia+1,ib,ac+1,0)) else pure (.yield (B,out.push x,ia+1,ib,ac+1,0))
 |_=>pure (.done (U (dn' a b out ia ib),out,ia,ib,ac,bc))
noncomputable def loG (a b out:Array IQ) (ia ib mg ac bc:Nat):StateT JB Op (ForInStep LS):=if mg>1 then loA a b out ia ib (mg - 1) ac bc else loA a b out ia ib mg ac bc
noncomputable def loO (a b out:Array IQ) (ia ib mg:Nat):StateT JB Op (ForInStep OS):=do
 let d <-forIn [:a.size+b.size] ((B,out,ia,ib,0,0):WS) λ_ c=>loW a b c.2.1 c.2.2.1 c.2.2.2.1 mg c.2.2.2.2.1 c.2.2.2.2.2
 Lj (λ_=>StateT JB Op (ForInStep OS)) d.1 (λr=>pure (.done (U r,d.2.1,d.2.2.1,d.2.2.2.1,mg))) λ_=>do
  rule "list.sort.gallop"
  let c <-forIn [:a.size+b.size] ((B,d.2.1,d.2.2.1,d.2.2.2.1,mg+1,d.2.2.2.2.1,d.2.2.2.2.2):LS) λ_ c=>loG a b c.2.1 c.2.2.1 c.2.2.2.1 c.2.2.2.2.1 c.2.2.2.2.2.1 c.2.2.2.2.2.2
  Lj (λ_=>StateT JB Op (ForInStep OS)) c.1 (λr=>pure (.done (U r,c.2.1,c.2.2.1,c.2.2.2.1,c.2.2.2.2.1))) λ_=>do
   cb (c.2.2.2.2.1+1)
   pure (.yield (B,c.2.1,c.2.2.1,c.2.2.2.1,c.2.2.2.2.1+1))
theorem HP (a b:Array IQ):nQ a b=(do
 rule "list.sort.merge-lo"
 let x <-elem' b 0
 if 1==b.size then pure (dn' a b #[x] 0 1)
 else if 0+1==a.size then pure (la' a b #[x] 0 1)
 else do
  let s <-get
  let c <-forIn [:a.size+b.size] ((B,#[x],0,1,gallopOf s):OS) λ_ c=>loO a b c.2.1 c.2.2.1 c.2.2.2.1 c.2.2.2.2
  Lj (λ_=>StateT JB Op (Array IQ)) c.1 pure λ_=>unsupported "internal:list.sort.merge-bound"):=rfl
section
variable{prog:J9}{w:KB}{A:Jj}{E:IA->IB->Prop}{s:IB}{LT:IQ->IQ->Bool}{T:Array IQ}{κ:Mc}{st:JB}{a b:Array IQ}
structure Two (LT:IQ->IQ->Bool) (T a b:Array IQ):Prop where
 ha:∀i,i<a.size->K a i∈T
 hb:∀i,i<b.size->K b i∈T
 ua:Up LT a 0 a.size
 ub:Up LT b 0 b.size
 za:0<a.size
 zb:0<b.size
 h0:∀j,j<a.size->LT (K a j) (K b 0)=Y
 hl:∀j,j<b.size->LT (K a (a.size - 1)) (K b j)=Y
noncomputable abbrev JL (LT:IQ->IQ->Bool) (a b out:Array IQ) (ia ib:Nat):Prop:=J LT (a.toList++b.toList) out.toList (a.toList.drop ia) (b.toList.drop ib)
variable{out:Array IQ}{ia ib:Nat}
theorem JL.dB (j:JL LT a b out ia ib) (e:ib=b.size):Good LT (a.toList++b.toList) (dn' a b out ia ib).toList:=by
 rw[JS,JS,iN,iN];rw[JL,fO (a:=b) (by lia)]at j
 rw[fO (a:=b) (by lia),Kb];exact j.done
theorem JL.dA (j:JL LT a b out ia ib) (e:ia=a.size):Good LT (a.toList++b.toList) (dn' a b out ia ib).toList:=by
 rw[JS,JS,iN,iN];rw[JL,fO (a:=a) (by lia)]at j
 rw[fO (a:=a) (by lia),Kb];exact j.swap.done
theorem JL.lA (W:Two LT T a b) (j:JL LT a b out ia ib) (e:ia+1=a.size):Good LT (a.toList++b.toList) (la' a b out ia ib).toList:=by
 rw[JS,JS,iN,iN];rw[JL,jD (show ia<a.size by lia),fO (a:=a) (show a.size<=ia+1 by lia),Kb]at j
 rw[jD (show ia<a.size by lia),fO (a:=a) (show a.size<=ia+1 by lia),Kb]
 refine j.last λy hy=>?_
 obtain⟨k,_,hk,rfl⟩:=fA hy;rw[show ia=a.size - 1 by lia];exact W.hl k hk
theorem JL.pB (j:JL LT a b out ia ib) (e:ib<b.size) (q:∀k,ia<=k->k<a.size->LT (K a k) (K b ib)=Y):JL LT a b (out.push (K b ib)) ia (ib+1):=by
 rw[JL,Ky];rw[JL,jD e]at j;refine(j.swap.push λx hx y hy=>?_).swap
 obtain rfl:=List.mem_singleton.mp hx;obtain⟨k,h1,h2,rfl⟩:=fA hy;exact q k h1 h2
theorem JL.pA (j:JL LT a b out ia ib) (e:ia<a.size) (q:∀k,ib<=k->k<b.size->LT (K b k) (K a ia)=Y):JL LT a b (out.push (K a ia)) (ia+1) ib:=by
 rw[JL,Ky];rw[JL,jD e]at j;refine j.push λx hx y hy=>?_
 obtain rfl:=List.mem_singleton.mp hx;obtain⟨k,h1,h2,rfl⟩:=fA hy;exact q k h1 h2
theorem JL.cA (k:Nat) (j:JL LT a b out ia ib) (q:∀i,i<k->ia+i<a.size->∀j,ib<=j->j<b.size->LT (K b j) (K a (ia+i))=Y):JL LT a b (out++a.extract ia (ia+k)) (ia+k) ib:=by
 rw[JL,JS];rw[JL,db a ia k]at j;refine j.push λx hx y hy=>?_
 obtain⟨i,h1,h2,h3,rfl⟩:=bx hx;obtain⟨k,h4,h5,rfl⟩:=fA hy;have:=q (i - ia) (by lia) (by lia) k h4 h5
 simp_all
theorem JL.cB (k:Nat) (j:JL LT a b out ia ib) (q:∀i,i<k->ib+i<b.size->∀j,ia<=j->j<a.size->LT (K a j) (K b (ib+i))=Y):JL LT a b (out++b.extract ib (ib+k)) ia (ib+k):=by
 rw[JL,JS];rw[JL,db b ib k]at j;refine(j.swap.push λx hx y hy=>?_).swap
 obtain⟨i,h1,h2,h3,rfl⟩:=bx hx;obtain⟨k,h4,h5,rfl⟩:=fA hy;have:=q (i - ib) (by lia) (by lia) k h4 h5
 simp_all
theorem pw_up {c:Array IQ}(u:Up LT c 0 c.size):c.toList.Pairwise (R LT):=List.pairwise_iff_getElem.mpr λi j hi hj hij=>by
 simp at hi hj;have:=u i j (Jf _) (by lia) hj
 unfold R;unfold K at this
 simp_all
theorem Two.j0 (W:Two LT T a b):JL LT a b #[K b 0] 0 1:=by
 have j:JL LT a b #[] 0 0:=⟨Lg _,pw_up W.ua,pw_up W.ub⟩;exact j.pB W.zb λk _ hk=>W.h0 k hk
noncomputable abbrev IL (LT:IQ->IQ->Bool) (a b:Array IQ) (n:Nat) (out:Array IQ) (ia ib:Nat):Prop:=JL LT a b out ia ib/\ia+1<a.size/\ib<b.size/\n<=ia+ib
structure EndL (LT:IQ->IQ->Bool) (a b:Array IQ) (st:JB) (n0:Nat) (P:ForInStep LS->JB->Prop):Prop where
 good:∀m r g,Good LT (a.toList++b.toList) m.toList->P (.done (U m,r)) (ar st g)
 next:∀out ia ib mg ac bc g,IL LT a b (n0+1) out ia ib->P (.done (B,out,ia,ib,mg,ac,bc)) (ar st g)/\P (.yield (B,out,ia,ib,mg,ac,bc)) (ar st g)
variable{n0 mg ac bc g:Nat}{P:ForInStep LS->JB->Prop}
theorem Cs (W:Two LT T a b) (j:IL LT a b n0 out ia ib) (Z:EndL LT a b st n0 P) (q:∀k,ib<=k->k<b.size->LT (K b k) (K a ia)=Y):
  wpS (model prog w) A E s (loC a b out ia ib mg ac bc) P (ar st g):=by
 obtain⟨j,h1,h2,h3⟩:=j;refine IS (aE (by lia) ?_)
 have j1:=j.pA (by lia) q
 by_cases e:ia+1+1=a.size
 ·rw[if_pos (beq_iff_eq.mpr e)];exact IV (Z.good _ _ _ (j1.lA W e))
 ·rw[if_neg (λq=>e (beq_iff_eq.mp q))]
  have z:=λac bc=>Z.next _ _ _ mg ac bc g ⟨j1,by lia,h2,by lia⟩
  by_cases c:(decide (ac<7)&&decide (bc<7))=V
  ·rw[if_pos c];exact IV (z ac bc).1
  ·rw[if_neg c];exact IV (z ac bc).2
variable(O:OrdK LT) (H:Ans prog w A s κ LT T) (hk:kindOf st=κ) (W:Two LT T a b)
include O H hk W
section
variable(j:IL LT a b n0 out ia ib)
include j
theorem Cz (Z:EndL LT a b st n0 P) (q:∀k,ia<=k->k<a.size->LT (K a k) (K b ib)=Y):
  wpS (model prog w) A E s (loB a b out ia ib mg ac bc) P (ar st g):=by
 obtain⟨j,h1,h2,h3⟩:=j;refine IS (aE h2 ?_)
 have j1:=j.pB h2 q
 by_cases e:ib+1=b.size
 ·rw[if_pos (beq_iff_eq.mpr e)];exact IV (Z.good _ _ _ (j1.dB e))
 rw[if_neg (λq=>e (beq_iff_eq.mp q))]
 refine IS (aE (by lia) ?_)
 refine IS (cZ (st:=ar st g) O H hk (W.ha _ (by lia)) (by lia) (by lia) (λi hi=>W.hb _ (by lia)) (λp q a1 a2 a3=>W.ub p q (Jf _) a2 (by lia)) λk k1 k2 k3=>?_)
 have q2:∀m,ib+1+k<=m->m<b.size->LT (K b m) (K a ia)=Y:=λm m1 m2=>by
  have:=k3 (m - (ib+1)) (by lia) (by lia)
  unfold fB at this
  simpa only[if_true,show ib+1+(m - (ib+1))=m by lia]using this
 dsimp only
 by_cases c:k>0
 ·rw[if_pos c]
  have j2:=j1.cB k λi i1 i2 m m1 m2=>O.tr _ _ _ (O.asym _ _ (by simpa only[fB,if_true]using k2 i i1)) (W.ua ia m (Jf _) m1 m2)
  by_cases e2:ib+1+k=b.size
  ·rw[if_pos (beq_iff_eq.mpr e2)];exact IV (Z.good _ _ _ (j2.dB e2))
  ·rw[if_neg (λq=>e2 (beq_iff_eq.mp q))]
   exact Cs W ⟨j2,h1,by lia,by lia⟩ Z q2
 ·rw[if_neg c]
  exact Cs W ⟨j1,h1,by lia,by lia⟩ Z (by rw[show k=0 by lia]at q2;exact q2)
theorem GQ (Z:EndL LT a b st n0 P):wpS (model prog w) A E s (loA a b out ia ib mg ac bc) P (ar st g):=by
 obtain⟨j,h1,h2,h3⟩:=j;unfold loA;refine IS (Lm ?_)
 refine IS (aE h2 ?_)
 refine IS (cZ (st:=ar st mg) O H hk (W.hb _ h2) (by lia) (by lia) (λi hi=>W.ha _ (by lia)) (λp q a1 a2 a3=>W.ua p q (Jf _) a2 (by lia)) λk k1 k2 k3=>?_)
 have q2:∀m,ia+k<=m->m<a.size->LT (K a m) (K b ib)=Y:=λm m1 m2=>by
  have:=k3 (m - ia) (by lia) (by lia)
  unfold fB at this;simp only[IT,if_false,NU,show ia+(m - ia)=m by lia]at this
  exact O.asym _ _ this
 dsimp only
 by_cases c:k>0
 ·rw[if_pos c]
  have j2:=j.cA k λi i1 i2 m m1 m2=>O.tr _ _ _ (by simpa only[fB,IT,if_false,LL]using k2 i i1) (W.ub ib m (Jf _) m1 m2)
  by_cases e1:ia+k+1=a.size
  ·rw[if_pos (beq_iff_eq.mpr e1)];exact IV (Z.good _ _ _ (j2.lA W e1))
  ·rw[if_neg (λq=>e1 (beq_iff_eq.mp q))]
   by_cases e2:ia+k=a.size
   ·rw[if_pos (beq_iff_eq.mpr e2)];exact IV (Z.good _ _ _ (j2.dA e2))
   ·rw[if_neg (λq=>e2 (beq_iff_eq.mp q))]
    exact Cz O H hk W ⟨j2,by lia,h2,by lia⟩ Z q2
 ·rw[if_neg c]
  exact Cz O H hk W ⟨j,h1,h2,h3⟩ Z (by rw[show k=0 by lia]at q2;exact q2)
theorem Gj {P:ForInStep WS->JB->Prop}(z1:∀m r,Good LT (a.toList++b.toList) m.toList->P (.done (U m,r)) (ar st g)) (z2:∀out ia ib ac bc,IL LT a b n0 out ia ib->P (.done (B,out,ia,ib,ac,bc)) (ar st g)/\P (.yield (B,out,ia,ib,ac,bc)) (ar st g)):
  wpS (model prog w) A E s (loW a b out ia ib mg ac bc) P (ar st g):=by
 obtain⟨j,i1,i2,i3⟩:=j;refine IS (aE i2 (IS (aE (by lia) (IS (xB (st:=ar st g) H hk (W.hb _ i2) (W.ha _ (by lia)) ?_)))))
 cases hw:LT (K b ib) (K a ia)with
 |true=>
  refine IS (aE i2 ?_)
  have j1:=j.pB i2 λk k1 k2=>O.tr _ _ _ (O.asym _ _ hw) (W.ua ia k (Jf _) k1 k2)
  by_cases e:ib+1=b.size
  ·rw[if_pos (beq_iff_eq.mpr e)];exact IV (z1 _ _ (j1.dB e))
  ·rw[if_neg (λq=>e (beq_iff_eq.mp q))]
   have z:=λac bc=>z2 _ _ _ ac bc ⟨j1,i1,by lia,by lia⟩
   by_cases c:bc+1>=mg
   ·rw[if_pos c];exact IV (z _ _).1
   ·rw[if_neg c];exact IV (z _ _).2
 |false=>
  refine IS (aE (by lia) ?_)
  have j1:=j.pA (by lia) λk k1 k2=>O.tr _ _ _ hw (W.ub ib k (Jf _) k1 k2)
  by_cases e:ia+1+1=a.size
  ·rw[if_pos (beq_iff_eq.mpr e)];exact IV (z1 _ _ (j1.lA W e))
  ·rw[if_neg (λq=>e (beq_iff_eq.mp q))]
   have z:=λac bc=>z2 _ _ _ ac bc ⟨j1,by lia,i2,by lia⟩
   by_cases c:ac+1>=mg
   ·rw[if_pos c];exact IV (z _ _).1
   ·rw[if_neg c];exact IV (z _ _).2
theorem Fc (Z:EndL LT a b st n0 P):wpS (model prog w) A E s (loG a b out ia ib mg ac bc) P (ar st g):=by
 unfold loG;split<;>exact GQ O H hk W j Z
theorem GG {P:ForInStep OS->JB->Prop}(z1:∀m r g,Good LT (a.toList++b.toList) m.toList->P (.done (U m,r)) (ar st g)) (z2:∀out ia ib mg g,IL LT a b (n0+1) out ia ib->P (.yield (B,out,ia,ib,mg)) (ar st g)):
  wpS (model prog w) A E s (loO a b out ia ib mg) P (ar st g):=by
 refine IS (Lk (Kr (I:=λy c st'=>∃out ia ib ac bc,c=(B,out,ia,ib,ac,bc)/\st'=ar st g/\IL LT a b n0 out ia ib)
  (Q:=λc st'=>st'=ar st g/\((∃m r,c=(U m,r)/\Good LT (a.toList++b.toList) m.toList)\/∃out ia ib ac bc,c=(B,out,ia,ib,ac,bc)/\IL LT a b n0 out ia ib)) ?_ ?_ ⟨out,ia,ib,0,0,rfl,rfl,j⟩) ?_)
 ·intro y c st' _ _ hz;obtain⟨out,ia,ib,ac,bc,rfl,rfl,j⟩:=hz
  exact Gj O H hk W j (λm r hm=>⟨rfl,.inl ⟨m,r,rfl,hm⟩⟩) λout ia ib ac bc j=>⟨⟨rfl,.inr ⟨_,_,_,_,_,rfl,j⟩⟩,⟨_,_,_,_,_,rfl,rfl,j⟩⟩
 ·intro c st' hz;obtain⟨out,ia,ib,ac,bc,rfl,rfl,j⟩:=hz
  exact⟨rfl,.inr ⟨_,_,_,_,_,rfl,j⟩⟩
 ·intro c st' hz;obtain⟨rfl,hz⟩:=hz;rcases hz with hz|hz
  ·obtain⟨m,r,rfl,hm⟩:=hz;exact IV (z1 m _ g hm)
  ·obtain⟨out,ia,ib,ac,bc,rfl,j⟩:=hz
   refine IS (NV (Kf ⟨rfl,?_⟩))
   refine IS (Lk (Kr (I:=λy c st'=>∃out ia ib mg ac bc g,c=(B,out,ia,ib,mg,ac,bc)/\st'=ar st g/\IL LT a b n0 out ia ib/\(1<=y->n0<ia+ib))
    (Q:=λc st'=>∃g,st'=ar st g/\((∃m r,c=(U m,r)/\Good LT (a.toList++b.toList) m.toList)\/∃out ia ib mg ac bc,c=(B,out,ia,ib,mg,ac,bc)/\IL LT a b (n0+1) out ia ib)) ?_ ?_ ⟨out,ia,ib,_,ac,bc,g,rfl,rfl,j,λq=>absurd q (by lia)⟩) ?_)
   ·intro y c st' _ _ hz;obtain⟨out,ia,ib,mg,ac,bc,g,rfl,rfl,j,_⟩:=hz
    exact Fc O H hk W j ⟨λm r g hm=>⟨g,rfl,.inl ⟨m,r,rfl,hm⟩⟩,λout ia ib mg ac bc g j=>⟨⟨g,rfl,.inr ⟨_,_,_,_,_,_,rfl,j⟩⟩,⟨_,_,_,_,_,_,g,rfl,rfl,⟨j.1,j.2.1,j.2.2.1,by lia⟩,λ_=>j.2.2.2⟩⟩⟩
   ·intro c st' hz;obtain⟨out,ia,ib,mg,ac,bc,g,rfl,rfl,⟨j,i1,i2,i3⟩,i4⟩:=hz
    exact⟨g,rfl,.inr ⟨_,_,_,_,_,_,rfl,j,i1,i2,i4 (by lia)⟩⟩
   ·intro c st' hz;obtain⟨g,rfl,hz⟩:=hz;rcases hz with hz|hz
    ·obtain⟨m,r,rfl,hm⟩:=hz;exact IV (z1 m _ g hm)
    ·obtain⟨out,ia,ib,mg,ac,bc,rfl,j⟩:=hz;exact IS (Lm (IV (z2 _ _ _ _ _ j)))
end
theorem vU {Q:Array IQ->JB->Prop}(h:∀m g,Good LT (a.toList++b.toList) m.toList->Q m (ar st g)):wpS (model prog w) A E s (nQ a b) Q st:=by
 rw[HP];refine IS (NV (Kf ⟨rfl,?_⟩))
 refine IS (aE W.zb ?_)
 by_cases e1:1=b.size
 ·rw[if_pos (beq_iff_eq.mpr e1)];exact IV (h _ (gallopOf st) (W.j0.dB e1))
 rw[if_neg (λq=>e1 (beq_iff_eq.mp q))]
 by_cases e2:0+1=a.size
 ·rw[if_pos (beq_iff_eq.mpr e2)];exact IV (h _ (gallopOf st) (W.j0.lA W e2))
 rw[if_neg (λq=>e2 (beq_iff_eq.mp q))]
 have za:=W.za;have zb:=W.zb;refine IS (M5 ?_)
 refine IS (Lk (Kr (I:=λx c st'=>∃out ia ib mg g,c=(B,out,ia,ib,mg)/\st'=ar st g/\IL LT a b (x+1) out ia ib)
  (Q:=λc st'=>∃m g r,c=(U m,r)/\st'=ar st g/\Good LT (a.toList++b.toList) m.toList) ?_ ?_ ⟨_,_,_,_,gallopOf st,rfl,rfl,W.j0,by lia,by lia,by lia⟩) ?_)
 ·intro x c st' g1 g2 hz;obtain⟨out,ia,ib,mg,g,rfl,rfl,j⟩:=hz
  exact GG O H hk W j (λm r g hm=>⟨m,g,_,rfl,rfl,hm⟩) λout ia ib mg g j=>⟨_,_,_,_,_,rfl,rfl,j⟩
 ·intro c st' hz;obtain⟨out,ia,ib,mg,g,rfl,rfl,j,i1,i2,i3⟩:=hz
  exfalso;lia
 ·intro c st' hz;obtain⟨m,g,r,rfl,rfl,hm⟩:=hz
  exact IV (h m g hm)
end
end SM
namespace SM
open PySem PyProof.Rows
noncomputable abbrev HS:=Option (Array IQ)×Nat×Nat×Array IQ×Nat×Nat×Nat
noncomputable abbrev dh' (a b out:Array IQ) (na nb:Nat):Array IQ:=a.extract 0 na++b.extract 0 nb++out.reverse
noncomputable abbrev fh' (a b out:Array IQ) (na nb:Nat):Array IQ:=b.extract 0 nb++a.extract 0 na++out.reverse
noncomputable def hiC (a b out:Array IQ) (na nb mg ac bc:Nat):StateT JB Op (ForInStep HS):=do
 let x <-elem' a (na - 1)
 if na - 1==0 then pure (.done (U (dh' a b (out.push x) (na - 1) nb),na - 1,nb,out.push x,mg,ac,bc))
 else if ac<7&&bc<7 then pure (.done (B,na - 1,nb,out.push x,mg,ac,bc)) else pure (.yield (B,na - 1,nb,out.push x,mg,ac,bc))
noncomputable def hiB (a b out:Array IQ) (na nb mg ac bc:Nat):StateT JB Op (ForInStep HS):=do
 let x <-elem' b (nb - 1)
 if nb - 1==1 then pure (.done (U (fh' a b (out.push x) na (nb - 1)),na,nb - 1,out.push x,mg,ac,bc))
 else do
  let y <-elem' a (na - 1)
  match <-fu V y b 0 (nb - 1) (nb - 1 - 1)with
  |some t=>
   if nb - 1 - t>0 then
    if t==1 then pure (.done (U (fh' a b (out.push x++(b.extract t (nb - 1)).reverse) na t),na,t,out.push x++(b.extract t (nb - 1)).reverse,mg,ac,nb - 1 - t))
    else if t==0 then pure (.done (U (dh' a b (out.push x++(b.extract t (nb - 1)).reverse) na t),na,t,out.push x++(b.extract t (nb - 1)).reverse,mg,ac,nb - 1 - t))
    else hiC a b (out.push x++(b.extract t (nb - 1)).reverse) na t mg ac (nb - 1 - t)
   else hiC a b (out.push x) na (nb - 1) mg ac (nb - 1 - t)
  |_=>pure (.done (U (dh' a b (out.push x) na (nb - 1)),na,nb - 1,out.push x,mg,ac,bc))
noncomputable def hiA (a b out:Array IQ) (na nb mg ac bc:Nat):StateT JB Op (ForInStep HS):=do
 cb mg
 let y <-elem' b (nb - 1)
 match <-fu Y y a 0 na (na - 1)with
 |some t=>
  if na - t>0 then
   if t==0 then pure (.done (U (dh' a b (out++(a.extract t na).reverse) t nb),t,nb,out++(a.extract t na).reverse,mg,na - t,bc))
   else hiB a b (out++(a.extract t na).reverse) t nb mg (na - t) bc
  else hiB a b out na nb mg (na - t) bc
 |_=>pure (.done (U (dh' a b out na nb),na,nb,out,mg,ac,bc))
noncomputable abbrev VS:=Option (Array IQ)×Nat×Nat×Array IQ×Nat×Nat
noncomputable abbrev PS:=Option (Array IQ)×Nat×Nat×Array IQ×Nat
noncomputable def hiW (a b out:Array IQ) (na nb mg ac bc:Nat):StateT JB Op (ForInStep VS):=do
 let x <-elem' b (nb - 1)
 let y <-elem' a (na - 1)
 match <-lt' x y with
 |some t=>
  if t then do
   let x <-elem' a (na - 1)
   if na - 1==0 then pure (.done (U (dh' a b (out.push x) (na - 1) nb),na - 1,nb,out.push x,ac+1,0))
   else if ac+1>=mg then pure (.done (B,na - 1,nb,out.push x,ac+1,0)) else pure (.yield (B,na - 1,nb,out.push x,ac+1,0))
  else do
   let x <-elem' b (nb - 1)
   if nb - 1==1 then pure (.done (U (fh' a b (out.push x) na (nb - 1)),na,nb - 1,out.push x,0,bc+1))
   else if bc+1>=mg then pure (.done (B,na,nb - 1,out.push x,0,bc+1)) else pure (.yield (B,na,nb - 1,out.push x,0,bc+1))
 |_=>pure (.done (U (dh' a b out na nb),na,nb,out,ac,bc))
noncomputable def hiG (a b out:Array IQ) (na nb mg ac bc:Nat):StateT JB Op (ForInStep HS):=if mg>1 then hiA a b out na nb (mg - 1) ac bc else hiA a b out na nb mg ac bc
noncomputable def hiO (a b out:Array IQ) (na nb mg:Nat):StateT JB Op (ForInStep PS):=do
 let d <-forIn [:a.size+b.size] ((B,na,nb,out,0,0):VS) λ_ c=>hiW a b c.2.2.2.1 c.2.1 c.2.2.1 mg c.2.2.2.2.1 c.2.2.2.2.2
 Lj (λ_=>StateT JB Op (ForInStep PS)) d.1 (λr=>pure (.done (U r,d.2.1,d.2.2.1,d.2.2.2.1,mg))) λ_=>do
  rule "list.sort.gallop"
  let c <-forIn [:a.size+b.size] ((B,d.2.1,d.2.2.1,d.2.2.2.1,mg+1,d.2.2.2.2.1,d.2.2.2.2.2):HS) λ_ c=>hiG a b c.2.2.2.1 c.2.1 c.2.2.1 c.2.2.2.2.1 c.2.2.2.2.2.1 c.2.2.2.2.2.2
  Lj (λ_=>StateT JB Op (ForInStep PS)) c.1 (λr=>pure (.done (U r,c.2.1,c.2.2.1,c.2.2.2.1,c.2.2.2.2.1))) λ_=>do
   cb (c.2.2.2.2.1+1)
   pure (.yield (B,c.2.1,c.2.2.1,c.2.2.2.1,c.2.2.2.2.1+1))
theorem Hj (a b:Array IQ):nG a b=(do
 rule "list.sort.merge-hi"
 let x <-elem' a (a.size - 1)
 if a.size - 1==0 then pure (dh' a b #[x] (a.size - 1) b.size)
 else if b.size==1 then pure (fh' a b #[x] (a.size - 1) b.size)
 else do
  let s <-get
  let c <-forIn [:a.size+b.size] ((B,a.size - 1,b.size,#[x],gallopOf s):PS) λ_ c=>hiO a b c.2.2.2.1 c.2.1 c.2.2.1 c.2.2.2.2
  Lj (λ_=>StateT JB Op (Array IQ)) c.1 pure λ_=>unsupported "internal:list.sort.merge-bound"):=rfl
noncomputable def fl (LT:IQ->IQ->Bool) (x y:IQ):Bool:=LT y x
section
variable{prog:J9}{w:KB}{A:Jj}{E:IA->IB->Prop}{s:IB}{LT:IQ->IQ->Bool}{T:Array IQ}{κ:Mc}{st:JB}{a b:Array IQ}
noncomputable abbrev JH (LT:IQ->IQ->Bool) (a b out:Array IQ) (na nb:Nat):Prop:=J (fl LT) (a.toList++b.toList) out.toList (a.toList.take na).reverse (b.toList.take nb).reverse
theorem Good.rev {T l:List IQ}(h:Good (fl LT) T l):Good LT T l.reverse:=⟨(N3 l).trans h.pm,List.pairwise_reverse.mpr h.so⟩
variable{out:Array IQ}{na nb:Nat}
theorem JH.dA (j:JH LT a b out na nb) (e:na=0):Good LT (a.toList++b.toList) (dh' a b out na nb).toList:=by
 subst e;have:=j.swap.done.rev
 simp_all
theorem JH.dB (j:JH LT a b out na nb) (e:nb=0):Good LT (a.toList++b.toList) (dh' a b out na nb).toList:=by
 subst e;have:=j.done.rev
 simp_all
theorem JH.fB (W:Two LT T a b) (j:JH LT a b out na nb) (e:nb=1):Good LT (a.toList++b.toList) (fh' a b out na nb).toList:=by
 subst e;rw[JH,jB (a:=b) (i:=0) W.zb,List.take_zero,List.reverse_nil,Kb]at j;have:=(j.swap.last λy hy=>?_).rev
 ·rw[Mz,Mz,List.reverse_reverse]at this
  have e:=jB (a:=b) (i:=0) W.zb
  simp_all
 ·obtain⟨k,_,hk,rfl⟩:=fg (List.mem_reverse.mp hy)
  exact W.h0 k hk
theorem JH.pA (j:JH LT a b out (na+1) nb) (e:na<a.size) (q:∀k,k<nb->k<b.size->LT (K a na) (K b k)=Y):JH LT a b (out.push (K a na)) na nb:=by
 rw[JH,Ky];rw[JH,jB e]at j;refine j.push λx hx y hy=>?_
 obtain rfl:=List.mem_singleton.mp hx;obtain⟨k,h1,h2,rfl⟩:=fg (List.mem_reverse.mp hy);exact q k h1 h2
theorem JH.pB (j:JH LT a b out na (nb+1)) (e:nb<b.size) (q:∀k,k<na->k<a.size->LT (K b nb) (K a k)=Y):JH LT a b (out.push (K b nb)) na nb:=by
 rw[JH,Ky];rw[JH,jB e]at j;refine(j.swap.push λx hx y hy=>?_).swap
 obtain rfl:=List.mem_singleton.mp hx;obtain⟨k,h1,h2,rfl⟩:=fg (List.mem_reverse.mp hy);exact q k h1 h2
theorem JH.cA {t:Nat}(ht:t<=na) (j:JH LT a b out na nb) (q:∀i,t<=i->i<na->i<a.size->∀j,j<nb->j<b.size->LT (K a i) (K b j)=Y):JH LT a b (out++(a.extract t na).reverse) t nb:=by
 rw[JH,JS];rw[JH,qV a ht]at j;refine j.push λx hx y hy=>?_
 rw[Nw,List.mem_reverse]at hx;obtain⟨i,h1,h2,h3,rfl⟩:=bx hx;obtain⟨k,h4,h5,rfl⟩:=fg (List.mem_reverse.mp hy);exact q i h1 h2 h3 k h4 h5
theorem JH.cB {t:Nat}(ht:t<=nb) (j:JH LT a b out na nb) (q:∀i,t<=i->i<nb->i<b.size->∀j,j<na->j<a.size->LT (K b i) (K a j)=Y):JH LT a b (out++(b.extract t nb).reverse) na t:=by
 rw[JH,JS];rw[JH,qV b ht]at j;refine(j.swap.push λx hx y hy=>?_).swap
 rw[Nw,List.mem_reverse]at hx;obtain⟨i,h1,h2,h3,rfl⟩:=bx hx;obtain⟨k,h4,h5,rfl⟩:=fg (List.mem_reverse.mp hy);exact q i h1 h2 h3 k h4 h5
theorem Two.k0 (W:Two LT T a b):JH LT a b #[K a (a.size - 1)] (a.size - 1) b.size:=by
 have rv:∀{c:Array IQ},Up LT c 0 c.size->(c.toList.take c.size).reverse.Pairwise (R (fl LT)):=λ{c} u=>by
  rw[Lw (by simp)];exact List.pairwise_reverse.mpr (pw_up u)
 have j:JH LT a b #[] a.size b.size:=⟨by
  rw[Lw (by simp),Lw (by simp)]
  exact((N3 _).append (N3 _)),rv W.ua,rv W.ub⟩
 have za:=W.za;rw[show a.size=a.size - 1+1 by lia]at j
 exact j.pA (by lia) λk k1 k2=>W.hl k k2
noncomputable abbrev IH (LT:IQ->IQ->Bool) (a b:Array IQ) (n:Nat) (out:Array IQ) (na nb:Nat):Prop:=JH LT a b out na nb/\1<=na/\na<=a.size/\2<=nb/\nb<=b.size/\na+nb+n<=a.size+b.size
structure EndH (LT:IQ->IQ->Bool) (a b:Array IQ) (st:JB) (n0:Nat) (P:ForInStep HS->JB->Prop):Prop where
 good:∀m r g,Good LT (a.toList++b.toList) m.toList->P (.done (U m,r)) (ar st g)
 next:∀out na nb mg ac bc g,IH LT a b (n0+1) out na nb->P (.done (B,na,nb,out,mg,ac,bc)) (ar st g)/\P (.yield (B,na,nb,out,mg,ac,bc)) (ar st g)
variable{n0 mg ac bc g:Nat}{P:ForInStep HS->JB->Prop}
theorem B8 (W:Two LT T a b) (j:IH LT a b n0 out na nb) (Z:EndH LT a b st n0 P) (q:∀k,k<nb->k<b.size->LT (K a (na - 1)) (K b k)=Y):
  wpS (model prog w) A E s (hiC a b out na nb mg ac bc) P (ar st g):=by
 obtain⟨j,h1,h1',h2,h2',h3⟩:=j;refine IS (aE (by lia) ?_)
 have j1:=JH.pA (na:=na - 1) (by rw[show na - 1+1=na by lia];exact j) (by lia) q
 by_cases e:na - 1=0
 ·rw[if_pos (beq_iff_eq.mpr e)];exact IV (Z.good _ _ _ (j1.dA e))
 ·rw[if_neg (λq=>e (beq_iff_eq.mp q))]
  have z:=λac bc=>Z.next _ _ _ mg ac bc g ⟨j1,by lia,by lia,h2,h2',by lia⟩
  by_cases c:(decide (ac<7)&&decide (bc<7))=V
  ·rw[if_pos c];exact IV (z ac bc).1
  ·rw[if_neg c];exact IV (z ac bc).2
variable(O:OrdK LT) (H:Ans prog w A s κ LT T) (hk:kindOf st=κ) (W:Two LT T a b)
include O H hk W
section
variable(j:IH LT a b n0 out na nb)
include j
theorem Co (Z:EndH LT a b st n0 P) (q:∀k,k<na->k<a.size->LT (K b (nb - 1)) (K a k)=Y):
  wpS (model prog w) A E s (hiB a b out na nb mg ac bc) P (ar st g):=by
 obtain⟨j,h1,h1',h2,h2',h3⟩:=j;refine IS (aE (by lia) ?_)
 have j1:=JH.pB (nb:=nb - 1) (by rw[show nb - 1+1=nb by lia];exact j) (by lia) q
 by_cases e:nb - 1=1
 ·rw[if_pos (beq_iff_eq.mpr e)];exact IV (Z.good _ _ _ (j1.fB W e))
 rw[if_neg (λq=>e (beq_iff_eq.mp q))]
 refine IS (aE (by lia) ?_)
 refine IS (cZ (st:=ar st g) O H hk (W.ha _ (by lia)) (by lia) (by lia) (λi hi=>W.hb _ (by lia)) (λp q a1 a2 a3=>W.ub p q (Jf _) a2 (by lia)) λt k1 k2 k3=>?_)
 have q2:∀m,m<t->m<b.size->LT (K a (na - 1)) (K b m)=Y:=λm m1 m2=>by
  have:=k2 m m1;unfold fB at this;simp only[if_true,K4]at this;exact O.asym _ _ this
 dsimp only
 by_cases c:nb - 1 - t>0
 ·rw[if_pos c]
  have j2:=j1.cB (t:=t) (by lia) λi i1 i2 i3 m m1 m2=>O.tr _ _ _ (W.ua m (na - 1) (Jf _) (by lia) (by lia)) (by simpa only[fB,if_true,K4]using k3 i i1 i2)
  by_cases e2:t=1
  ·rw[if_pos (beq_iff_eq.mpr e2)];exact IV (Z.good _ _ _ (j2.fB W e2))
  rw[if_neg (λq=>e2 (beq_iff_eq.mp q))]
  by_cases e3:t=0
  ·rw[if_pos (beq_iff_eq.mpr e3)];exact IV (Z.good _ _ _ (j2.dB e3))
  rw[if_neg (λq=>e3 (beq_iff_eq.mp q))]
  exact B8 W ⟨j2,h1,h1',by lia,by lia,by lia⟩ Z q2
 ·rw[if_neg c]
  exact B8 W ⟨j1,h1,h1',by lia,by lia,by lia⟩ Z (by rw[show t=nb - 1 by lia]at q2;exact q2)
theorem GE (Z:EndH LT a b st n0 P):
  wpS (model prog w) A E s (hiA a b out na nb mg ac bc) P (ar st g):=by
 obtain⟨j,h1,h1',h2,h2',h3⟩:=j;unfold hiA;refine IS (Lm ?_)
 refine IS (aE (by lia) ?_)
 refine IS (cZ (st:=ar st mg) O H hk (W.hb _ (by lia)) (by lia) (by lia) (λi hi=>W.ha _ (by lia)) (λp q a1 a2 a3=>W.ua p q (Jf _) a2 (by lia)) λt k1 k2 k3=>?_)
 have q2:∀m,m<t->m<a.size->LT (K b (nb - 1)) (K a m)=Y:=λm m1 m2=>by
  have:=k2 m m1;unfold fB at this
  lia
 dsimp only
 by_cases c:na - t>0
 ·rw[if_pos c]
  have j2:=j.cA (t:=t) (by lia) λi i1 i2 i3 m m1 m2=>O.tr _ _ _ (W.ub m (nb - 1) (Jf _) (by lia) (by lia)) (O.asym _ _ (by simpa only[fB,IT,if_false,NU,K4]using k3 i i1 i2))
  by_cases e1:t=0
  ·rw[if_pos (beq_iff_eq.mpr e1)];exact IV (Z.good _ _ _ (j2.dA e1))
  ·rw[if_neg (λq=>e1 (beq_iff_eq.mp q))]
   exact Co O H hk W ⟨j2,by lia,by lia,h2,h2',by lia⟩ Z q2
 ·rw[if_neg c]
  exact Co O H hk W ⟨j,h1,h1',h2,h2',h3⟩ Z (by rw[show t=na by lia]at q2;exact q2)
theorem GL {P:ForInStep VS->JB->Prop}(z1:∀m r,Good LT (a.toList++b.toList) m.toList->P (.done (U m,r)) (ar st g)) (z2:∀out na nb ac bc,IH LT a b n0 out na nb->P (.done (B,na,nb,out,ac,bc)) (ar st g)/\P (.yield (B,na,nb,out,ac,bc)) (ar st g)):
  wpS (model prog w) A E s (hiW a b out na nb mg ac bc) P (ar st g):=by
 obtain⟨j,i1,i1',i2,i2',i3⟩:=j;refine IS (aE (by lia) (IS (aE (by lia) (IS (xB (st:=ar st g) H hk (W.hb _ (by lia)) (W.ha _ (by lia)) ?_)))))
 cases hw:LT (K b (nb - 1)) (K a (na - 1))with
 |true=>
  refine IS (aE (by lia) ?_)
  have j1:=JH.pA (na:=na - 1) (by rw[show na - 1+1=na by lia];exact j) (by lia) λk k1 k2=>O.tr _ _ _ (W.ub k (nb - 1) (Jf _) (by lia) (by lia)) (O.asym _ _ hw)
  by_cases e:na - 1=0
  ·rw[if_pos (beq_iff_eq.mpr e)];exact IV (z1 _ _ (j1.dA e))
  ·rw[if_neg (λq=>e (beq_iff_eq.mp q))]
   have z:=λac bc=>z2 _ _ _ ac bc ⟨j1,by lia,by lia,i2,i2',by lia⟩
   by_cases c:ac+1>=mg
   ·rw[if_pos c];exact IV (z _ _).1
   ·rw[if_neg c];exact IV (z _ _).2
 |false=>
  refine IS (aE (by lia) ?_)
  have j1:=JH.pB (nb:=nb - 1) (by rw[show nb - 1+1=nb by lia];exact j) (by lia) λk k1 k2=>O.tr _ _ _ (W.ua k (na - 1) (Jf _) (by lia) (by lia)) hw
  by_cases e:nb - 1=1
  ·rw[if_pos (beq_iff_eq.mpr e)];exact IV (z1 _ _ (j1.fB W e))
  ·rw[if_neg (λq=>e (beq_iff_eq.mp q))]
   have z:=λac bc=>z2 _ _ _ ac bc ⟨j1,i1,i1',by lia,by lia,by lia⟩
   by_cases c:bc+1>=mg
   ·rw[if_pos c];exact IV (z _ _).1
   ·rw[if_neg c];exact IV (z _ _).2
theorem Gm (Z:EndH LT a b st n0 P):wpS (model prog w) A E s (hiG a b out na nb mg ac bc) P (ar st g):=by
 unfold hiG;split<;>exact GE O H hk W j Z
theorem GB {P:ForInStep PS->JB->Prop}(z1:∀m r g,Good LT (a.toList++b.toList) m.toList->P (.done (U m,r)) (ar st g)) (z2:∀out na nb mg g,IH LT a b (n0+1) out na nb->P (.yield (B,na,nb,out,mg)) (ar st g)):
  wpS (model prog w) A E s (hiO a b out na nb mg) P (ar st g):=by
 refine IS (Lk (Kr (I:=λy c st'=>∃na nb out ac bc,c=(B,na,nb,out,ac,bc)/\st'=ar st g/\IH LT a b n0 out na nb)
  (Q:=λc st'=>st'=ar st g/\((∃m r,c=(U m,r)/\Good LT (a.toList++b.toList) m.toList)\/∃na nb out ac bc,c=(B,na,nb,out,ac,bc)/\IH LT a b n0 out na nb)) ?_ ?_ ⟨na,nb,out,0,0,rfl,rfl,j⟩) ?_)
 ·intro y c st' _ _ hz;obtain⟨na,nb,out,ac,bc,rfl,rfl,j⟩:=hz
  exact GL O H hk W j (λm r hm=>⟨rfl,.inl ⟨m,r,rfl,hm⟩⟩) λout na nb ac bc j=>⟨⟨rfl,.inr ⟨_,_,_,_,_,rfl,j⟩⟩,⟨_,_,_,_,_,rfl,rfl,j⟩⟩
 ·intro c st' hz;obtain⟨na,nb,out,ac,bc,rfl,rfl,j⟩:=hz
  exact⟨rfl,.inr ⟨_,_,_,_,_,rfl,j⟩⟩
 ·intro c st' hz;obtain⟨rfl,hz⟩:=hz;rcases hz with hz|hz
  ·obtain⟨m,r,rfl,hm⟩:=hz;exact IV (z1 m _ g hm)
  ·obtain⟨na,nb,out,ac,bc,rfl,j⟩:=hz
   refine IS (NV (Kf ⟨rfl,?_⟩))
   refine IS (Lk (Kr (I:=λy c st'=>∃na nb out mg ac bc g,c=(B,na,nb,out,mg,ac,bc)/\st'=ar st g/\IH LT a b n0 out na nb/\(1<=y->na+nb+n0<a.size+b.size))
    (Q:=λc st'=>∃g,st'=ar st g/\((∃m r,c=(U m,r)/\Good LT (a.toList++b.toList) m.toList)\/∃na nb out mg ac bc,c=(B,na,nb,out,mg,ac,bc)/\IH LT a b (n0+1) out na nb)) ?_ ?_ ⟨na,nb,out,_,ac,bc,g,rfl,rfl,j,λq=>absurd q (by lia)⟩) ?_)
   ·intro y c st' _ _ hz;obtain⟨na,nb,out,mg,ac,bc,g,rfl,rfl,j,_⟩:=hz
    exact Gm O H hk W j ⟨λm r g hm=>⟨g,rfl,.inl ⟨m,r,rfl,hm⟩⟩,λout na nb mg ac bc g j=>⟨⟨g,rfl,.inr ⟨_,_,_,_,_,_,rfl,j⟩⟩,⟨_,_,_,_,_,_,g,rfl,rfl,⟨j.1,j.2.1,j.2.2.1,j.2.2.2.1,j.2.2.2.2.1,by lia⟩,λ_=>by lia⟩⟩⟩
   ·intro c st' hz;obtain⟨na,nb,out,mg,ac,bc,g,rfl,rfl,⟨j,i1,i1',i2,i2',i3⟩,i4⟩:=hz
    exact⟨g,rfl,.inr ⟨_,_,_,_,_,_,rfl,j,i1,i1',i2,i2',i4 (by lia)⟩⟩
   ·intro c st' hz;obtain⟨g,rfl,hz⟩:=hz;rcases hz with hz|hz
    ·obtain⟨m,r,rfl,hm⟩:=hz;exact IV (z1 m _ g hm)
    ·obtain⟨na,nb,out,mg,ac,bc,rfl,j⟩:=hz;exact IS (Lm (IV (z2 _ _ _ _ _ j)))
end
theorem wA {Q:Array IQ->JB->Prop}(h:∀m g,Good LT (a.toList++b.toList) m.toList->Q m (ar st g)):wpS (model prog w) A E s (nG a b) Q st:=by
 have za:=W.za;have zb:=W.zb;rw[Hj];refine IS (NV (Kf ⟨rfl,?_⟩))
 refine IS (aE (by lia) ?_)
 by_cases e1:a.size - 1=0
 ·rw[if_pos (beq_iff_eq.mpr e1)];exact IV (h _ (gallopOf st) (W.k0.dA e1))
 rw[if_neg (λq=>e1 (beq_iff_eq.mp q))]
 by_cases e2:b.size=1
 ·rw[if_pos (beq_iff_eq.mpr e2)];exact IV (h _ (gallopOf st) (W.k0.fB W e2))
 rw[if_neg (λq=>e2 (beq_iff_eq.mp q))]
 refine IS (M5 ?_)
 refine IS (Lk (Kr (I:=λx c st'=>∃na nb out mg g,c=(B,na,nb,out,mg)/\st'=ar st g/\IH LT a b (x+1) out na nb)
  (Q:=λc st'=>∃m g r,c=(U m,r)/\st'=ar st g/\Good LT (a.toList++b.toList) m.toList) ?_ ?_ ⟨_,_,_,_,gallopOf st,rfl,rfl,W.k0,by lia,by lia,by lia,by lia,by lia⟩) ?_)
 ·intro x c st' g1 g2 hz;obtain⟨na,nb,out,mg,g,rfl,rfl,j⟩:=hz
  exact GB O H hk W j (λm r g hm=>⟨m,g,_,rfl,rfl,hm⟩) λout na nb mg g j=>⟨_,_,_,_,_,rfl,rfl,j⟩
 ·intro c st' hz;obtain⟨na,nb,out,mg,g,rfl,rfl,j,i1,i1',i2,i2',i3⟩:=hz
  exfalso;lia
 ·intro c st' hz;obtain⟨m,g,r,rfl,rfl,hm⟩:=hz
  exact IV (h m g hm)
end
end SM
namespace SM
open PySem PyProof.Rows
theorem rK (i:Nat):mergeAt' i=(do
 let s <-get
 let (U (sa,na,power),U (sb,nb,_)):=((pendingOf s)[i]?,(pendingOf s)[i+1]?)|unsupported "internal:list.sort.pending"
 set (setPending s (((pendingOf s).setIfInBounds i (sa,na+nb,power)).eraseIdxIfInBounds (i+1)))
 let U k <-fu Y (<-elem' (arrOf s) sb) (arrOf s) sa na 0|return Y
 let (sa,na):=(sa+k,na - k)
 if na==0 then return V
 let U nb <-fu V (<-elem' (arrOf s) (sa+na - 1)) (arrOf s) sb nb (nb - 1)|return Y
 if nb==0 then return V
 let x:=(arrOf s).extract sa sb
 let y:=(arrOf s).extract sb (sb+nb)
 let merged <-if na<=nb then nQ x y else nG x y
 modify λs=>setArr s (merged.toList.zipIdx.foldl (λa (p,j)=>a.setIfInBounds (sa+j) p) (arrOf s))
 return (failedOf (<-get)).isNone):=rfl
theorem jy {a:Array IQ}{s e i:Nat}(h:s+i<e):K (a.extract s e) i=K a (s+i):=by
 apply ER;rw[Array.getElem?_extract]
 split
 ·rfl
 ·rw[Lu];lia
theorem Em {P L L' S:List IQ}{q:Nat}(e:L.length=L'.length) (h:q<P.length\/P.length+L.length<=q):(P++L++S)[q]?=(P++L'++S)[q]?:=by
 grind
theorem zJ (m:List IQ):∀(mid pre post:List IQ) (a:Array IQ) (o st:Nat),a.toList=pre++mid++post->pre.length=o+st->m.length=mid.length->
  ((m.zipIdx st).foldl (λa (p:IQ×Nat)=>a.setIfInBounds (o+p.2) p.1) a).toList=pre++m++post:=by
 induction m with
 |nil=>intro mid pre post a o st h _ h3;rw[List.eq_nil_of_length_eq_zero h3.symm]at h;exact h
 |cons x m ih=>
  intro mid pre post a o st h h2 h3;cases mid with
  |nil=>cases h3
  |cons c mid=>
   rw[List.zipIdx_cons,Ld];have:=ih mid (pre++[x]) post (a.setIfInBounds (o+st) x) o (st+1) (by
    simp_all) (by simp;lia) (OQ h3)
   rw[this];simp
section
variable{prog:J9}{w:KB}{A:Jj}{E:IA->IB->Prop}{s:IB}{LT:IQ->IQ->Bool}{T:Array IQ}{κ:Mc}{a:Array IQ}
theorem ug {i j:Nat}(u:Up LT a i j):(a.extract i j).toList.Pairwise (R LT):=by
 apply pw_up;intro p q _ h1 h2;rw[NS]at h2;rw[jy (by lia),jy (by lia)]
 exact u _ _ (by lia) (by lia) (by lia)
theorem Bv (O:OrdK LT) {P L S:List IQ}(h:a.toList=P++L++S) (hl:L.Pairwise (R LT)):Up LT a P.length (P.length+L.length):=λp q h1 h2 h3=>by
 have e:∀i (hi:i<L.length),K a (P.length+i)=L[i]:=λi hi=>by
  rw[i9,h,J0,MJ (by lia),show P.length+i - P.length=i by lia,La hi];simp[hi]
 obtain⟨p,rfl⟩:∃p',p=P.length+p':=⟨p - P.length,by lia⟩
 obtain⟨q,rfl⟩:∃p',q=P.length+p':=⟨q - P.length,by lia⟩
 rw[e p (by lia),e q (by lia)]
 by_cases c:p=q
 ·subst c;exact O.irr _
 ·exact List.pairwise_iff_getElem.mp hl p q (by lia) (by lia) (by lia)
theorem vM (O:OrdK LT) (H:Ans prog w A s κ LT T) {p:Array (Nat×Nat×Nat)}{l1 l2:List (Nat×Nat×Nat)}{sa na pw nb pw2 g i:Nat}(hT:a.Perm T) (hp:p.toList=l1++(sa,na,pw)::(sa+na,nb,pw2)::l2) (hi:i=l1.length) (h1:1<=na) (h2:1<=nb)
  (hz:sa+na+nb<=T.size) (u1:Up LT a sa (sa+na)) (u2:Up LT a (sa+na) (sa+na+nb)) {Q:Bool->JB->Prop}
  (h:∀a' p' g,a'.Perm T->(∀k,k<sa\/sa+na+nb<=k->K a' k=K a k)->Up LT a' sa (sa+(na+nb))->p'.toList=l1++(sa,na+nb,pw)::l2->Q V (JJ κ a' p' g B)):
  wpS (model prog w) A E s (mergeAt' i) Q (JJ κ a p g B):=by
 have ez:=hT.size_eq;have mT:∀k,k<T.size->K a k∈T:=λk hk=>hT.mem_iff.mp (Db (by lia))
 subst hi;have g1:p[l1.length]?=U (sa,na,pw):=by rw[<-Km,hp];simp
 have g2:p[l1.length+1]?=U (sa+na,nb,pw2):=by rw[<-Km,hp];simp
 rw[rK];refine IS (M5 ?_)
 have ea:∀p g,arrOf (JJ κ a p g B)=a:=λ_ _=>rfl
 simp only[ea];rw[g1,g2];dsimp only;have hp':((p.setIfInBounds l1.length (sa,na+nb,pw)).eraseIdxIfInBounds (l1.length+1)).toList=l1++(sa,na+nb,pw)::l2:=by
  rw[Array.toList_eraseIdxIfInBounds,ON,hp];simp[List.eraseIdx_append_of_length_le]
 generalize ((p.setIfInBounds l1.length (sa,na+nb,pw)).eraseIdxIfInBounds (l1.length+1))=p' at hp'⊢;refine IS (?_:wpS (model prog w) A E s (set _:StateT JB Op PUnit) _ _)
 unfold wpS;refine Iy ⟨rfl,?_⟩
 refine IS (aE (by lia) ?_)
 refine IS (cZ (st:=JJ κ a p' g B) O H rfl (mT _ (by lia)) (by lia) (by lia) (λj hj=>mT _ (by lia)) u1 λk k1 k2 k3=>?_)
 dsimp only;have whole:∀(e:∀q,q<na->LT (K a (sa+na)) (K a (sa+q))=Y),Up LT a sa (sa+(na+nb)):=λe x y a1 a2 a3=>by
  by_cases c1:y<sa+na
  ·exact u1 x y a1 a2 c1
  ·by_cases c2:x<sa+na
   ·have:=e (x - sa) (by lia)
    rw[show sa+(x - sa)=x by lia]at this
    exact O.tr _ _ _ this (u2 (sa+na) y (IM _) (by lia) (by lia))
   ·exact u2 x y (by lia) a2 (by lia)
 by_cases c:na - k=0
 ·rw[if_pos (beq_iff_eq.mpr c)]
  exact IV (h a p' g hT (λ_ _=>rfl) (whole λq hq=>by simpa only[fB,IT,if_false,LL]using k2 q (by lia)) hp')
 rw[if_neg (λq=>c (beq_iff_eq.mp q))]
 have el:sa+k+(na - k) - 1=sa+na - 1:=by lia
 rw[el];refine IS (aE (by lia) ?_)
 refine IS (cZ (st:=JJ κ a p' g B) O H rfl (mT _ (by lia)) (by lia) (by lia) (λj hj=>mT _ (by lia)) u2 λnb' n1 n2 n3=>?_)
 dsimp only
 by_cases c':nb'=0
 ·rw[if_pos (beq_iff_eq.mpr c')]
  refine IV (h a p' g hT (λ_ _=>rfl) (whole λq hq=>?_) hp')
  have:=n3 0 (by lia) (by lia)
  exact O.tr _ _ _ (u1 (sa+q) (sa+na - 1) (by lia) (by lia) (by lia)) this
 rw[if_neg (λq=>c' (beq_iff_eq.mp q))]
 have W:Two LT T (a.extract (sa+k) (sa+na)) (a.extract (sa+na) (sa+na+nb')):=by
  have zx:(a.extract (sa+k) (sa+na)).size=na - k:=by rw[NS];lia
  have zy:(a.extract (sa+na) (sa+na+nb')).size=nb':=by rw[NS];lia
  refine⟨λi hi=>?_,λi hi=>?_,λx y a1 a2 a3=>?_,λx y a1 a2 a3=>?_,by lia,by lia,λj hj=>?_,λj hj=>?_⟩
  ·rw[jy (by lia)];exact mT _ (by lia)
  ·rw[jy (by lia)];exact mT _ (by lia)
  ·rw[jy (by lia),jy (by lia)];exact u1 _ _ (by lia) (by lia) (by lia)
  ·rw[jy (by lia),jy (by lia)];exact u2 _ _ (by lia) (by lia) (by lia)
  ·rw[jy (by lia),jy (by lia)]
   have:=k3 (k+j) (by lia) (by lia)
   simp only[fB,IT,if_false,NU]at this;rw[show sa+k+j=sa+(k+j) by lia]
   exact O.asym _ _ this
  ·rw[zx,jy (by lia),jy (by lia),show sa+k+(na - k - 1)=sa+na - 1 by lia]
   have:=n2 j (by lia)
   exact O.asym _ _ this
 have fin:∀(m:Array IQ) (g':Nat),Good LT ((a.extract (sa+k) (sa+na)).toList++(a.extract (sa+na) (sa+na+nb')).toList) m.toList->
   wpS (model prog w) A E s (do
    modify λs=>setArr s (m.toList.zipIdx.foldl (λa (p:IQ×Nat)=>a.setIfInBounds (sa+k+p.2) p.1) (arrOf s))
    return (failedOf (<-get)).isNone) Q (JJ κ a p' g' B):=λm g' hm=>by
  refine IS (Lm (IS (M5 (IV ?_))))
  have dec:a.toList=a.toList.take sa++((a.extract sa (sa+k)).toList++((a.extract (sa+k) (sa+na)).toList++(a.extract (sa+na) (sa+na+nb')).toList)++(a.extract (sa+na+nb') (sa+na+nb)).toList)++a.toList.drop (sa+na+nb):=by
   have d1:=db a sa k;have d2:=db a (sa+k) (na - k);have d3:=db a (sa+na) nb';have d4:=db a (sa+na+nb') (nb - nb');rw[show sa+k+(na - k)=sa+na by lia]at d2
   rw[show sa+na+nb'+(nb - nb')=sa+na+nb by lia]at d4
   rw[d2,d3,d4]at d1;have:=(K6 sa a.toList).symm;rw[d1]at this
   conv=>lhs;rw[this]
   simp only[J0]
  have ml:m.toList.length=((a.extract (sa+k) (sa+na)).toList++(a.extract (sa+na) (sa+na+nb')).toList).length:=hm.pm.length_eq;have dec':a.toList=a.toList.take sa++(a.extract sa (sa+k)).toList++((a.extract (sa+k) (sa+na)).toList++(a.extract (sa+na) (sa+na+nb')).toList)++((a.extract (sa+na+nb') (sa+na+nb)).toList++a.toList.drop (sa+na+nb)):=by
   conv=>lhs;rw[dec]
   simp only[J0]
  have res:=zJ m.toList _ _ _ a (sa+k) 0 dec' (by simp;lia) ml
  have res':(m.toList.zipIdx.foldl (λa (p:IQ×Nat)=>a.setIfInBounds (sa+k+p.2) p.1) a).toList=a.toList.take sa++((a.extract sa (sa+k)).toList++m.toList++(a.extract (sa+na+nb') (sa+na+nb)).toList)++a.toList.drop (sa+na+nb):=by
   rw[res];simp only[J0]
  have pl:(a.toList.take sa).length=sa:=by simp;lia
  have len:((a.extract sa (sa+k)).toList++m.toList++(a.extract (sa+na+nb') (sa+na+nb)).toList).length=na+nb:=by
   rw[Jy,Jy,ml];simp;lia
  refine h _ p' g' ?_ (λq hq=>?_) ?_ hp'
  ·refine Array.Perm.trans (Array.perm_iff_toList_perm.mpr ?_) hT
   rw[res']
   conv=>rhs;rw[dec]
   exact((((Lg _).append hm.pm).append (Lg _)).append_left _).append_right _
  ·rw[i9,i9,res']
   conv=>rhs;rw[dec]
   congr 1;exact Em (by simp only[Jy]at ml⊢;lia) (by rw[pl,len];lia)
  ·have:=Bv O res' ?_
   ·rw[pl,len]at this;exact this
   have ux:∀v∈(a.extract (sa+k) (sa+na)).toList,LT (K a (sa+na - 1)) v=Y:=λv hv=>by
    obtain⟨i,i1,i2,_,rfl⟩:=bx hv;exact u1 i (sa+na - 1) (by lia) (by lia) (by lia)
   have uc:∀v∈(a.extract sa (sa+k)).toList,LT (K a (sa+na - 1)) v=Y:=λv hv=>by
    obtain⟨i,i1,i2,_,rfl⟩:=bx hv;exact u1 i (sa+na - 1) (by lia) (by lia) (by lia)
   have uz:∀z∈(a.extract (sa+na+nb') (sa+na+nb)).toList,LT z (K a (sa+na - 1))=Y:=λz hz=>by
    obtain⟨i,i1,i2,_,rfl⟩:=bx hz;have:=n3 (i - (sa+na)) (by lia) (by lia)
    simpa only[fB,if_true,show sa+na+(i - (sa+na))=i by lia]using this
   rw[LO,LO];refine⟨⟨ug λx y a1 a2 a3=>u1 x y a1 a2 (by lia),hm.so,λu hu v hv=>?_⟩,ug λx y a1 a2 a3=>u2 x y (by lia) a2 a3,λv hv z hz=>?_⟩
   ·obtain⟨i,i1,i2,_,rfl⟩:=bx hu
    rcases List.mem_append.mp (hm.pm.mem_iff.mp hv)with hv|hv
    ·obtain⟨j,j1,j2,_,rfl⟩:=bx hv
     exact u1 i j (by lia) (by lia) (by lia)
    ·obtain⟨j,j1,j2,_,rfl⟩:=bx hv
     have:=k2 (i - sa) (by lia)
     simp only[fB,IT,if_false,LL,show sa+(i - sa)=i by lia]at this
     exact O.tr _ _ _ this (u2 (sa+na) j (IM _) (by lia) (by lia))
   ·rcases List.mem_append.mp hv with hv|hv
    ·exact O.tr _ _ _ (uc v hv) (uz z hz)
    ·rcases List.mem_append.mp (hm.pm.mem_iff.mp hv)with hv|hv
     ·exact O.tr _ _ _ (ux v hv) (uz z hz)
     ·obtain⟨j,j1,j2,_,rfl⟩:=bx hv
      obtain⟨i,i1,i2,_,rfl⟩:=bx hz;exact u2 j i (by lia) (by lia) (by lia)
 by_cases c3:na - k<=nb'
 ·rw[if_pos c3];exact IS (vU (st:=JJ κ a p' g B) O H rfl W λm g' hm=>fin m g' hm)
 ·rw[if_neg c3];exact IS (wA (st:=JJ κ a p' g B) O H rfl W λm g' hm=>fin m g' hm)
end
end SM
namespace SM
open PySem PyProof.Rows
noncomputable abbrev P3:=Nat×Nat×Nat
noncomputable def Tile:List P3->Nat->Nat->Prop
 |[],s,e=>s=e
 |q::r,s,e=>q.1=s/\1<=q.2.1/\Tile r (s+q.2.1) e
theorem Tile.le:∀{l:List P3}{s e:Nat},Tile l s e->s+l.length<=e
 |[],_,_,h=>by simp_all [Tile]
 |q::r,s,e,h=>by have:=h.2.2.le;have:=h.2.1;simp;lia
theorem Tile.app:∀{l m:List P3}{s e:Nat},Tile (l++m) s e->∃t,Tile l s t/\Tile m t e
 |[],m,s,e,h=>⟨s,rfl,h⟩
 |q::r,m,s,e,h=>by
  obtain⟨t,a,b⟩:=h.2.2.app;exact⟨t,⟨h.1,h.2.1,a⟩,b⟩
theorem Tile.join:∀{l m:List P3}{s t e:Nat},Tile l s t->Tile m t e->Tile (l++m) s e
 |[],m,s,t,e,h,h'=>by simp_all [Tile]
 |q::r,m,s,t,e,h,h'=>⟨h.1,h.2.1,h.2.2.join h'⟩
theorem Tile.bound:∀{l:List P3}{s e:Nat},Tile l s e->∀q∈l,s<=q.1/\q.1+q.2.1<=e
 |p::r,s,e,h,q,hq=>by
  have:=h.2.2.le
  rcases List.mem_cons.mp hq with rfl|hq
  ·have:=h.1;lia
  ·have:=h.2.2.bound q hq;lia
section
variable{prog:J9}{w:KB}{A:Jj}{E:IA->IB->Prop}{s:IB}{LT:IQ->IQ->Bool}{T:Array IQ}{κ:Mc}{a:Array IQ}
structure Wait (LT:IQ->IQ->Bool) (T a:Array IQ) (p:Array P3) (lo:Nat):Prop where
 pm:a.Perm T
 ti:Tile p.toList 0 lo
 up:∀q∈p.toList,Up LT a q.1 (q.1+q.2.1)
theorem Wait.merge (O:OrdK LT) (H:Ans prog w A s κ LT T) {p:Array P3}{lo g i:Nat}(hz:lo<=T.size) (h:Wait LT T a p lo) (hi:i+1<p.size) {Q:Bool->JB->Prop}
  (hQ:∀a' p' g,Wait LT T a' p' lo->p'.size+1=p.size->(∀k,lo<=k->K a' k=K a k)->Q V (JJ κ a' p' g B)):wpS (model prog w) A E s (mergeAt' i) Q (JJ κ a p g B):=by
 obtain⟨l1,l2,x,y,e,hl⟩:∃l1 l2 x y,p.toList=l1++x::y::l2/\l1.length=i:=by
  have hi':i+1<p.toList.length:=by simpa using hi
  refine⟨p.toList.take i,p.toList.drop (i+2),p.toList[i],p.toList[i+1],?_,by simp;lia⟩
  rw[<-Jr hi',<-Jr (by lia),K6]
 obtain⟨sa,na,pw⟩:=x;obtain⟨sb,nb,pw2⟩:=y;have ti:=h.ti;rw[e]at ti;obtain⟨t,t1,t2⟩:=ti.app;obtain⟨r1,r2,r3,r4,r5⟩:=t2;dsimp only at r1 r2 r3 r4 r5;subst r1 r3;have b1:=r5.le;have u1:=h.up (sa,na,pw) (by rw[e];simp)
 have u2:=h.up (sa+na,nb,pw2) (by rw[e];simp)
 refine vM O H h.pm e hl.symm r2 r4 (by lia) u1 u2 λa' p' g hp hk hu he=>hQ a' p' g ⟨hp,?_,λq hq=>?_⟩ ?_ λk hk'=>hk k (by lia)
 ·rw[he]
  exact t1.join ⟨rfl,by dsimp only;lia,by dsimp only;rw[<-Pg];exact r5⟩
 ·rw[he]at hq
  have cg:∀q∈p.toList,q.1+q.2.1<=sa\/sa+na+nb<=q.1->Up LT a' q.1 (q.1+q.2.1):=λq hq hd x y a1 a2 a3=>by
   rw[hk x (by lia),hk y (by lia)];exact h.up q hq x y a1 a2 a3
  rcases List.mem_append.mp hq with hq|hq
  ·exact cg q (by rw[e];exact JU _ hq) (.inl (t1.bound q hq).2)
  ·rcases List.mem_cons.mp hq with rfl|hq
   ·exact hu
   ·exact cg q (by simp_all) (.inr (r5.bound q hq).1)
 ·have l1:=congrArg Kk he
  have l2:=congrArg Kk e;simp at l1 l2;lia
theorem Wait.push {p:Array P3}{lo n z:Nat}(h:Wait LT T a p lo) (hn:1<=n) (hu:Up LT a lo (lo+n)):Wait LT T a (p.push (lo,n,z)) (lo+n):=by
 refine⟨h.pm,by rw[Ky];exact h.ti.join ⟨rfl,hn,rfl⟩,λq hq=>?_⟩
 rw[Ky]at hq
 rcases List.mem_append.mp hq with hq|hq
 ·exact h.up q hq
 simp_all
theorem uH {f:P3->P3}(hf:∀q,(f q).1=q.1/\(f q).2.1=q.2.1):∀{l:List P3}{i s e:Nat},Tile l s e->Tile (l.modify i f) s e
 |[],i,s,e,h=>by simpa using h
 |q::r,0,s,e,h=>by
  simp only[PH,Tile,(hf q).1,(hf q).2];exact h
 |q::r,i+1,s,e,h=>by
  simp only[PJ];exact⟨h.1,h.2.1,uH hf h.2.2⟩
theorem mH {f:P3->P3}:∀{l:List P3}{i:Nat}{q:P3},q∈l.modify i f->q∈l\/∃r∈l,q=f r
 |[],i,q,h=>by simp at h
 |p::r,0,q,h=>by
  simp only[PH]at h
  rcases List.mem_cons.mp h with rfl|h
  ·exact .inr ⟨p,.head _,rfl⟩
  ·exact .inl (.tail _ h)
 |p::r,i+1,q,h=>by
  simp only[PJ]at h
  rcases List.mem_cons.mp h with rfl|h
  ·exact .inl (.head _)
  ·rcases mH h with h|⟨x,h,e⟩
   ·exact .inl (.tail _ h)
   ·exact .inr ⟨x,.tail _ h,e⟩
theorem Wait.mod {p:Array P3}{lo i z:Nat}(h:Wait LT T a p lo):Wait LT T a (p.modify i λ(st,len,_)=>(st,len,z)) lo:=by
 refine⟨h.pm,by rw[PV];exact uH (f:=λ(st,len,_)=>(st,len,z)) (λq=>⟨rfl,rfl⟩) h.ti,λq hq=>?_⟩
 rw[PV]at hq
 rcases mH hq with hq|⟨r,hr,rfl⟩
 ·exact h.up q hq
 ·exact h.up r hr
theorem sortRuns_wp (O:OrdK LT) (H:Ans prog w A s κ LT T) {g:Nat}(h2:2<=T.size) {Q:Unit->JB->Prop}(hQ:∀a p g,a.Perm T->Up LT a 0 T.size->Q () (JJ κ a p g B)):wpS (model prog w) A E s sortRuns' Q (JJ κ T #[] g B):=by
 rw[sortRuns'_eq];refine IS (M5 ?_)
 have ea:∀a p g,arrOf (JJ κ a p g B)=a:=λ_ _ _=>rfl
 have ep:∀a p g,pendingOf (JJ κ a p g B)=p:=λ_ _ _=>rfl
 simp only[ea];generalize minRun' T.size T.size 0=mr;refine IS (Lk (Kr (I:=λx c st'=>∃a p g lo,c=(B,lo)/\st'=JJ κ a p g B/\Wait LT T a p lo/\lo<=T.size/\x<=lo)
  (Q:=λc st'=>∃a p g,c=(B,T.size)/\st'=JJ κ a p g B/\Wait LT T a p T.size) ?_ ?_ ⟨T,#[],g,0,rfl,rfl,⟨Array.Perm.refl _,rfl,λq hq=>nomatch hq⟩,Jf _,IM _⟩) ?_)
 ·intro x c st' _ hx hz;obtain⟨a,p,g,lo,rfl,rfl,hw,hlo,hxl⟩:=hz
  dsimp only
  by_cases c1:lo>=T.size
  ·rw[if_pos c1]
   have:lo=T.size:=by lia
   exact IV ⟨a,p,g,by rw[this],rfl,by rw[<-this];exact hw⟩
  rw[if_neg c1];refine IS (sX (st:=JJ κ a p g B) O H rfl hw.pm (by lia) (by lia) λm a1 m1 m2 C1 U1=>?_)
  have wt:∀a2,Chg T a lo a2->Wait LT T a2 p lo:=λa2 C=>⟨C.perm,hw.ti,λq hq x y h1 h2 h3=>by
   have:=(hw.ti.bound q hq).2;rw[C.keep x (by lia),C.keep y (by lia)];exact hw.up q hq x y h1 h2 h3⟩
  dsimp only
  by_cases c2:m<mr
  all_goals first
   |rw[if_neg c2]
   |(rw[if_pos c2]
     refine IS (NV (Kf ⟨rfl,?_⟩))
     have C0:=C1;have n0:1<=min (T.size - lo) mr/\min (T.size - lo) mr<=T.size - lo:=by lia
     refine IS (nX (st:=JJ κ a1 p g B) O H rfl C1.perm (by lia) (by lia) (by lia) U1 λa1 C2 U1=>?_)
     have C1:Chg T a lo a1:=⟨C2.perm,λk hk=>(C2.keep k hk).trans (C0.keep k hk)⟩
     simp only[KG,IT,if_false];obtain⟨m1,m2⟩:=n0;generalize min (T.size - lo) mr=m at U1 m1 m2⊢)
  all_goals
   have W1:=wt a1 C1;clear wt C1;refine IS (M5 ?_)
   have e0:pendingOf (setArr (JJ κ a p g B) a1)=p:=rfl;cases hb:(pendingOf (JJ κ a1 p g B)).back? with
   |none=>
    have hb':p.back?=B:=hb;simp only[ep,hb'];exact IS (Lm (IV ⟨_,_,_,_,rfl,rfl,W1.push m1 U1,by lia,by lia⟩))
   |some q=>
    obtain⟨s1,n1,z⟩:=q;have hb':p.back?=U (s1,n1,z):=hb;simp only[ep,hb'];generalize power' T.size (2*s1+n1) (2*s1+n1+n1+m) T.size=pw;refine IS (Lk (Kr (I:=λ_ c st'=>c=(B,())/\∃a' p' g',st'=JJ κ a' p' g' B/\Wait LT T a' p' lo/\∀k,lo<=k->K a' k=K a1 k)
     (Q:=λc st'=>c=(B,())/\∃a' p' g',st'=JJ κ a' p' g' B/\Wait LT T a' p' lo/\∀k,lo<=k->K a' k=K a1 k) ?_ (λ_ _ h=>h) ⟨rfl,a1,p,g,rfl,W1,λ_ _=>rfl⟩) ?_)
    ·intro x c st' _ _ hz;obtain⟨rfl,a',p',g',rfl,hw',hk'⟩:=hz
     refine IS (M5 ?_)
     simp only[ep]
     by_cases c:p'.size>1
     ·rw[if_pos c,getElem?_pos p' (p'.size - 2) (by lia)]
      generalize p'[p'.size - 2]=q;obtain⟨u1,u2,old⟩:=q;dsimp only
      by_cases c2:old<=pw
      ·rw[if_pos c2];exact IV ⟨rfl,a',p',g',rfl,hw',hk'⟩
      ·rw[if_neg c2]
       refine IS (hw'.merge O H (by lia) (by lia) λa2 p2 g2 hw2 _ hk2=>?_)
       exact IV ⟨rfl,a2,p2,g2,rfl,hw2,λk hk=>(hk2 k hk).trans (hk' k hk)⟩
     ·rw[if_neg c];exact IV ⟨rfl,a',p',g',rfl,hw',hk'⟩
    ·intro c st' hz;obtain⟨rfl,a',p',g',rfl,hw',hk'⟩:=hz
     have hu':Up LT a' lo (lo+m):=λx y h1 h2 h3=>by rw[hk' x h1,hk' y (by lia)];exact U1 x y h1 h2 h3
     exact IS (Lm (IS (Lm (IV ⟨_,_,_,_,rfl,rfl,hw'.mod.push m1 hu',by lia,by lia⟩))))
 ·intro c st' hz;obtain⟨a,p,g,lo,rfl,rfl,hw,hlo,hxl⟩:=hz
  have:lo=T.size:=by lia
  exact⟨a,p,g,by rw[this],rfl,by rw[<-this];exact hw⟩
 ·intro c st' hz;obtain⟨a,p,g,rfl,rfl,hw⟩:=hz
  have hl:=hw.ti.le;refine IS (Lk (Kr (I:=λx c st'=>c=(B,())/\∃a p g,st'=JJ κ a p g B/\Wait LT T a p T.size/\p.size+x<=T.size)
   (Q:=λc st'=>c=(B,())/\∃a p g,st'=JJ κ a p g B/\Wait LT T a p T.size/\p.size<=1) ?_ ?_ ⟨rfl,a,p,g,rfl,hw,by simp_all⟩) ?_)
  ·intro x c st' _ _ hz;obtain⟨rfl,a,p,g,rfl,hw,hx⟩:=hz
   refine IS (M5 ?_)
   by_cases c:p.size<=1
   ·rw[if_pos c];exact IV ⟨rfl,a,p,g,rfl,hw,c⟩
   ·rw[if_neg c]
    refine IS (hw.merge O H (IM _) ?_ λa2 p2 g2 hw2 hs _=>?_)
    ·have:∀b:Bool,(if b=V then p.size - 2 - 1 else p.size - 2)+1<p.size:=λb=>by cases b<;>simp<;>lia
     exact this _
    ·exact IV ⟨rfl,a2,p2,g2,rfl,hw2,by lia⟩
  ·intro c st' hz;obtain⟨rfl,a,p,g,rfl,hw,hx⟩:=hz
   exact⟨rfl,a,p,g,rfl,hw,by lia⟩
  ·intro c st' hz;obtain⟨rfl,a,p,g,rfl,hw,hx⟩:=hz
   refine IV (hQ a p g hw.pm ?_)
   have ti:=hw.ti;have up:=hw.up;have hx':p.toList.length<=1:=by simpa using hx
   rcases hp:p.toList with _|⟨q,_|⟨r,l⟩⟩
   ·rw[hp]at ti;simp only[Tile]at ti;lia
   ·rw[hp]at ti up
    obtain⟨t1,t2,t3⟩:=ti
    simp_all [Tile,t1,t3]
   simp_all
end
end SM
namespace L2
open PySem PySem.Spec PyProof.Rows PySem.W Md
section
variable{prog:J9}{w:KB}{A:Jj}{E:IA->IB->Prop}{s:IB}{vs:List IA}{a:IZ}
theorem AI {n:Nat}{P:PySem.Fin->IB->Prop}{κ:Mc}{LT:IA->IA->Bool}(ho:s.heap.get? a=U (seqObj "list" vs.toArray n)) (hz:vs.length<=sizeLine) (O:SM.OrdK λx y=>LT x.1 y.1)
  (hk:2<=vs.length->∀h',(∀b o,b≠a->s.heap.get? b=U o->h'.get? b=U o)->∀Q:Mc->IB->Prop,Q κ {s with heap:=h'}->wpAny (model prog w) A (keyKind' vs.toArray) Q (λ_ _=>False) {s with heap:=h'})
  (hlt:2<=vs.length->∀h',(∀b o,b≠a->s.heap.get? b=U o->h'.get? b=U o)->∀(u v:IA) (C:Bool->IB->Prop),u∈vs->v∈vs->C (LT u v) {s with heap:=h'}->wpAny (model prog w) A (keyLt' κ u v) C (λ_ _=>False) {s with heap:=h'})
  (h:∀us:List IA,us.Perm vs->us.Pairwise (λu v=>LT v u=Y)->∀h' c,(∀b o,b≠a->s.heap.get? b=U o->h'.get? b=U o)->h'.get? a=U (seqObj "list" us.toArray c)->P (.done (.ret .none)) {s with heap:=h'}):
  wpAny (model prog w) A (L5.«list.sort» ⟨[.ref a],[]⟩) P E s:=by
 rw[list_sort_plain];refine Ix (Mm ho rfl (Ix (LN ho rfl ?_ (by assumption) (Jf _))))
 obtain⟨e1,g1⟩:∃e1,(s.heap.update a (Jc λ_=>(#[]:Array IA))).get? a=U (seqObj "list" #[] e1):=⟨_,Mf ho λ_=>#[]⟩
 refine Ix (O5 g1 rfl (Ix (NX ?_ hz)))
 refine Ix (Nj ?_ (Jf _))
 refine Jg ?_
 have keep:∀b o,b≠a->s.heap.get? b=U o->(((s.heap.update a (Jc λ_=>(#[]:Array IA))).push (seqObj "tuple" vs.toArray 0)).push (seqObj "list" #[] 0)).get? b=U o:=λb o hb e=>
  Iz _ (Iz _ ((IP s.heap _ (Jb hb)).trans e))
 have g3:(((s.heap.update a (Jc λ_=>(#[]:Array IA))).push (seqObj "tuple" vs.toArray 0)).push (seqObj "list" #[] 0)).get? a=U (seqObj "list" #[] e1):=Iz _ (Iz _ g1)
 generalize hH:(((s.heap.update a (Jc λ_=>(#[]:Array IA))).push (seqObj "tuple" vs.toArray 0)).push (seqObj "list" #[] 0))=H1 at*
 dsimp only;have fin:∀st:JB,((arrOf st).map (·.2)).toList.Perm vs->((arrOf st).map (·.2)).toList.Pairwise (λu v=>LT v u=Y)->failedOf st=B->
   wpAny (model prog w) A (do
    let touched:=(<-seqEpoch a) != e1
    Builtin.List.listUpdate (.ref a) λ_=>(arrOf st).map (·.2)
    if let U e:=failedOf st then rule "list.sort.comparison-raised";throw e
    if touched then rule "list.sort.modified";raiseError "ValueError" "list modified during sort"
    ret .none) P E {s with heap:=H1}:=λst hp hs hf=>by
  rw[hf];refine Ix (O5 g3 rfl (Ix (LN g3 rfl ?_ (Jf _) ?_)))
  ·simp only[bne_self_eq_false,IT,if_false]
   obtain⟨c,g4⟩:∃c,(H1.update a (Jc λ_=>(arrOf st).map (·.2))).get? a=U (seqObj "list" ((arrOf st).map (·.2)) c):=⟨_,Mf g3 λ_=>(arrOf st).map (·.2)⟩
   exact Iy (h _ hp hs _ c (λb o hb e=>(IP H1 _ (Jb hb)).trans (keep b o hb e)) (by assumption))
  ·have:=hp.length_eq;rw[JY]at this;lia
 have zs:∀l:List IA,(l.toArray.zip l.toArray).map (·.2)=l.toArray:=λl=>by
  rw[show l.toArray.zip l.toArray=(l.zip l).toArray by simp];simp[List.map_snd_zip]
 by_cases h2:vs.toArray.size<2
 ·rw[if_pos h2,if_pos h2]
  refine Ix (Iy ?_)
  have e0:(arrOf (JJ general' (vs.toArray.zip vs.toArray) #[] 7 B)).map (·.2)=vs.toArray:=zs vs
  refine fin (JJ general' (vs.toArray.zip vs.toArray) #[] 7 B) (by rw[e0]) ?_ rfl
  rw[e0];clear fin hlt hk h ho keep hH g3 g1 e0
  rcases vs with _|⟨v,_|⟨v',r⟩⟩
  ·exact .nil
  ·exact Ph _ _
  ·exact absurd h2 (by simp)
 ·rw[if_neg h2,if_neg h2]
  rw[Jm]at h2;refine Ix (KP (hk (by lia) H1 keep _ ?_) (λ_ _ q=>q) λ_ _ x=>x.elim)
  have mz:∀x∈vs.toArray.zip vs.toArray,x.1=x.2/\x.1∈vs:=λx hx=>mem_zip_self (by simp_all)
  have sz:(vs.toArray.zip vs.toArray).size=vs.length:=by simp
  have run:=SM.sortRuns_wp (prog:=prog) (w:=w) (A:=A) (E:=E) (s:={s with heap:=H1}) (κ:=κ) (T:=vs.toArray.zip vs.toArray) (g:=7) (LT:=λx y=>LT x.1 y.1) O
   (λx hx y hy C hC=>hlt (by lia) H1 keep x.1 y.1 C (mz x hx).2 (mz y hy).2 hC) (by lia)
   (Q:=λ_ st=>((arrOf st).map (·.2)).toList.Perm vs/\((arrOf st).map (·.2)).toList.Pairwise (λu v=>LT v u=Y)/\failedOf st=B) (λb p g hp hu=>by
    have he:∀x∈b,x.1=x.2:=λx hx=>(mz x (hp.mem_iff.mp hx)).1
    refine⟨?_,?_,rfl⟩
    ·have:=(Array.perm_iff_toList_perm.mp hp).map (·.2)
     simp_all
    ·rw[Array.toList_map,N4]
     have bz:b.size=vs.length:=by rw[hp.size_eq,sz]
     rw[sz,<-bz]at hu;refine(SM.pw_up hu).imp_of_mem λ{x y} hx hy q=>?_
     rw[<-he x (by simp_all),<-he y (by simp_all)];exact q)
  refine Ix (KP run ?_ λ_ _ e=>e)
  rintro⟨⟨⟩,st'⟩ s' ⟨rfl,hp,hs,hf⟩
  exact fin st' hp hs hf
end
noncomputable def dN (lt:D->D->Option Bool):List D->List D->Option Bool
 |[],[]=>U Y
 |[],_::_=>U V
 |_::_,[]=>U Y
 |x::xs,y::ys=>if x=y then dN lt xs ys else lt x y
noncomputable def ltD:Nat->D->D->Option Bool
 |_,.int i,.int j=>U (decide (i<j))
 |_,.str x,.str y=>U (decide (x.cps.toList<y.cps.toList))
 |n+1,.tup xs,.tup ys=>dN (ltD n) xs ys
 |_,_,_=>B
theorem yF {x y:IX}(h:x.cps.toList=y.cps.toList):x=y:=by
 obtain⟨a⟩:=x;simp_all
section
variable{lt:D->D->Option Bool}
theorem xQ (h:∀x y z,lt x y=U V->lt y z=U V->lt x z=U V) (hi:∀x y,lt x y=U V->lt y x≠U V):∀xs ys zs,dN lt xs ys=U V->dN lt ys zs=U V->dN lt xs zs=U V
 |[],[],_,a,_=>by simp[dN]at a
 |[],_::_,[],_,b=>by assumption
 |[],_::_,_::_,_,_=>by rfl
 |_::_,[],_,a,_=>by simp[dN]at a
 |_::_,_::_,[],_,b=>by assumption
 |x::xs,y::ys,z::zs,a,b=>by
  simp only[dN]at a b⊢
  by_cases e1:x=y
  ·subst e1
   rw[if_pos rfl]at a
   by_cases e2:x=z
   ·subst e2
    rw[if_pos rfl]at b⊢;exact xQ h hi xs ys zs a b
   lia
  grind
theorem yj (hi:∀x y,lt x y=U V->lt y x≠U V):∀xs ys,dN lt xs ys=U V->dN lt ys xs≠U V
 |[],[],a=>by simp[dN]at a
 |[],_::_,_=>by simp[dN]
 |_::_,[],a=>by simp[dN]at a
 |x::xs,y::ys,a=>by
  simp only[dN]at a⊢
  by_cases e1:x=y
  ·subst e1
   rw[if_pos rfl]at a⊢;exact yj hi xs ys a
  ·rw[if_neg e1]at a
   rw[if_neg (Jb e1)];exact hi _ _ a
theorem ut (h:∀x y,lt x y=U Y->x=y\/lt y x=U V):∀xs ys,dN lt xs ys=U Y->xs=ys\/dN lt ys xs=U V
 |[],[],_=>.inl rfl
 |[],_::_,a=>by simp[dN]at a
 |_::_,[],_=>.inr (by rfl)
 |x::xs,y::ys,a=>by
  simp only[dN]at a⊢
  by_cases e1:x=y
  ·simp_all [if_pos,ut]
  grind
end
theorem pH:∀(n:Nat) (x y:D),ltD n x y=U V->ltD n y x≠U V:=by
 intro n
 induction n with
 |zero=>
  intro x y h;cases x<;>cases y<;>simp only[ltD,Jk,decide_eq_true_eq,reduceCtorEq]at h<;>simp only[ltD,ne_eq,Jk,decide_eq_true_eq]
  ·lia
  ·exact List.lt_asymm h
 |succ n ih=>
  intro x y h;cases x<;>cases y<;>simp only[ltD,Jk,decide_eq_true_eq,reduceCtorEq]at h<;>simp only[ltD,ne_eq,Jk,decide_eq_true_eq]
  ·lia
  ·exact List.lt_asymm h
  ·exact yj ih _ _ h
theorem Cb:∀(n:Nat) (x y z:D),ltD n x y=U V->ltD n y z=U V->ltD n x z=U V:=by
 intro n
 induction n with
 |zero=>
  intro x y z h h';cases x<;>cases y<;>simp only[ltD,Jk,decide_eq_true_eq,reduceCtorEq]at h<;>cases z<;>simp only[ltD,Jk,decide_eq_true_eq,reduceCtorEq]at h'<;>simp only[ltD,Jk,decide_eq_true_eq]
  ·lia
  ·exact List.lt_trans h h'
 |succ n ih=>
  intro x y z h h';cases x<;>cases y<;>simp only[ltD,Jk,decide_eq_true_eq,reduceCtorEq]at h<;>cases z<;>simp only[ltD,Jk,decide_eq_true_eq,reduceCtorEq]at h'<;>simp only[ltD,Jk,decide_eq_true_eq]
  ·lia
  ·exact List.lt_trans h h'
  ·exact xQ ih (pH n) _ _ _ h h'
theorem sG:∀(n:Nat) (x y:D),ltD n x y=U Y->x=y\/ltD n y x=U V:=by
 intro n
 induction n with
 |zero=>
  intro x y h;cases x<;>cases y<;>simp only[ltD,Jk,decide_eq_false_iff_not,reduceCtorEq]at h<;>simp only[ltD,Jk,decide_eq_true_eq,D.int.injEq,D.str.injEq]
  ·lia
  grind [yF,List.le_antisymm]
 |succ n ih=>
  intro x y h;cases x<;>cases y<;>simp only[ltD,Jk,decide_eq_false_iff_not,reduceCtorEq]at h<;>simp only[ltD,Jk,decide_eq_true_eq,D.int.injEq,D.str.injEq,D.tup.injEq,D.lst.injEq]
  ·lia
  ·grind [yF,List.le_antisymm]
  ·exact ut ih _ _ h
noncomputable def LtAt (A:Jj) (s:IB) (y x:IA) (b:Bool):Prop:=
 ∀(prog:J9) (w:KB) (E:IA->IB->Prop) (Q:IA->IB->Prop),Q (.bool b) s->wpAny (model prog w) A (richCompare .Lt y x) Q E s
inductive LexAt (A:Jj) (s:IB):List IA->List IA->Bool->Prop
 |none:LexAt A s [] [] Y
 |less {w:IA}{ws:List IA}:LexAt A s [] (w::ws) V
 |more {v:IA}{vs:List IA}:LexAt A s (v::vs) [] Y
 |eq {v w:IA}{vs ws:List IA}{b:Bool}:KW A s v w V->LexAt A s vs ws b->LexAt A s (v::vs) (w::ws) b
 |ne {v w:IA}{vs ws:List IA}{b:Bool}:KW A s v w Y->LtAt A s v w b->LexAt A s (v::vs) (w::ws) b
section
open PySem.SeqAt
open PySem.AutoSeq1 (wpAny_loadPart')
open PySem.MeetsSeq PySem.MeetsSeq2 PySem.MeetsSeq3
theorem wU (l b:IZ) (items items2:Array IA) (n n2:Nat) (dd dd2:Option IZ) (sl sl2:Array (Option IA)) (r:Bool):
  Meets (L5.«tuple.__lt__» ⟨[.ref l,.ref b],[]⟩)
   (λA R s=>s.heap.get? l=U {cls:=.type "tuple",dict:=dd,data:=.seq items n,slots:=sl}/\s.heap.get? b=U {cls:=.type "tuple",dict:=dd2,data:=.seq items2 n2,slots:=sl2}/\
    LexAt A.in1 s items.toList items2.toList r/\R (.ok (.ret (.bool r))) s):=
 .of_wp λprog w A R s h=>by
  obtain⟨hp,g,d,tk,os⟩:=s;obtain⟨hl,hb,hx,h⟩:=h;have f2:=OB
  wp_walk using Me hl,Me hb,K9 _ (λrest b s'=>b.1=B/\s'=⟨hp,g,d,tk,os⟩/\∃(vs ws:List IA),rest=vs.zip ws/\
   LexAt A.in1 ⟨hp,g,d,tk,os⟩ vs ws r/\vs.length+items2.size=ws.length+items.size) _
  case turn=>
   rintro⟨y,x⟩ rest b s' ⟨hb',rfl,vs,ws,hz,hlex,hlen⟩
   cases hlex with
   |none=>trivial
   |less=>trivial
   |more=>trivial
   |eq he ht=>
    injection hz with hyx hrest
    injection hyx with hy hx'
    subst hy hx';simp only[IU]at hlen;refine Ix (he prog w _ _ ?_)
    wp_walk
    exact⟨rfl,rfl,_,_,hrest,ht,by lia⟩
   |ne he hlt=>
    injection hz with hyx hrest
    injection hyx with hy hx'
    subst hy hx';refine Ix (he prog w _ _ ?_)
    have hri:=hlt prog w
    wp_walk using hri
    exact⟨_,rfl,by simpa using h⟩
  case fin=>
   rintro⟨b1,b2⟩ s' ⟨hb',rfl,vs,ws,hz,hlex,hlen⟩
   subst hb';have hv:r=decide (items.size<items2.size):=by
    cases hlex with
    |none=>simp only[JZ]at hlen;exact(decide_eq_false (by lia)).symm
    |less=>simp_all
    |more=>simp only[JZ,IU]at hlen;exact(decide_eq_false (by lia)).symm
    |eq _ _=>trivial
    |ne _ _=>trivial
   rw[hv]at h
   wp_walk
   exact⟨_,rfl,by assumption⟩
  case h=>exact⟨rfl,rfl,items.toList,items2.toList,rfl,hx,by simp;lia⟩
end
theorem LtAt.tuples {A:Jj}{s:IB}{l b:IZ}{items items2:Array IA}{r:Bool}(hl:s.heap.IsTuple l items) (hb:s.heap.IsTuple b items2) (hu:A.units<cLine) (hx:LexAt A.in1 s items.toList items2.toList r):LtAt A s (.ref l) (.ref b) r:=λprog w E Q h=>by
 obtain⟨⟨cls,dd,data,sl⟩,ho,hc,n,hd⟩:=id hl;obtain⟨⟨cls2,dd2,data2,sl2⟩,ho2,hc2,n2,hd2⟩:=id hb;subst hc hd hc2 hd2;exact richCompare_meets_room (op:=.Lt) ⟨_,ho,rfl⟩ ⟨_,ho2,rfl⟩ PySem.F.slot_tuple_lt PySem.F.entry_tuple_lt (PySem.F.args_tuple_lt_2 _ _) (wU l b items items2 n n2 dd dd2 sl sl2 r)
  ⟨ho,ho2,hx,show KA r≠PA/\Q (.bool r) s from⟨(λx=>nomatch x),h⟩⟩ hu
noncomputable def leD (x y:D):Prop:=ltD 15 y x≠U V
noncomputable def yH (x:D):List D->List D
 |[]=>[x]
 |y::ys=>if ltD 15 y x=U V then y::yH x ys else x::y::ys
noncomputable def cG (ds:List D):List D:=ds.foldr yH []
noncomputable def eE (ds:List D):Bool:=ds.all λx=>okD 15 x&&ds.all λy=>(ltD 15 x y).isSome
theorem gH {ds:List D}(h:eE ds=V) {x y:D}(hx:x∈ds) (hy:y∈ds):∃b,ltD 15 x y=U b:=by
 have h1:=List.all_eq_true.mp h x hx;rw[II]at h1;exact Option.isSome_iff_exists.mp (List.all_eq_true.mp h1.2 y hy)
theorem eM {ds:List D}(h:eE ds=V) {x:D}(hx:x∈ds):okD 15 x=V:=by
 unfold eE at h;have h1:=List.all_eq_true.mp h x hx;rw[II]at h1;exact h1.1
theorem kQ (x:D):∀l:List D,(yH x l).Perm (x::l)
 |[]=>Lg _
 |y::ys=>by
  unfold yH;split
  ·exact((kQ x ys).cons y).trans (Og x y ys)
  rfl
theorem ay:∀ds:List D,(cG ds).Perm ds
 |[]=>Lg _
 |d::ds=>by
  exact(kQ d _).trans ((ay ds).cons d)
theorem B1 {x y z:D}{ds:List D}(h:eE ds=V) (hx:x∈ds) (hy:y∈ds) (hz:z∈ds) (a:leD x y) (b:leD y z):leD x z:=by
 intro c;obtain⟨r1,e1⟩:=gH h hy hx;obtain⟨r2,e2⟩:=gH h hz hy;cases r1 with
 |true=>exact a e1
 |false=>
  cases r2 with
  |true=>exact b e2
  |false=>
   rcases sG 15 _ _ e1 with q1|q1
   ·lia
   ·rcases sG 15 _ _ e2 with q2|q2
    ·lia
    ·exact pH 15 _ _ (Cb 15 _ _ _ q1 q2) c
theorem Gy {x y:D}{ds:List D}(h:eE ds=V) (hx:x∈ds) (hy:y∈ds) (a:leD x y) (b:leD y x):x=y:=by
 obtain⟨r1,e1⟩:=gH h hx hy;cases r1 with
 |true=>trivial
 |false=>
  rcases sG 15 _ _ e1 with q|q
  ·exact q
  trivial
set_option tactic.hygienic true in
theorem lL {x:D}{ds:List D}(h:eE ds=V) (hx:x∈ds):∀l:List D,(∀y∈l,y∈ds)->l.Pairwise leD->(yH x l).Pairwise leD
 |[],_,_=>by simp[yH]
 |y::ys,hm,hp=>by
  unfold yH;obtain⟨h1,h2⟩:=List.pairwise_cons.mp hp;have hy:=hm y IN;split
  ·rename_i c
   refine List.pairwise_cons.mpr ⟨λz hz=>?_,lL h hx ys (λz hz=>hm z (IK _ hz)) h2⟩
   rcases List.mem_cons.mp ((kQ x ys).mem_iff.mp hz)with q|q
   ·subst q;exact pH 15 _ _ c
   simp_all
  ·rename_i c
   refine List.pairwise_cons.mpr ⟨λz hz=>?_,hp⟩
   rcases List.mem_cons.mp hz with q|q
   ·subst q;exact c
   ·exact B1 h hx hy (hm z hz) c (h1 z q)
theorem bU {ds:List D}(h:eE ds=V):(cG ds).Pairwise leD:=by
 have key:∀l:List D,(∀y∈l,y∈ds)->(cG l).Pairwise leD:=by
  intro l
  induction l with
  |nil=>intro _;exact Nq
  |cons y l ih=>
   exact λhm=>lL h (hm y IN) _ (λz hz=>hm z (IK _ ((ay l).mem_iff.mp hz))) (ih λz hz=>hm z (IK _ hz))
 exact key ds λ_ h=>h
theorem fP {ds:List D}(h:eE ds=V):∀(l1 l2:List D),(∀y∈l1,y∈ds)->l1.Perm l2->l1.Pairwise leD->l2.Pairwise leD->l1=l2
 |[],l2,_,hp,_,_=>(List.nil_perm.mp hp).symm
 |a::l1,[],_,hp,_,_=>(List.perm_nil.mp hp)
 |a::l1,b::l2,hm,hp,h1,h2=>by
  obtain⟨p1,q1⟩:=List.pairwise_cons.mp h1;obtain⟨p2,q2⟩:=List.pairwise_cons.mp h2;have hm2:=λy hy=>hm y (hp.mem_iff.mpr hy)
  have ab:a=b:=by
   have ha:a∈b::l2:=hp.mem_iff.mp IN;have hb:b∈a::l1:=hp.mem_iff.mpr IN
   rcases List.mem_cons.mp ha with z|z
   ·exact z
   ·rcases List.mem_cons.mp hb with y|y
    ·exact y.symm
    ·exact Gy h (hm a IN) (hm2 b IN) (p1 b y) (p2 a z)
  subst ab;rw[fP h l1 l2 (λy hy=>hm y (IK _ hy)) (List.perm_cons a |>.mp hp) q1 q2]
inductive KD|st|it|ts|tt
noncomputable def iR:KD->D->Bool
 |.st,.str _=>V
 |.it,.int _=>V
 |.ts,.tup (.str _::_)=>V
 |.tt,.tup (.tup _::_)=>V
 |_,_=>Y
theorem tG {d:D}(h:iR .ts d=V):∃x ds,d=.tup (.str x::ds):=by
 unfold iR at h;split at h<;>simp_all
theorem sE {d:D}(h:iR .tt d=V):∃x ds,d=.tup (.tup x::ds):=by
 unfold iR at h;split at h<;>simp_all
noncomputable def C6:KD->Mc
 |.st=>oneType'
 |.it=>oneType'
 |.ts=>tuples' V
 |.tt=>tuples' Y
section
variable{prog:J9}{w:KB}{A:Jj}{E:IA->IB->Prop}{s:IB}
theorem mV {b:Bool}{Q:Bool->IB->Prop}{fin:Bool}{r:Bool}:∀{vs ws:List IA}{i:Nat},LexAt A s vs ws r->(b=Y\/1<=i)->(fin=decide (vs.length<ws.length))->Q r s->KatLex prog w A b fin Q (vs.zip ws) i s:=by
 intro vs ws i h
 induction h generalizing i with
 |none=>
  intro hb hf q;subst hf
  assumption
 |less=>
  intro hb hf q;subst hf
  assumption
 |more=>
  intro hb hf q;subst hf
  assumption
 |eq he ht ih=>
  intro hb hf q;refine kat_cons (he prog w _ _ (kat_yes ?_))
  exact ih (.inr (by lia)) (by rw[hf];simp) q
 |ne he hl=>
  intro hb hf q;refine kat_cons (he prog w _ _ (kat_no ?_))
  have hz:(b&&i==0)=Y:=by
   rcases hb with z|z
   ·rw[z,Bool.false_and]
   ·lia
  rw[hz];exact kat_one _ _ (hl prog w _ _ q)
end
theorem HT {ds:List D}(h:eE ds=V) {f:IA->D}(hf:ds≠[]->∀u,f u∈ds) (h0:ds=[]->∀u,f u=.non):SM.OrdK λx y=>decide (ltD 15 (f x.1) (f y.1)=U V):=by
 by_cases hn:ds=[]
 ·have e:=h0 hn
  exact⟨λi j q=>by simp[e,ltD],λi j k _ _=>by simp[e,ltD]⟩
 ·exact⟨λi j q=>decide_eq_false (pH 15 _ _ (of_decide_eq_true q)),λi j k a b=>decide_eq_false (B1 h (hf hn _) (hf hn _) (hf hn _) (of_decide_eq_false a) (of_decide_eq_false b))⟩
variable[Md]
section
variable{M:Mp}{s:IB}{m m':Bool}
theorem Ee (H:Hm M s.heap) {n:Nat}{A:Jj}(hA:A.units+n+1<cLine) (ih:∀{d e u v r},okD n d=V->okD n e=V->R m M d u->R m' M e v->ltD n d e=U r->LtAt A s u v r):
  ∀{ds es us vs r},ds.all (okD n)=V->es.all (okD n)=V->Rs m M ds us->Rs m' M es vs->dN (ltD n) ds es=U r->LexAt A s us vs r
 |[],[],us,vs,r,hd,he,r1,r2,h=>by cases r1;cases r2;cases h;exact .none
 |[],e::es,us,vs,r,hd,he,r1,r2,h=>by cases r1;obtain⟨y,t,rfl,_,_⟩:=r2;cases h;exact .less
 |d::ds,[],us,vs,r,hd,he,r1,r2,h=>by cases r2;obtain⟨y,t,rfl,_,_⟩:=r1;cases h;exact .more
 |d::ds,e::es,us,vs,r,hd,he,r1,r2,h=>by
  obtain⟨x,xt,rfl,r1a,r1b⟩:=r1;obtain⟨y,yt,rfl,r2a,r2b⟩:=r2;rw[JC,II]at hd he;have q:=(zV H n A hd.1 he.1 hA r1a r2a).2.1;simp only[dN]at h
  by_cases c:d=e
  ·rw[if_pos c]at h;rw[decide_eq_true c]at q;exact .eq q (Ee H hA ih hd.2 he.2 r1b r2b h)
  ·rw[if_neg c]at h;rw[decide_eq_false c]at q;exact .ne q (ih hd.1 he.1 r1a r2a h)
theorem F5 (h:ltD n d e=U r):(∃i j,d=.int i/\e=.int j/\r=decide (i<j))\/(∃x y,d=.str x/\e=.str y/\r=decide (x.cps.toList<y.cps.toList))\/∃k xs ys,n=k+1/\d=.tup xs/\e=.tup ys/\dN (ltD k) xs ys=U r:=by
 cases d<;>cases e<;>cases n<;>simp only[ltD,reduceCtorEq]at h
 ·cases h;exact .inl ⟨_,_,rfl,rfl,rfl⟩
 ·cases h;exact .inl ⟨_,_,rfl,rfl,rfl⟩
 ·cases h;exact .inr (.inl ⟨_,_,rfl,rfl,rfl⟩)
 ·cases h;exact .inr (.inl ⟨_,_,rfl,rfl,rfl⟩)
 ·exact .inr (.inr ⟨_,_,_,rfl,rfl,rfl,h⟩)
theorem Il (H:Hm M s.heap):∀(n:Nat) {d e u v r} (A:Jj),okD n d=V->okD n e=V->A.units+n+1<cLine->R m M d u->R m' M e v->ltD n d e=U r->LtAt A s u v r:=by
 intro n
 induction n using KN with
 |ind n ih=>
 intro d e u v r A hd he hA rd re h
 rcases F5 h with⟨i,j,rfl,rfl,rfl⟩|⟨i,j,rfl,rfl,rfl⟩|⟨k,ds,es,rfl,rfl,rfl,h⟩
 ·obtain⟨t,rfl⟩:=rd;obtain⟨t',rfl⟩:=re
  exact λprog w E Q hq=>(lt_int hq:wpAny (model prog w) A (compareOp .Lt (.int i t) (.int j t')) Q E s)
 ·obtain⟨t,rfl⟩:=rd;obtain⟨t',rfl⟩:=re
  exact λprog w E Q hq=>(lt_str hq:wpAny (model prog w) A (compareOp .Lt (.str i t) (.str j t')) Q E s)
 ·obtain⟨a,o,us,rfl,q1,t1,r1⟩:=rd
  obtain⟨b,o',vs,rfl,q2,t2,r2⟩:=re;have hA':A.in1.units+k+1<cLine:=by show A.units+1+k+1<cLine;lia
  exact LtAt.tuples (t1.is H q1) (t2.is H q2) (by lia) (by simpa using Ee H hA' (λo1 o2 r1 r2 hl=>ih k (Kj k) A.in1 o1 o2 hA' r1 r2 hl) hd he r1 r2 h)
theorem FI (H:Hm M s.heap) {A:Jj}(hA:A.units+20<cLine) {c:KD}{d e:D}{u v:IA}{r:Bool}(hd:okD 15 d=V) (he:okD 15 e=V) (kd:iR c d=V) (ke:iR c e=V) (rd:R m M d u) (re:R m' M e v)
  (h:ltD 15 d e=U r) {C:Bool->IB->Prop}(q:C r s):wpAny (model P w) A (keyLt' (C6 c) u v) C (λ_ _=>False) s:=by
 have ll:∀{ds es us vs r},ds.all (okD 14)=V->es.all (okD 14)=V->Rs m M ds us->Rs m' M es vs->dN (ltD 14) ds es=U r->LexAt A s us vs r:=λh1 h2 h3 h4 h5=>Ee H (by lia) (λo1 o2 r1 r2 hl=>Il H 14 A o1 o2 (by lia) r1 r2 hl) h1 h2 h3 h4 h5
 cases c with
 |st=>
  cases d<;>simp only[iR,IT]at kd
  cases e<;>simp only[iR,IT]at ke
  obtain⟨t,rfl⟩:=rd;obtain⟨t',rfl⟩:=re;simp only[ltD,Jk]at h;subst h;exact oneLt_str q
 |it=>
  cases d<;>simp only[iR,IT]at kd
  cases e<;>simp only[iR,IT]at ke
  obtain⟨t,rfl⟩:=rd;obtain⟨t',rfl⟩:=re;simp only[ltD,Jk]at h;subst h;exact oneLt_int q
 |ts=>
  obtain⟨i,ds,rfl⟩:=tG kd;obtain⟨j,es,rfl⟩:=tG ke;obtain⟨a,o,us,rfl,q1,t1,r1⟩:=rd;obtain⟨b,o',vs,rfl,q2,t2,r2⟩:=re;obtain⟨_,g1,c1,n1,d1⟩:=t1.is H q1;obtain⟨_,g2,c2,n2,d2⟩:=t2.is H q2;refine kat_lt g1 d1 g2 d2 ?_
  obtain⟨x,xt,rfl,⟨t,rfl⟩,r1b⟩:=r1;obtain⟨y,yt,rfl,⟨t',rfl⟩,r2b⟩:=r2;simp only[okD,JC,II]at hd he;simp only[ltD,dN,D.str.injEq]at h;have q1:=O6 (A:=A) (s:=s) i t j t'
  by_cases cij:i=j
  ·subst cij
   rw[if_pos rfl]at h;rw[beq_self_eq_true]at q1;exact kat_cons (q1 _ _ _ _ (kat_yes (mV (ll hd.2 he.2 r1b r2b h) (.inr (IM _)) (by simp) q)))
  ·rw[if_neg cij]at h
   have eb:(i==j)=Y:=by simpa using cij
   rw[eb]at q1;refine kat_cons (q1 _ _ _ _ (kat_no ?_))
   simp only[Jk]at h;subst h;exact oneLt_str q
 |tt=>
  obtain⟨i,ds,rfl⟩:=sE kd;obtain⟨j,es,rfl⟩:=sE ke;obtain⟨a,o,us,rfl,q1,t1,r1⟩:=rd;obtain⟨b,o',vs,rfl,q2,t2,r2⟩:=re;obtain⟨_,g1,c1,n1,d1⟩:=t1.is H q1;obtain⟨_,g2,c2,n2,d2⟩:=t2.is H q2;refine kat_lt g1 d1 g2 d2 ?_
  exact mV (ll (by simpa only[okD]using hd) (by simpa only[okD]using he) r1 r2 h) (.inl rfl) (by simp) q
theorem xH (H:Hm M s.heap) {T:IA->Prop}(hT:∀{d:D},iR c d=V->∃z es,d=.tup (z::es)/\∀v,R m M z v->T v):∀{ds:List D}{us},ds.all (iR c)=V->Rs m M ds us->∃fs,KatTups s.heap us fs/\fs.length=us.length/\∀f∈fs,T f
 |[],us,_,r=>by cases r;exact⟨[],.nil,rfl,λ_ h=>nomatch h⟩
 |d::ds,us,hk,r=>by
  obtain⟨x,xt,rfl,ra,rb⟩:=r;rw[JC,II]at hk;obtain⟨fs,f1,f2,f3⟩:=xH H hT hk.2 rb;obtain⟨z,es,rfl,hz⟩:=hT hk.1;obtain⟨a,o,vs,rfl,q,t,rs⟩:=ra;obtain⟨_,g1,c1,n1,d1⟩:=t.is H q;obtain⟨y,yt,rfl,ry,_⟩:=rs;exact⟨y::fs,.cons g1 c1 d1 (by simp) f1,by simp[f2],λf hf=>by
   rcases List.mem_cons.mp hf with q|q
   ·rw[q];exact hz y ry
   ·exact f3 f q⟩
theorem AW (H:Hm M s.heap) {A:Jj}{c:KD}{ds:List D}{us:List IA}(h2:2<=us.length) (hk:ds.all (iR c)=V) (r:Rs m M ds us) {Q:Mc->IB->Prop}(q:Q (C6 c) s):
  wpAny (model P w) A (keyKind' us.toArray) Q (λ_ _=>False) s:=by
 have each:∀u∈us,∃d,iR c d=V/\R m M d u:=λu hu=>by
  obtain⟨d,h1,h2⟩:=r.mem hu;exact⟨d,List.all_eq_true.mp hk d h1,h2⟩
 cases c with
 |st=>
  refine kas_kind (T:=.type "str") h2 (λu hu=>?_) (by decide) (by decide) q
  obtain⟨d,k1,rd⟩:=each u hu;cases d<;>simp only[iR,IT]at k1
  obtain⟨t,rfl⟩:=rd;exact .now
 |it=>
  refine kas_kind (T:=.type "int") h2 (λu hu=>?_) (by decide) (by decide) q
  obtain⟨d,k1,rd⟩:=each u hu;cases d<;>simp only[iR,IT]at k1
  obtain⟨t,rfl⟩:=rd;exact .now
 |ts=>
  obtain⟨fs,f1,f2,f3⟩:=xH (c:=.ts) (T:=λv=>∃z t,v=.str z t) H (λh=>by obtain⟨x,ds,rfl⟩:=tG h;exact⟨_,_,rfl,λv ⟨t,e⟩=>⟨x,t,e⟩⟩) hk r
  refine kat_kind (T:=.type "str") f1 (by lia) (λf hf=>?_) (by decide) q
  obtain⟨z,t,rfl⟩:=f3 f hf;exact .now
 |tt=>
  obtain⟨fs,f1,f2,f3⟩:=xH (c:=.tt) (T:=λv=>∃b o,v=.ref b/\s.heap.get? b=U o/\o.cls=.type "tuple") H (λh=>by obtain⟨x,ds,rfl⟩:=sE h;exact⟨_,_,rfl,λv ⟨b,o,vs,e,q,t,_⟩=>⟨b,o,e,q.heap H,t.2.1⟩⟩) hk r
  refine kat_kind (T:=.type "tuple") f1 (by lia) (λf hf=>?_) (by decide) q
  obtain⟨b,o,rfl,g,hc⟩:=f3 f hf;rw[<-hc];exact(Looks.ld g).andThen .now
set_option tactic.hygienic true in
open Classical in
theorem Gl {ds:List D}{us:List IA}(r:Rs m M ds us) (hc:eE ds=V):∃f:IA->D,(ds≠[]->∀u,f u∈ds)/\(ds=[]->∀u,f u=.non)/\us.map f=ds/\∀u∈us,R m M (f u) u:=by
 have val:∀d u,d∈ds->R m M d u->(if h:∃d,d∈ds/\R m M d u then h.choose else ds.headD .non)=d:=λd u hd hr=>by
  have h:∃d,d∈ds/\R m M d u:=⟨d,hd,hr⟩;rw[dif_pos h];exact R.inj (eM hc h.choose_spec.1) (eM hc hd) h.choose_spec.2 hr
 refine⟨λu=>if h:∃d,d∈ds/\R m M d u then h.choose else ds.headD .non,λhn u=>?_,λhn u=>?_,?_,λu hu=>?_⟩
 ·dsimp only
  split
  ·rename_i h;exact h.choose_spec.1
  ·cases ds with
   |nil=>exact absurd rfl hn
   |cons d ds=>exact .head _
 ·subst hn;simp
 ·refine LK λi=>?_
  rw[Ja]
  cases e:ds[i]? with
  |none=>have:=r.length;rw[List.getElem?_eq_none_iff]at e;rw[LG (by lia)];rfl
  |some d=>obtain⟨u,h1,h2⟩:=r.get e;rw[h1,Option.map_some,val d u (Jq e) h2]
 ·obtain⟨d,h1,h2⟩:=r.mem hu
  dsimp only;rw[val d u h1 h2];exact h2
theorem Fw {f:IA->D}:∀{us:List IA},(∀u∈us,R m M (f u) u)->Rs m M (us.map f) us
 |[],_=>rfl
 |u::us,h=>⟨u,us,rfl,h u (.head _),Fw λu hu=>h u (.tail _ hu)⟩
end
noncomputable def eB (c:KD) (x:Option D):Option D:=match x with|some (.lst ds)=>if(eE ds&&(decide (ds.length<2)||ds.all (iR c)))=V then U (.lst (cG ds)) else B|_=>B
theorem fQ {c:KD}{ds:List D}(h2:eE ds=V) (h3:ds.length<2\/ds.all (iR c)=V):eB c (U (.lst ds))=U (.lst (cG ds)):=by
 unfold eB
 lia
set_option tactic.hygienic true in
theorem m9 (h:eB c x=U d):∃ds,x=U (.lst ds)/\eE ds=V/\(decide (ds.length<2)||ds.all (iR c))=V/\d=.lst (cG ds):=by
 unfold eB at h;split at h<;>try cases h
 split at h<;>cases h
 rename_i z;rw[II]at z;exact⟨_,rfl,z.1,z.2,rfl⟩
section
variable{X:Cx}{M:Mp}{δ:DEnv}{s:IB}{a b:Expr}{fa fb:DEnv->Option D}{m m':Bool}{p p2 pos pos2:Ov}{t u:Bool}{Q:IA->IB->Prop}
theorem dv {c:KD}{ds:List D}{us:List IA}(I:Inv X M δ s) (r:Rs Y M ds us) (hz:us.length<=sizeLine) (hc:eE ds=V) (hk:(decide (ds.length<2)||ds.all (iR c))=V) (q:PostF X M δ (.lst (cG ds)) Q):
  wpAny (model P w) X.A.in1 (do
   let l <-newList us
   let _ <-holding [l] (call (.builtin "list.sort") [l] [])
   ret l) (λfin s'=>∃w,fin=.done (.ret w)/\Q w s') (λ_ _=>False) s:=by
 obtain⟨f,f1,f0,f2,f3⟩:=Gl r hc;have hl:=r.length;have un:=I.un;have hk':2<=us.length->ds.all (iR c)=V:=λh=>by
  rw[Oz,decide_eq_true_iff]at hk
  rcases hk with z|z
  ·lia
  ·exact z
 refine Ix (Nj ?_ hz)
 have g0:(s.heap.push (seqObj "list" us.toArray 0)).get? s.heap.objs.size=U (seqObj "list" us.toArray 0):=IF _ rfl
 have k2:∀b o,s.heap.get? b=U o->b≠s.heap.objs.size/\(s.heap.push (seqObj "list" us.toArray 0)).get? b=U o:=λb o e=>⟨Ji (IJ e),Iz _ e⟩
 refine Ix (Jg (Jx slot_list_sort ⟨_,g0,rfl⟩ entry_list_sort ?_ (args_list_sort _)))
 have hA:X.A.in1.in1.units+20<cLine:=by show X.A.units+1+1+20<cLine;lia
 refine AI (s:={s with heap:=s.heap.push (seqObj "list" us.toArray 0)}) (vs:=us) (κ:=C6 c) (LT:=λu v=>decide (ltD 15 (f u) (f v)=U V)) g0 hz (HT hc f1 f0) (λh2 h' kp Q' q'=>?_) (λh2 h' kp u u' C hu hu' hC=>?_) (λus' hp hs h' cc kp g=>?_)
 ·have I1:Inv X M δ {s with heap:=h'}:=I.kp λb o e=>kp b o (k2 b o e).1 (k2 b o e).2
  exact AW I1.heap h2 (hk' h2) r q'
 ·have I1:Inv X M δ {s with heap:=h'}:=I.kp λb o e=>kp b o (k2 b o e).1 (k2 b o e).2
  have m1:f u∈ds:=by rw[<-f2];exact K1 hu
  have m2:f u'∈ds:=by rw[<-f2];exact K1 hu'
  obtain⟨rr,er⟩:=gH hc m1 m2;refine FI I1.heap hA (eM hc m1) (eM hc m2) (List.all_eq_true.mp (hk' h2) _ m1) (List.all_eq_true.mp (hk' h2) _ m2) (f3 u hu) (f3 u' hu') er ?_
  rw[er]at hC;simpa using hC
 ·have es:us'.map f=cG ds:=by
   have perm:(us'.map f).Perm ds:=by rw[<-f2];exact hp.map f
   refine fP hc _ _ (λy hy=>perm.mem_iff.mp hy) (perm.trans (ay ds).symm) ?_ (bU hc)
   rw[N4];exact hs.imp λq=>of_decide_eq_false q
  have rz:=Fw (us:=us') λu hu=>f3 u (hp.mem_iff.mp hu)
  rw[es]at rz;exact⟨_,rfl,Iy ⟨_,rfl,q _ _ {s with heap:=h'} M Ext.refl (I.kp λb o e=>kp b o (k2 b o e).1 (k2 b o e).2) (I.fresh (IM _)) g ⟨us',⟨by rw[hp.length_eq];exact hz,cc,rfl⟩,rz⟩⟩⟩
theorem fx:bootBuiltins "sorted"=U (.builtin "sorted"):=by rfl
theorem xj {c:KD}(g:Bn X "sorted") (ha:DE X Y a fa):DF X (.Call (.Name "sorted" p) [a] [] pos) (λδ=>eB c (fa δ)):=⟨rfl,λI e k=>by
 obtain⟨ds,e1,h1,h2,rfl⟩:=m9 e;refine gG g fx ha I e1 λv s1 M1 x1 I1 r=>?_
 obtain⟨l,o,vs,rfl,q,t,rs⟩:=r;have z:=t.1;refine LW NY NF NG (OI _) ?_
 refine Ix (m:=checkCount "sorted" 1 1 _) (Iy (Ix (collect_list (t.is I1.heap q) ?_ (by lia))))
 refine dv (I1.kp λb o e=>?_) rs (by simpa using z) h1 h2 (PostF.to k x1)
 exact(IP _ _ (Lx (IJ e))).trans (Iz _ e)⟩
end
end L2
namespace L2
open PySem PySem.Spec PyProof.Rows Md
section
variable{prog:J9}{w:KB}{A:Jj}{E:IA->IB->Prop}{s:IB}
theorem nS {R:NI->IB->Prop}(hh:A.handled=B) {t u:Bool}{z P O c d p q:IZ}{xs ys:Array IA}(ap:Ap z P O c d p q) (hn:min xs.size ys.size<=sizeLine) {lo:IZ}(bl:∀b∈[z,P,O,c,d],lo<=b) (hlo:lo<=s.heap.objs.size)
  (Z:Zp t u s.heap z P O c d p q 0 .none) (hp:SqAt t s.heap p xs) (hq:SqAt u s.heap q ys)
  (hR:∀(h':Kl) (tk:Nat) (acc':Array IA) (c':Nat),(∀b o,b∉[z,P,O,c,d]->s.heap.get? b=U o->h'.get? b=U o)->h'.get? s.heap.objs.size=U {cls:=.type "list",dict:=B,data:=.seq acc' c',slots:=#[]}->acc'.size=min xs.size ys.size->Made h' lo xs ys 0 acc'.toList->R (.ok (.ret (.ref s.heap.objs.size))) {s with heap:=h',toks:=tk}):
  codeAny (model prog w) A (.builtin "proto.collect" ⟨[.ref z],[]⟩) R s:=by
 refine Jt F.entry_proto_collect ?_
 refine Ix (JQ ?_)
 refine Iy ⟨JT F.plain_list_iadd _,Jt F.entry_list_iadd ?_⟩
 have g0:(s.heap.push {cls:=.type "list",data:=.seq ([]:List IA).toArray}).get? s.heap.objs.size=U {cls:=.type "list",data:=.seq #[]}:=IF _ rfl
 have up:∀b ob,s.heap.get? b=U ob->(s.heap.push {cls:=.type "list",data:=.seq ([]:List IA).toArray}).get? b=U ob:=λb ob e=>Iz _ e
 have lts:∀b∈[z,P,O,c,d],b<s.heap.objs.size:=λb hb=>by
  obtain⟨zz,pp,⟨a,b',oo⟩,cc,dd⟩:=Z;simp only[Jo,JE,or_false]at hb
  rcases hb with rfl|rfl|rfl|rfl|rfl
  ·exact IJ zz
  ·exact IJ pp
  ·exact IJ oo
  ·obtain⟨o,e,_⟩:=cc.obj;exact IJ e
  ·obtain⟨o,e,_⟩:=dd.obj;exact IJ e
 have lp:p<s.heap.objs.size:=by cases t<;>(obtain⟨o,e,_⟩:=hp;exact IJ e)
 have lq:q<s.heap.objs.size:=by cases u<;>(obtain⟨o,e,_⟩:=hq;exact IJ e)
 obtain⟨zz,pp,⟨a,b',oo⟩,cc,dd⟩:=Z;refine mY (A:=A) (s:={s with heap:=s.heap.push {cls:=.type "list",data:=.seq ([]:List IA).toArray}}) hh ap (λhm=>JV _ (lts _ hm)) (Ji lp) (Ji lq) hn bl hlo (.ref s.heap.objs.size) ⟨up _ _ zz,up _ _ pp,⟨a,b',up _ _ oo⟩,cc.to λo e=>up _ o e,dd.to λo e=>up _ o e⟩ (hp.to λo e=>up _ o e) (hq.to λo e=>up _ o e) ?_ g0 λs' acc' e' k1 k2 k3 k4 k5=>?_
 ·simp;lia
 ·obtain⟨h',tk,rfl⟩:=k5
  exact hR h' tk acc' e' (λb ob hb e=>k1 b ob (λhm=>(List.mem_cons.mp hm).elim (λz=>Ji (IJ e) z) hb) (up b ob e)) k2 k3 k4
theorem Bk {Q:List IA->IB->Prop}(hh:A.handled=B) {t u:Bool}{z P O c d p q:IZ}{xs ys:Array IA}(ap:Ap z P O c d p q) (hn:min xs.size ys.size<=sizeLine) {lo:IZ}(bl:∀b∈[z,P,O,c,d],lo<=b) (hlo:lo<=s.heap.objs.size)
  (Z:Zp t u s.heap z P O c d p q 0 .none) (hp:SqAt t s.heap p xs) (hq:SqAt u s.heap q ys)
  (hQ:∀(h':Kl) (tk:Nat) (acc':Array IA),(∀b o,b∉[z,P,O,c,d]->s.heap.get? b=U o->h'.get? b=U o)->s.heap.objs.size<=h'.objs.size->acc'.size=min xs.size ys.size->Made h' lo xs ys 0 acc'.toList->Q acc'.toList {s with heap:=h',toks:=tk}):
  wpAny (model prog w) A (collect (.ref z)) Q E s:=by
 refine Ix (NW (nS hh ap hn bl hlo Z hp hq λh' tk acc c' kp hS h3 h4=>?_))
 exact Ix (NE hS (Iy (hQ h' tk acc kp (Np (IJ hS)) h3 h4)))
theorem sJ {l:IZ}{vs:List IA}{Q:List IA->IB->Prop}(hl:s.heap.IsTuple l vs.toArray)
  (h:Q vs {s with heap:=(s.heap.push (seqObj "list" #[] 0)).update s.heap.objs.size (Jc (· ++vs.toArray))}) (hsz:vs.length<=sizeLine):
  wpAny (model prog w) A (collect (.ref l)) Q E s:=by
 obtain⟨o,ho,hc,n,hd⟩:=id hl;refine Ix (NW (Jt entry_proto_collect' ?_))
 refine Ix (Nj (Iy ⟨Code.quiet_builtin _ (by decide +kernel),Jt entry_list_iadd' ?_⟩))
 show wpAny _ _ (Lr (.ref s.heap.objs.size) (.ref l) (.ref s.heap.objs.size)) _ _ {s with heap:=s.heap.push (seqObj "list" #[] 0)}
 have ho':(s.heap.push (seqObj "list" #[] 0)).get? l=U o:=Iz _ ho
 refine Ix (LH (T:="tuple") ⟨o,ho',hc⟩ ?_)
 have ht:(Ki "tuple"==Ki "tuple")=V:=by rfl
 rw[if_pos (by rw[ht];simp)]
 refine Ix (Mm ho' hd ?_)
 refine Ix (Mm (xs:=#[]) (n:=0) (IF _ rfl) rfl ?_)
 refine Ix (LN (xs:=#[]) (n:=0) (IF _ rfl) rfl ?_ (Jf _) (by simp;lia))
 refine Iy ?_
 refine Ix (NE (Mf (IF _ rfl) _) ?_)
 grind [Iy]
end
noncomputable def v8:List D->Option (List Int)
 |[]=>U []
 |.int i::ds=>(match v8 ds with|some l=>U (i::l)|none=>B)
 |_=>B
set_option tactic.hygienic true in
theorem m8:∀{ds} {ns:List Int},v8 ds=U ns->ds=ns.map D.int
 |[],ns,h=>by cases h;rfl
 |d::ds,ns,h=>by
  cases d<;>simp only[v8]at h<;>try cases h
  split at h<;>cases h
  rename_i q;rw[m8 q];rfl
section
variable{prog:J9}{w:KB}{A:Jj}{R:NI->IB->Prop}{I:IZ}{fp wr:List IZ}{n:Nat}{P:Nat->IA->Prop}{St:Nat->Kl->Prop}{kw:List (IX×IA)}
theorem Ai (W:OJ prog w A.in1 I fp wr n P St) (bt:Nat->Nat->Bool) (hcmp:CmpOf prog w A.in1 .Gt P bt) (S:IZ) (hSf:S∉fp):
  ∀(k j:Nat) (s:IB) (vb:IA) (c:Nat),n - (j+1)=k->j+1<=n->St (j+1) s.heap->P (argBest bt j) vb->
  s.heap.get? S=U {cls:=.type "list",dict:=B,data:=.seq #[vb,vb] c,slots:=#[]}->
  (∀v h' tk,P (argBest bt (n - 1)) v->(∀b o,b∉wr->b≠S->s.heap.get? b=U o->h'.get? b=U o)->R (.ok (.ret v)) {s with heap:=h',toks:=tk})->
  codeAny (model prog w) A (.builtin "max.loop" ⟨[.ref I,.none,.ref S],kw⟩) R s:=by
 have hSw:=λh=>hSf (W.sub _ h)
 have hname:(toString "max"++toString ".loop":String)="max.loop":=by decide
 intro k
 induction k with
 |zero=>
  intro j s vb c hk hj hst hPb hS hR;have hin:j+1=n:=by lia
  refine Jt MX ?_
  refine Ix (JI hS rfl ?_)
  refine Ix (KY (W.done s _ _ (hin▸hst) λh' tk hk'=>?_))
  have hS':=hk' S _ hSw hS;refine Ix ?_
  refine J4 hS' rfl (Ix (K0 (Iy ?_)))
  refine hR vb _ tk (by rw[<-hin];exact hPb) λb o hbw hbS e=>(IP _ _ (Jb hbS)).trans (hk' b o hbw e)
 |succ k ih=>
  intro j s vb c hk hj hst hPb hS hR;have hlt:j+1<n:=by lia
  refine Jt MX ?_
  refine Ix (JI hS rfl ?_)
  refine Ix (KY (W.item (j+1) s _ _ hlt hst λv h' tk hP hst' hk'=>?_))
  have hS':=hk' S _ hSw hS;show wpAny _ A.in1 (tryCatch (holding [v,v] (richCompare .Gt v vb >>= _)) _ >>= _) _ _ _;refine Ix (KY (Jg (Ix (hcmp (j+1) (argBest bt j) v vb _ _ _ hP hPb ?_))))
  refine Ix (Jg (JW ?_))
  refine Ix (K0 (Iy ?_))
  cases hb:bt (j+1) (argBest bt j)with
  |true=>
   simp only[if_true];refine Ix ?_
   refine J4 hS' rfl (Ix (K0 ?_))
   rw[hname];refine Iy ⟨JT Lp _,ih (j+1) _ v _ (by lia) hlt (W.frame _ _ _ hst' λb hbf o e=>?_) (by simp only[argBest,hb,if_true];exact hP) (IY _ hS' rfl)
    λv' h'' tk'' hP' hk''=>?_⟩
   ·exact(IP _ _ (λh:S=b=>hSf (by rw[h];exact hbf))).trans e
   ·exact hR v' h'' tk'' hP' λb o hbw hbS e=>hk'' b o hbw hbS ((IP _ _ (Jb hbS)).trans (hk' b o hbw e))
  |false=>
   simp only[IT,if_false];refine Ix (K0 ?_)
   rw[hname];refine Iy ⟨JT Lp _,ih (j+1) _ vb c (by lia) hlt hst' (by simp only[argBest,hb,IT,if_false];exact hPb) hS' λv' h'' tk'' hP' hk''=>?_⟩
   exact hR v' h'' tk'' hP' λb o hbw hbS e=>hk'' b o hbw hbS (hk' b o hbw e)
theorem xG (W:OJ prog w A.in1 I fp wr n P St) (bt:Nat->Nat->Bool) (hcmp:CmpOf prog w A.in1 .Gt P bt) (S:IZ) (hSf:S∉fp) {x:IX}{d:IA}{s:IB}{c:Nat}(hst:St 0 s.heap)
  (hS:s.heap.get? S=U {cls:=.type "list",dict:=B,data:=.seq #[] c,slots:=#[]})
  (hR:∀v h' tk,(n=0/\v=d\/0<n/\P (argBest bt (n - 1)) v)->(∀b o,b∉wr->b≠S->s.heap.get? b=U o->h'.get? b=U o)->R (.ok (.ret v)) {s with heap:=h',toks:=tk}):
  codeAny (model prog w) A (.builtin "max.loop" ⟨[.ref I,.none,.ref S],[(x,d)]⟩) R s:=by
 have hSw:=λh=>hSf (W.sub _ h)
 have hname:(toString "max"++toString ".loop":String)="max.loop":=by decide
 refine Jt MX ?_
 rw[Pu Lp _];show wpAny _ A.in1 (seqItems? (.ref S) >>= _) _ _ s;refine Ix (JI hS rfl ?_)
 show wpAny _ A.in1 (tryCatch (pyNext (.ref I)) _ >>= _) _ _ s
 by_cases hn:0<n
 ·refine Ix (KY (W.item 0 s _ _ hn hst λv h' tk hP hst' hk'=>?_))
  have hS':=hk' S _ hSw hS;show wpAny _ A.in1 (updateSeq S (λ_=>#[v,v]) >>= _) _ _ _
  refine Ix ?_
  refine J4 hS' rfl ?_
  rw[hname];refine Iy ⟨JT Lp _,Ai W bt hcmp S hSf _ 0 _ v _ rfl hn (W.frame _ _ _ hst' λb hbf o e=>?_) hP (IY _ hS' rfl) λv' h'' tk'' hP' hk''=>?_⟩
  ·exact(IP _ _ (λh:S=b=>hSf (by rw[h];exact hbf))).trans e
  ·exact hR v' h'' tk'' (.inr ⟨hn,hP'⟩) λb o hbw hbS e=>hk'' b o hbw hbS ((IP _ _ (Jb hbS)).trans (hk' b o hbw e))
 ·have h0:n=0:=by lia
  refine Ix (KY (W.done s _ _ (h0▸hst) λh' tk hk'=>?_))
  show wpAny _ A.in1 (rule _ >>= λ_=>ret d) _ _ _
  exact Ix (Kf (Iy (hR d h' tk (.inl ⟨h0,rfl⟩) λb o hbw _ e=>hk' b o hbw e)))
end
theorem yZ (a v:IA):argsOk "max" ⟨[a],[(JM "default",v)]⟩:=by rfl
section
variable{prog:J9}{w:KB}{A:Jj}{E:IA->IB->Prop}{s:IB}
theorem yi {x d:IA}{Q:IA->IB->Prop}
  (h:wpAny (model prog w) A.in1 (pyIter x) (λit s₂=>∃I fp wr n P St bt,it=.ref I/\OJ prog w A.in1 I fp wr n P St/\St 0 s₂.heap/\(∀b∈fp,b<s₂.heap.objs.size)/\CmpOf prog w A.in1 .Gt P bt/\
   ∀v h' tk,(n=0/\v=d\/0<n/\P (argBest bt (n - 1)) v)->(∀b o,b∉wr->s₂.heap.get? b=U o->h'.get? b=U o)->Q v {s₂ with heap:=h',toks:=tk}) E s):
  wpAny (model prog w) A (call (.builtin "max") [x] [(JM "default",d)]) Q E s:=by
 refine kmb_tree PySem.F.kind_max PySem.F.plain_max PySem.F.entry_max (yZ _ _) ?_
 refine Ix (MD (show L9 "max" ["key","default"] 0 ⟨[],[(JM "default",d)]⟩=pure [B,U d] from rfl) ?_)
 refine Ix (Iy ?_)
 refine Ix (KP h (λit s₂ h₂=>?_) λ_ _ e=>e)
 obtain⟨I,fp,wr,n,P,St,bt,rfl,W,hst,hfp,hcmp,hQ⟩:=h₂;refine Ix (JQ ?_)
 have hSf:=λhm=>JV _ (hfp _ hm)
 refine Iy ⟨JT Lp _,xG W bt hcmp s₂.heap.objs.size hSf (W.frame _ _ _ hst λb _ o e=>Iz _ e) (IF _ rfl) λv h' tk hP hk=>?_⟩
 exact hQ v h' tk hP λb o hbw e=>hk b o hbw (Ji (IJ e)) (Iz _ e)
end
noncomputable def wE (ns:List Int):Int:=ns.getD (argBest (λi j=>decide (ns.getD i 0>ns.getD j 0)) (ns.length - 1)) 0
noncomputable def qm (x y:Option D):Option D:=match x,y with
 |some (.lst ds),U (.int d)=>(match v8 ds with|some ns=>U (.int (if ns=[] then d else wE ns))|none=>B)
 |_,_=>B
set_option tactic.hygienic true in
theorem vK {x y:Option D}{d:D}(h:qm x y=U d):∃(ns:List Int) (i:Int),x=U (.lst (ns.map D.int))/\y=U (.int i)/\d=.int (if ns=[] then i else wE ns):=by
 unfold qm at h;split at h
 ·split at h
  ·rename_i q
   obtain rfl:=J7 h;obtain rfl:=m8 q;exact⟨_,_,rfl,rfl,rfl⟩
  ·contradiction
 ·contradiction
theorem mK (bt:Nat->Nat->Bool):∀k,argBest bt k<=k
 |0=>IM _
 |k+1=>by
  unfold argBest;split
  ·exact IM _
  ·exact LM (mK bt k)
theorem Fx:bootBuiltins "max"=U (.builtin "max"):=by rfl
theorem F1:bootBuiltins "min"=U (.builtin "min"):=by rfl
section
variable{prog:J9}{w:KB}{A:Jj}{R:NI->IB->Prop}{I:IZ}{fp wr:List IZ}{n:Nat}{P:Nat->IA->Prop}{St:Nat->Kl->Prop}{s0:IB}{S:IZ}{bt:Nat->Nat->Bool}
noncomputable abbrev rI (wr:List IZ) (S:IZ) (h0 h:Kl):Prop:=∀b o,b∉wr->b≠S->h0.get? b=U o->h.get? b=U o
theorem Bt (W:OJ prog w A.in1 I fp wr n P St) (hcmp:∀i j vi vj h tk,rI wr S s0.heap h->P i vi->P j vj->LtAt A.in1 {s0 with heap:=h,toks:=tk} vi vj (bt i j)) (hSf:S∉fp):
  ∀(k j:Nat) (h:Kl) (tk:Nat) (vb:IA) (c:Nat),rI wr S s0.heap h->n - (j+1)=k->j+1<=n->St (j+1) h->P (argBest bt j) vb->
  h.get? S=U {cls:=.type "list",dict:=B,data:=.seq #[vb,vb] c,slots:=#[]}->
  (∀v h' tk,P (argBest bt (n - 1)) v->rI wr S s0.heap h'->R (.ok (.ret v)) {s0 with heap:=h',toks:=tk})->
  codeAny (model prog w) A (.builtin "min.loop" ⟨[.ref I,.none,.ref S],[]⟩) R {s0 with heap:=h,toks:=tk}:=by
 have hSw:=λh=>hSf (W.sub _ h)
 have hname:(toString "min"++toString ".loop":String)="min.loop":=by decide
 intro k
 induction k with
 |zero=>
  intro j h tk vb c h0s hk hj hst hPb hS hR;have hin:j+1=n:=by lia
  refine Jt MW ?_
  refine Ix (JI hS rfl ?_)
  refine Ix (KY (W.done _ _ _ (hin▸hst) λh' tk' hk'=>?_))
  have hS':=hk' S _ hSw hS;refine Ix ?_
  refine J4 hS' rfl (Ix (K0 (Iy ?_)))
  exact hR vb _ _ (by rw[<-hin];exact hPb) λb o hbw hbS e=>(IP _ _ (Jb hbS)).trans (hk' b o hbw (h0s b o hbw hbS e))
 |succ k ih=>
  intro j h tk vb c h0s hk hj hst hPb hS hR;have hlt:j+1<n:=by lia
  refine Jt MW ?_
  refine Ix (JI hS rfl ?_)
  refine Ix (KY (W.item (j+1) _ _ _ hlt hst λv h' tk' hP hst' hk'=>?_))
  have hS':=hk' S _ hSw hS;have h0':=λb o hbw hbS e=>hk' b o hbw (h0s b o hbw hbS e)
  show wpAny _ A.in1 (tryCatch (holding [v,v] (richCompare .Lt v vb >>= _)) _ >>= _) _ _ _;refine Ix (KY (Jg (Ix (hcmp (j+1) (argBest bt j) v vb _ _ h0' hP hPb _ _ _ _ ?_))))
  refine Ix (Jg (JW ?_))
  refine Ix (K0 (Iy ?_))
  cases hb:bt (j+1) (argBest bt j)with
  |true=>
   simp only[if_true];refine Ix ?_
   refine J4 hS' rfl (Ix (K0 ?_))
   rw[hname];refine Iy ⟨JT Lo _,ih (j+1) _ _ v _ (λb o hbw hbS e=>(IP _ _ (Jb hbS)).trans (h0' b o hbw hbS e)) (by lia) hlt (W.frame _ _ _ hst' λb hbf o e=>?_) (by simp only[argBest,hb,if_true];exact hP) (IY _ hS' rfl) hR⟩
   exact(IP _ _ (λh:S=b=>hSf (by rw[h];exact hbf))).trans e
  |false=>
   simp only[IT,if_false];refine Ix (K0 ?_)
   rw[hname];exact Iy ⟨JT Lo _,ih (j+1) _ _ vb c h0' (by lia) hlt hst' (by simp only[argBest,hb,IT,if_false];exact hPb) hS' hR⟩
theorem w8 (W:OJ prog w A.in1 I fp wr n P St) (hcmp:∀i j vi vj h tk,rI wr S s0.heap h->P i vi->P j vj->LtAt A.in1 {s0 with heap:=h,toks:=tk} vi vj (bt i j)) (hSf:S∉fp) (hn:0<n) {h:Kl}{tk:Nat}{c:Nat}(h0s:rI wr S s0.heap h) (hst:St 0 h)
  (hS:h.get? S=U {cls:=.type "list",dict:=B,data:=.seq #[] c,slots:=#[]})
  (hR:∀v h' tk,P (argBest bt (n - 1)) v->rI wr S s0.heap h'->R (.ok (.ret v)) {s0 with heap:=h',toks:=tk}):
  codeAny (model prog w) A (.builtin "min.loop" ⟨[.ref I,.none,.ref S],[]⟩) R {s0 with heap:=h,toks:=tk}:=by
 have hSw:=λh=>hSf (W.sub _ h)
 have hname:(toString "min"++toString ".loop":String)="min.loop":=by decide
 refine Jt MW ?_
 rw[Pu Lo _];show wpAny _ A.in1 (seqItems? (.ref S) >>= _) _ _ _;refine Ix (JI hS rfl ?_)
 show wpAny _ A.in1 (tryCatch (pyNext (.ref I)) _ >>= _) _ _ _;refine Ix (KY (W.item 0 _ _ _ hn hst λv h' tk' hP hst' hk'=>?_))
 have hS':=hk' S _ hSw hS;show wpAny _ A.in1 (updateSeq S (λ_=>#[v,v]) >>= _) _ _ _
 refine Ix ?_
 refine J4 hS' rfl ?_
 rw[hname];refine Iy ⟨JT Lo _,Bt W hcmp hSf _ 0 _ _ v _ (λb o hbw hbS e=>(IP _ _ (Jb hbS)).trans (hk' b o hbw (h0s b o hbw hbS e))) rfl hn (W.frame _ _ _ hst' λb hbf o e=>?_) hP (IY _ hS' rfl) hR⟩
 exact(IP _ _ (λh:S=b=>hSf (by rw[h];exact hbf))).trans e
end
noncomputable def btD (ds:List D) (i j:Nat):Bool:=decide (ltD 15 (ds.getD i .non) (ds.getD j .non)=U V)
noncomputable abbrev wu (ds:List D):Nat:=argBest (btD ds) (ds.length - 1)
noncomputable def Gg (x:Option D):Option D:=match x with|some (.lst ds)=>if(eE ds&&decide (0<ds.length))=V then ds[wu ds]? else B|_=>B
variable[Md]
theorem Rs.ints:∀{ns:List Int}{vs},Rs m M (ns.map D.int) vs->∀i v,vs[i]?=U v->∃t,v=.int (ns.getD i 0) t/\i<ns.length
 |[],_,h,i,v,e=>by cases h;simp at e
 |n::ns,_,⟨x,r,rfl,⟨t,e⟩,h2⟩,0,v,e1=>by simp at e1;subst e1;exact⟨t,e,by simp⟩
 |n::ns,_,⟨x,r,rfl,_,h2⟩,i+1,v,e1=>by simpa using Rs.ints h2 i v (by simpa using e1)
noncomputable def kB (c:KD) (x:Option D):Option D:=match x with|some (.tup ds)=>if(eE ds&&(decide (ds.length<2)||ds.all (iR c)))=V then U (.lst (cG ds)) else B|_=>B
section
variable{X:Cx}{M:Mp}{δ:DEnv}{s:IB}{a b:Expr}{fa fb:DEnv->Option D}{m m' mm:Bool}{p p2 pos pos2 kp:Ov}{t u:Bool}{Q:IA->IB->Prop}
theorem vT {c:KD}(t u:Bool) (gl:Bn X "sorted") (g:Bn X "zip") (h:DE X Y a fa) (h':DE X Y b fb):DF X (.Call (.Name "sorted" p) [.Call (.Name "zip" p2) [a,b] [] pos2] [] pos) (λδ=>eB c (qB t u (fa δ) (fb δ))):=⟨rfl,λI e k=>by
 obtain⟨ds,e1,h1,h2,rfl⟩:=m9 e;obtain⟨ls,e0,hl,z⟩:=mD e1;cases z;refine Kg (I.bltn gl fx (KH ?_ rfl rfl))
 refine Ke (yR g h h' I e0 λz Pr O c d p q o1 o2 xs ys ds es h' s1 M1 e x1 I1 ap Z hi kk q1 t1 r1 q2 t2 r2=>KV ?_)
 subst e;have hsz:=IR (hi z (by simp)) (Np (IJ Z.zz))
 have l1:=r1.length;have l2:=r2.length;rw[iq]at hl;have hl':=aw hl;refine LW NY NF NG (OI _) ?_
 refine Ix (m:=checkCount "sorted" 1 1 _) (Iy (Ix (Bk (A:=X.A.in1) (s:={s1 with heap:=h'}) I.ok.room.hd ap (by simp;lia) (lo:=s1.heap.objs.size) hi hsz Z ((t1.at (q1.heap I1.heap)).to λo e=>kk _ o e) ((t2.at (q2.heap I1.heap)).to λo e=>kk _ o e) λg2 tk acc k1 k2 k3 k4=>?_)))
 have I2:Inv X M1 _ {s1 with heap:=g2,toks:=tk}:=I1.kp λb o e=>k1 b o (λhm=>absurd (Ly (IJ e) (hi b hm)) (JV _)) (kk b o e)
 obtain⟨M3,x3,I3,n3,r3⟩:=yP (s:={s1 with heap:=g2,toks:=tk}) (is:=xs) (js:=ys) acc.toList 0 M1 ds es I2 k4 (λT hT=>by obtain⟨T',e,_,lo⟩:=k4.lt _ hT;cases e;exact I1.fresh lo) r1 r2 (by simp at k3⊢;lia)
 exact dv I3 r3 (by simp at k3⊢;lia) h1 h2 (PostF.to k (x1.trans x3))⟩
set_option tactic.hygienic true in
theorem tN {c:KD}(g:Bn X "sorted") (ha:DE X Y a fa):DF X (.Call (.Name "sorted" p) [a] [] pos) (λδ=>kB c (fa δ)):=⟨rfl,λ{M δ s d Q} I e k=>by
 unfold kB at e;split at e<;>try cases e
 split at e<;>cases e
 rename_i ds e1 hc;rw[II]at hc;refine gG g fx ha I e1 λv s1 M1 x1 I1 r=>?_
 obtain⟨l,o,vs,rfl,q,t,rs⟩:=r;have z:=t.1;refine LW NY NF NG (OI _) ?_
 refine Ix (m:=checkCount "sorted" 1 1 _) (Iy (Ix (sJ (t.is I1.heap q) ?_ (by lia))))
 refine dv (I1.kp λb o e=>?_) rs (by simpa using z) hc.1 hc.2 (PostF.to k x1)
 exact(IP _ _ (Lx (IJ e))).trans (Iz _ e)⟩
theorem EE (g:Bn X "max") (ha:DE X m a fa) (hb:DE X m' b fb):DE X mm (.Call (.Name "max" p) [a] [⟨U "default",b,kp⟩] pos) (λδ=>qm (fa δ) (fb δ)):=⟨rfl,λ{M δ s d Q} I e k=>by
 obtain⟨ns,i,hfa,hfb,rfl⟩:=vK e;refine Kg (I.bltn g Fx (callWith_kw ((aT ha cL).ev I (ds:=[.lst (ns.map D.int)]) (by rw[hfa];rfl) (λvs s1 M1 x1 I1 r=>?_) pos) ?_ ?_ rfl rfl))
 ·obtain⟨v,rfl,r1⟩:=r.is1
  refine Ix (Ix (hb.ev I1 hfb λu s2 M2 x2 I2 r2=>Ix (Oi (Iy ?_))))
  refine Ix (Jg (Iy (Iy ?_)))
  obtain⟨l,o,vs,rfl,q,t,rs⟩:=r1.up x2;have pl:=t.is I2.heap q;have hlen:=rs.length;rw[IC]at hlen;have hlt:=IJ (q.heap I2.heap);refine yi (KO pl ⟨s2.heap.objs.size,_,_,vs.toArray.size,_,_,λi j=>decide (ns.getD i 0>ns.getD j 0),rfl,NM (A:=X.A.in1) I.ok.room.hd s2.heap.objs.size l (Ji hlt) vs.toArray,⟨⟨_,IF _ rfl,rfl,rfl⟩,pl.push _⟩,λb hb=>?_,CmpOf.ints_gt (λi=>ns.getD i 0) λi v hi=>?_,λv h' tk hv' hk=>?_⟩)
  ·simp at hb;simp;lia
  ·obtain⟨t,e,_⟩:=rs.ints i v (by simpa using hi);exact⟨t,e⟩
  ·refine k _ {s2 with heap:=h',toks:=tk} _ (x1.trans x2) (I2.kp (yM hk)) ?_
   rcases hv' with⟨h0,rfl⟩|⟨h0,hP⟩
   ·obtain rfl:ns=[]:=List.length_eq_zero_iff.mp (by simp at h0;rw[hlen,h0];rfl)
    exact r2
   ·obtain⟨t,e,hl⟩:=rs.ints _ v (by rw[<-LF];exact hP)
    have hn:0<ns.length:=by lia
    rw[if_neg (List.length_pos_iff.mp hn)];refine⟨t,?_⟩
    rw[e];unfold wE;rw[Jm,<-hlen]
 ·rw[bB ha.pl];rfl
 ·rw[bB ha.pl];rfl⟩
set_option tactic.hygienic true in
theorem EU (g:Bn X "min") (ha:DE X m a fa):DE X m (.Call (.Name "min" p) [a] [] pos) (λδ=>Gg (fa δ)):=⟨rfl,λ{M δ s d Q} I e k=>by
 unfold Gg at e;split at e<;>try cases e
 split at e<;>try cases e
 rename_i ds e1 hc;rw[II,decide_eq_true_eq]at hc;refine gG g F1 ha I e1 λv s1 M1 x1 I1 r=>?_
 obtain⟨l,o,vs,rfl,q,t,rs⟩:=r;have pl:=t.is I1.heap q;have hlen:=rs.length;have un:=I1.un;have hlt:=IJ (q.heap I1.heap);have hname:(toString "min"++toString ".loop":String)="min.loop":=by decide
 refine call_function_tree PySem.F.kind_min PySem.F.plain_min PySem.F.entry_min (PySem.F.args_min1 _) ?_
 show wpAny _ X.A.in1 (L9 "min" ["key","default"] 0 ⟨[],[]⟩ >>= _) _ _ _;refine Ix (MD (show L9 "min" ["key","default"] 0 ⟨[],[]⟩=pure [B,B] from rfl) ?_)
 refine Ix (Iy (Ix (KO pl (Ix (JQ ?_)))))
 rw[hname];have W:=NM (prog:=P) (w:=w) (A:=X.A.in1) I.ok.room.hd s1.heap.objs.size l (Ji hlt) vs.toArray;have it:∀{i:Nat}{v:IA},vs.toArray[i]?=U v->∃d,ds[i]?=U d/\d∈ds/\R m M1 d v:=λ{i v} hv=>by
  have hv':vs[i]?=U v:=by simpa using hv
  have hi:i<ds.length:=by have:=(List.getElem?_eq_some_iff.mp hv').1;lia
  obtain⟨v',h1,h2⟩:=rs.get (i:=i) (d:=ds[i]) (by simp[hi])
  rw[hv']at h1;cases h1;exact⟨_,by simp[hi],Kh hi,h2⟩
 have kp:∀{h:Kl}{tk:Nat}{ob:N1},rI [s1.heap.objs.size] (s1.heap.push ob).objs.size s1.heap h->Inv X M1 δ {s1 with heap:=h,toks:=tk}:=λ{h tk ob} hst=>I1.kp λb o e=>hst b o (λz=>by rw[List.mem_singleton.mp z]at e;exact absurd (IJ e) (JV _)) (λz=>by have:=IJ e;rw[z,JG]at this;lia) e
 refine Iy ⟨JT Lo _,w8 (s0:=s1) (bt:=btD ds) W (λi j vi vj h tk hst hi hj=>?_) (λhm=>?_) (by simp;lia) (λb o _ _ e=>?_) ⟨⟨_,Iz _ (IF _ rfl),rfl,rfl⟩,(pl.push _).push _⟩ (IF _ rfl) λv h' tk hP hst=>?_⟩
 ·obtain⟨di,hdi,mi,pi⟩:=it hi
  obtain⟨dj,hdj,mj,pj⟩:=it hj;obtain⟨bb,hbb⟩:=gH hc.1 mi mj;have:btD ds i j=bb:=by
   unfold btD;rw[KI,KI,hdi,hdj]
   simp only[N0,hbb];cases bb<;>rfl
  rw[this];exact Il (s:={s1 with heap:=h,toks:=tk}) (kp (tk:=tk) hst).heap 15 X.A.in1 (eM hc.1 mi) (eM hc.1 mj) (show X.A.units+1+15+1<cLine by lia) pi pj hbb
 ·simp at hm;lia
 ·exact Iz _ (Iz _ e)
 ·rw[Jm,<-hlen]at hP
  obtain⟨d',h1,_,h2⟩:=it hP;rw[h1]at e;cases e;exact k _ _ _ x1 (kp hst) h2⟩
end
end L2
namespace L2
open PySem PySem.Spec PyProof.Rows PySem.W Md
noncomputable def EN {α:Type}(lt:Nat->Nat->Bool):KasT α->α
 |.ret a=>a
 |.ask i j k=>EN lt (k (lt i j))
noncomputable def Eg (n:Nat):KasT (Array Nat)->Bool
 |.ret a=>a.toList.isPerm (JA n)
 |.ask i j k=>decide (i<n)&&decide (j<n)&&(Eg n (k V)&&Eg n (k Y))
theorem lE {n:Nat}(lt:Nat->Nat->Bool):∀t:KasT (Array Nat),Eg n t=V->(EN lt t).toList.Perm (JA n)
 |.ret a,h=>List.isPerm_iff.mp h
 |.ask i j k,h=>by
  simp only[Eg,II]at h;unfold EN;cases lt i j with
  |true=>exact lE lt _ h.2.1
  |false=>exact lE lt _ h.2.2
theorem Cj {n:Nat}{lt:Nat->Nat->Bool}{cmp:Nat->Nat->(Bool->IB->Prop)->IB->Prop}{Q:Array Nat->IB->Prop}{s:IB}(hc:∀i j C,i<n->j<n->C (lt i j) s->cmp i j C s):∀t:KasT (Array Nat),Eg n t=V->Q (EN lt t) s->t.kasWp cmp Q s
 |.ret a,_,h=>h
 |.ask i j k,h,h'=>by
  simp only[Eg,II,decide_eq_true_eq]at h;refine hc i j _ h.1.1 h.1.2 (Cj hc (k (lt i j)) ?_ h')
  cases lt i j with
  |true=>exact h.2.1
  |false=>exact h.2.2
theorem vt:∀{n:Nat},n<5->Eg n (kas_sort n)=V
 |0,_=>by kernel_rfl
 |1,_=>by kernel_rfl
 |2,_=>by kernel_rfl
 |3,_=>by kernel_rfl
 |4,_=>by kernel_rfl
 |n+5,h=>absurd h (by lia)
noncomputable def ltK (ks:List Int) (i j:Nat):Bool:=decide (ks.getD i 0<ks.getD j 0)
noncomputable def rC (ks:List Int):List Nat:=if ks.length<2 then JA ks.length else(EN (ltK ks) (kas_sort ks.length)).toList
theorem iy {ks:List Int}(h:ks.length<5):(rC ks).Perm (JA ks.length):=by
 unfold rC;split
 ·rfl
 ·exact lE _ _ (vt h)
noncomputable def du (vs:List IA) (p:List Nat):List IA:=p.map λi=>vs.getD i Kv
theorem eO:∀{us:List IA}{ks:List Int}{i:Nat},IntsAre us ks->i<us.length->∃t,us.getD i Kv=.int (ks.getD i 0) t
 |_,_,i,.nil,h=>by simp at h
 |_,_,0,.cons n t h,_=>⟨t,rfl⟩
 |_,_,i+1,.cons n t h,hi=>by simpa using eO (i:=i) h (by simp_all)
noncomputable def kY (fk:D->Option D):List D->Option (List Int)
 |[]=>U []
 |d::ds=>match fk d,kY fk ds with|some (.int i),U l=>U (i::l)|_,_=>B
set_option tactic.hygienic true in
theorem qu {fk:D->Option D}:∀{ds:List D}{ks:List Int},kY fk ds=U ks->ds.length=ks.length
 |[],ks,h=>by simp only[kY,Jk]at h;subst h;rfl
 |d::ds,ks,h=>by
  simp only[kY]at h;split at h
  ·rename_i i l q1 q2
   obtain rfl:=J7 h;simp[qu q2]
  ·contradiction
set_option tactic.hygienic true in
theorem rq {fk:D->Option D}:∀{ds:List D}{ks:List Int}{i:Nat}{d:D}{k:Int},kY fk ds=U ks->ds[i]?=U d->ks[i]?=U k->fk d=U (.int k)
 |[],ks,i,d,k,h,hd,hk=>by simp at hd
 |d'::ds,ks,i,d,k,h,hd,hk=>by
  simp only[kY]at h;split at h
  ·rename_i i' l q1 q2
   obtain rfl:=J7 h;cases i with
   |zero=>simp_all
   |succ i=>simp at hd hk;exact rq q2 hd hk
  ·contradiction
noncomputable def qK (ds:List D) (ks:List Int):List D:=(rC ks).map λi=>ds.getD i .non
noncomputable def jO (x:Option D) (fk:D->Option D):Option D:=match x with
 |some (.lst ds)=>if ds.length<5 then(match kY fk ds with|some ks=>U (.lst (qK ds ks))|none=>B) else B
 |_=>B
set_option tactic.hygienic true in
theorem tL {x:Option D}{fk:D->Option D}{d:D}(h:jO x fk=U d):∃ds ks,x=U (.lst ds)/\ds.length<5/\kY fk ds=U ks/\d=.lst (qK ds ks):=by
 unfold jO at h;split at h
 ·rename_i ds
  split at h
  ·rename_i hl
   split at h
   ·rename_i ks q;obtain rfl:=J7 h;exact⟨ds,ks,rfl,hl,q,rfl⟩
   ·contradiction
  ·contradiction
 ·contradiction
set_option tactic.hygienic true in
theorem wc {pos pos':Ov}{cv c:IA}(l:List IA) (ht:TriplesOk l) (h:codeAmong pos' (l++[rawInt pos.line,rawInt pos.col,c])=U cv):codeAmong pos' l=U cv\/cv=c:=by
 fun_induction TriplesOk l with
 |case1=>
  simp_all [Lz,rawInt,codeAmong]
 |case2 a t b u x rest ih=>
  simp only[List.cons_append,codeAmong]at h⊢;split at h
  ·rename_i hc;rw[if_pos hc];exact .inl h
  ·rename_i hc;rw[if_neg hc];exact ih ht h
 |case3 l h1 h2=>exact ht.elim
theorem C4 (kA vs:Array IA) (h:kA.size=vs.size):(kA.zip vs).map (·.2)=vs:=by
 apply Array.ext
 ·simp[h]
 ·intro i h1 h2;simp
noncomputable def mO (h:Kl) (vs:List IA):Kl:=Heap.push (PR (h.push (seqObj "list" #[] 0)) h.objs.size (Jc (· ++vs.toArray))) (seqObj "list" vs.toArray 0)
theorem wW (h:Kl) (vs:List IA):(PR (h.push (seqObj "list" #[] 0)) h.objs.size (Jc (· ++vs.toArray))).objs.size=h.objs.size+1/\(mO h vs).objs.size=h.objs.size+2/\
  (mO h vs).get? (h.objs.size+1)=U (seqObj "list" vs.toArray 0)/\∀b o,h.get? b=U o->(mO h vs).get? b=U o:=by
 have e:(PR (h.push (seqObj "list" #[] 0)) h.objs.size (Jc (· ++vs.toArray))).objs.size=h.objs.size+1:=by
  rw[Heap.size_update,size_push']
 refine⟨e,by unfold mO;simp,?_,λb o q=>?_⟩
 ·rw[<-e];exact IF _ rfl
 ·exact Iz _ ((Heap.get?_update_ne _ _ _ _ (Ji (IJ q))).trans (Iz _ q))
noncomputable def tE (j:Nat) (τ:D->DEnv->Option DEnv) (fc:DEnv->Option Bool) (fe:DEnv->Option D):List D->DEnv->Option Out
 |[],δ=>U (.next δ)
 |d::ds,δ=>ae (τ d δ) λδ1=>match fc δ1 with|some V=>(match aH j (fe δ1) δ1 with|some (.next δ2)=>tE j τ fc fe ds δ2|_=>B)|some Y=>tE j τ fc fe ds δ1|none=>B
noncomputable def BA (j:Nat) (τ:D->DEnv->Option DEnv) (fc:DEnv->Option Bool) (fe:DEnv->Option D) (x:Option (List D)) (δ:DEnv):Option Out:=match x with|some ds=>if D.flats ds=V then tE j τ fc fe ds δ else B|none=>B
variable[Md]
section
variable{X:Cx}{M M':Mp}{δ:DEnv}{s s':IB}{tg iter c e:Expr}{pos p1 p2 p3:Ov}{j:Nat}{x:IX}{fi:DEnv->Option (List D)}{τ:D->DEnv->Option DEnv}{fc:DEnv->Option Bool}{fe:DEnv->Option D}
theorem Ao:∀{ds:List D}{i:Nat},D.flats ds=V->(h:i<ds.length)->ds[i].flat=V:=λh hi=>by rw[D.flats_all,IW]at h;exact h _ (Kh hi)
set_option tactic.hygienic true in
theorem A6 (hi:DI X V tg iter fi) (hg:DG X tg τ) (ht:DT X c fc) (l:Lc X j x) (he:DE X Y e fe) (hw:swapsWith e (U (.Name x p3)) p2.line X.env=pure Y):
  DS X (.For tg iter [.If c [.Assign [.Name x p3] e p2] [] p1] [] pos) (λδ=>BA j τ fc fe (fi δ) δ):=λ{M δ s o Q} I e k=>by
 unfold BA at e;dsimp only at e;split at e<;>try cases e
 split at e<;>try cases e
 rename_i ds e1 hf;refine wpAny_For (hi.ev I e1 λit fp tn s1 M1 x1 I1 T t0 f1=>?_) λx=>kK hi.pl
 refine N8 (λn s'=>∃i δ' M',n=ds.length - i/\i<=ds.length/\Ext M1 M'/\Inv X M' δ' s'/\tn i s'.heap/\(∀b∈fp,Free X M' b)/\tE j τ fc fe (ds.drop i) δ'=U o) ?_ ds.length ⟨0,δ,M1,rfl,Jf _,Ext.refl,I1,t0,f1,e⟩
 rintro n s2 ⟨i,δ2,M2,rfl,hi',x2,I2,t2,f2,e3⟩
 have rd2:∀a o,Rd V M1 a o->s2.heap.get? a=U o:=λa o q=>by obtain⟨k,q,_⟩:=x2.sub a o q;exact I2.heap _ _ _ q
 by_cases hlt:i<ds.length
 ·rw[Jr hlt]at e3
  obtain⟨δ1,q1,q2⟩:=ag e3;refine JF JD (thn (T.item t2 rd2 (d:=ds[i]) (by simp[hlt])) λr s3 hz=>?_)
  obtain⟨u,rfl,h3⟩:=hz;refine JF JD (thn h3 λ_ s4 hz=>?_)
  obtain⟨c4,t4,g4⟩:=hz;obtain⟨M4,x4,I4,r4,f4'⟩:=I2.got x2.sub g4 c4 f2;have f4:∀b∈fp,Free X M4 b:=λb hb=>by obtain⟨o,e⟩:=T.ex t2 b hb;exact f4' b o (f2 b hb) e
  have r4:=r4.flat I4.own (Ao hf hlt);refine JF JD (hg I4.pin (r4.to lj) q1 λs5 I5=>?_)
  have fin:∀{δ6 M6 s6},Ext (pin X M4 s4.heap) M6->Inv X M6 δ6 s6->tE j τ fc fe (ds.drop (i+1)) δ6=U o->∃m,m<ds.length - i/\∃i δ' M',m=ds.length - i/\i<=ds.length/\Ext M1 M'/\Inv X M' δ' s6/\tn i s6.heap/\(∀b∈fp,Free X M' b)/\tE j τ fc fe (ds.drop i) δ'=U o:=λy J e=>by
   obtain⟨h1,h2,h3,h4,h5,h6⟩:=I4.unp J y.sx;exact⟨ds.length - (i+1),by lia,i+1,_,_,rfl,hlt,(x2.trans x4).trans y.unp,h1,T.keep t4 λb hb o e=>(h6 b o (f4 b hb) e).1,λb hb=>by obtain⟨o,e⟩:=T.ex t4 b hb;exact(h6 b o (f4 b hb) e).2,e⟩
  split at q2
  ·rename_i qc
   split at q2<;>try cases q2
   rename_i δ7 qs;obtain⟨d,qe,z⟩:=li qs;cases z;refine JF JD (J5 (Px (ht I5 qc λs6 M6 x6 I6=>?_)))
   exact J5 (LR (he.ev I6 qe λv s7 M7 x7 I7 r=>I7.store l (b:=Y) r λs8 _ I8 _ _=>KC (KC (fin (x6.trans x7) I8 q2))) hw)
  ·rename_i qc
   exact JF JD (J5 (Px (ht I5 qc λs6 M6 x6 I6=>KC (KC (fin x6 I6 q2)))))
  ·cases q2
 ·obtain rfl:i=ds.length:=by lia
  rw[M0]at e3;cases e3;refine JF JD (thn (T.done t2 rd2) λr s3 hz=>?_)
  obtain⟨rfl,c3⟩:=hz;exact KC (k _ _ (x1.trans x2).sx (I2.ch c3 f2))
theorem Inv.tne (I:Inv X M δ s) (hP:q∈tb):X.env.locals≠q.1/\∀x c,X.env.cells.lookup x=U c->c≠q.1:=by
 obtain⟨_,ps,h,_⟩:=I.tabs q hP;refine⟨λz=>?_,λx c e z=>?_⟩
 ·obtain⟨_,⟨o,es,ep,h1,h2,_⟩,_⟩:=I.loc;rw[z,h]at h1;cases h1;cases h2
 ·obtain⟨⟨v,o,h1,h2⟩,_⟩:=I.cell x c e;rw[z,h]at h1;cases h1;cases h2
theorem Inv.grow {P c':IZ}{lq:IX}{ps:Array IA}{pos:Ov}{h':Kl}{t':Nat}(I:Inv X M δ s) (hP:(P,lq)∈tb) (hTu:∀q∈tb,q.1=P->q=(P,lq)) (hps:s.heap.get? P=U {cls:=.none,data:=.fields ps}) (hx:NC P s.heap h') (hge:s.heap.objs.size<=c') (hoc:h'.get? c'=U oc) (hd:oc.data=.fields vs) (hv:vs[1]?=U (.str lq t))
  (htb:h'.get? P=U (PySem.W.tabObj (ps++#[rawInt pos.line,rawInt pos.col,.ref c']))):Inv X (upd M c' (U (.f,oc))) δ {s with heap:=h',toks:=t'}:=by
 obtain⟨nl,nc⟩:=I.tne hP;have f:=I.fresh hge;have k:∀b o,b≠P->s.heap.get? b=U o->h'.get? b=U o:=λb o hb e=>hx b o hb e
 have mP:=(I.tabs _ hP).1;have of:∀{b y},M b=U y->upd M c' (U (.f,oc)) b=U y:=λ{b y} e=>by rw[av (λz=>by rw[z,f.m]at e;cases e)];exact e
 have no:∀{b},M b=B->b≠c'->upd M c' (U (.f,oc)) b=B:=λ{b} e n=>by rw[av n];exact e
 have ow:∀{b i o},upd M c' (U (.f,oc)) b=U (.o i,o)->M b=U (.o i,o):=λ{b i o} e=>by
  by_cases z:b=c'
  ·subst z;rw[aq]at e;cases e
  ·rw[av z]at e;exact e
 obtain⟨m,⟨oL,es,ep,hL,hL2⟩,hl⟩:=I.loc;refine⟨I.ok,I.og,λb r o e=>?_,λb o e=>of (I.base b o e),⟨m,⟨oL,es,ep,k _ _ nl hL,hL2⟩,λi x d b e1 e2 e3=>?_⟩,no I.free (Jb f.l),λx c e=>?_,λq hq=>?_,λb i o e=>I.own _ _ _ (ow e),λa b i o o' e e'=>I.uni _ _ _ _ _ (ow e) (ow e'),I.len,λr o e=>?_⟩
 ·by_cases z:b=c'
  ·subst z;rw[aq]at e;cases e;exact hoc
  ·rw[av z]at e;exact k b o (λw=>by rw[w,mP]at e;cases e) (I.heap _ _ _ e)
 ·obtain⟨u,lk,va⟩:=hl i x d b e1 e2 e3
  exact⟨u,nE lk λc o e=>k c o (nc x c e),va.to (eP f.m) λa o=>of⟩
 ·obtain⟨⟨v,o,h1,h2⟩,h3⟩:=I.cell x c e
  exact⟨⟨v,o,k c o (nc x c e) h1,h2⟩,h3.imp (λz=>no z λw=>f.c x (w▸e)) λ⟨g,o,z⟩=>⟨g,o,of z⟩⟩
 ·obtain⟨h1,qs,h2,h3,h4⟩:=I.tabs q hq
  refine⟨no h1 λw=>f.t q hq w.symm,?_⟩
  by_cases z:q.1=P
  ·obtain rfl:=hTu q hq z
   rw[hps]at h2;cases h2;refine⟨_,htb,by rw[JS];exact TriplesOk_snoc _ _ _ _ h3,λpos' cv e=>?_⟩
   rw[JS]at e
   rcases wc _ h3 e with e|e
   ·obtain⟨c2,o2,v2,t2,z1,z2,z3⟩:=h4 pos' cv e
    exact⟨c2,o2,v2,t2,z1,of z2,z3⟩
   ·exact⟨c',oc,vs,t,e,aq,hd,hv⟩
  ·refine⟨qs,k _ _ z h2,h3,λpos' cv e=>?_⟩
   obtain⟨c2,o2,v2,t2,z1,z2,z3⟩:=h4 pos' cv e;exact⟨c2,o2,v2,t2,z1,of z2,z3⟩
 ·rw[av (Jb f.s)]at e;exact I.sys _ _ e
noncomputable def AA (M:Mp) (s:IB) (f c':IZ) (lq:IX) (params:Nx) (body:Expr) (scope:Lh) (pm ctv:IA):Prop:=s.heap.get? f=U (PySem.W.kla_obj "<lambda>" lq params body scope [] pm c' ctv)/\∃oc vs t,M c'=U (.f,oc)/\oc.data=.fields vs/\vs[1]?=U (.str lq t)
theorem At {E:IA->IB->Prop}{c P:IZ}{lq:IX}{params:Nx}{body:Expr}{scope:Lh}{pos:Ov}{Q:IA->IB->Prop}(I:Inv X M δ s) (hP:(P,lq)∈tb) (hTu:∀q∈tb,q.1=P->q=(P,lq)) (hq:X.env.qual++"<lambda>"=lq)
  (hC:Nl base c P) (hcd:X.env.code=.ref c) (hcl:closureFor scope X.env=pure []) (hdef:defaultsOf params X.env=([],[]))
  (h:∀f c' pm ctv s' M',Ext M M'->Inv X M' δ s'->Free X M' f->AA M' s' f c' lq params body scope pm ctv->Q (.ref f) s'):wpAny (model Md.P w) X.A (eval (.Lambda params body scope pos) X.env) Q E s:=by
 refine PySem.W.kla_eval hdef ?_
 rw[hq];obtain⟨mP,ps,hps,tr,rc⟩:=I.tabs _ hP;have hg:=I.ok.mod.glob.keeps I.bk;have hgP:mainGlobals≠P:=λz=>by
  obtain⟨o,es,ep,e,d,_⟩:=hg;rw[z,hps]at e;cases e;cases d
 obtain⟨bm,ob,b1,b2,b3,b4,b5,b6⟩:=I.ok.mod.bmain;have b3':=I.bk _ _ b3;have hbP:bm≠P:=λz=>by rw[z,hps]at b3';cases b3';cases b4
 have hbG:bm≠mainGlobals:=λz=>by
  obtain⟨o,es,ep,e,d,_⟩:=hg;rw[<-z,b3']at e;cases e;rw[b6]at d;cases d
 cases hf:codeAmong pos ps.toList with
 |none=>
  refine PySem.W.kla_makeFunction (mg:=mg) hcl I.ok.glob hg hcd (hC.keeps I.bk) hps tr hf hgP ⟨bm,ob,b1,b2,hbG,hbP,b3',b4,b5,b6⟩ λc' ctv h' tk hx hge hlt hrec htb=>?_
  obtain⟨c2,oc,vs,t,z,hoc,hd,hv⟩:=hrec;cases z;have I1:=I.grow (t':=tk) hP hTu hps hx hge hoc hd hv htb;have f1:=I1.fresh (IM _);exact h _ c' _ ctv _ _ (fF (I.fresh hge).m) (I1.push (t:=tk)) f1 ⟨IF _ rfl,oc,vs,t,aq,hd,hv⟩
 |some cv=>
  obtain⟨c',oc,vs,t,rfl,o1,o2,o3⟩:=rc pos cv hf;refine PySem.W.kla_makeFunctionHit (mg:=mg) hcl I.ok.glob hg hcd (hC.keeps I.bk) hps tr hf ⟨bm,ob,b1,b2,hbG,hbP,b3',b4,b5,b6⟩ λctv h' tk hk hsz=>?_
  have I1:Inv X M δ {s with heap:=h',toks:=tk}:=I.kp hk
  exact h _ c' _ ctv _ _ Ext.refl (I1.push (t:=tk)) (I1.fresh (IM _)) ⟨IF _ rfl,oc,vs,t,o1,o2,o3⟩
theorem Room.in1 {A:Jj}{k:Nat}(r:Room (k+1) A):Room k A.in1:=⟨r.hd,by have:=r.dp;show A.depth+_+_<_;lia,by have:=r.un;show A.units+1+_+_<_;lia⟩
theorem BF {A:Jj}{E:IA->IB->Prop}{k:Nat}{f c':IZ}{lq x:IX}{params:Nx}{body:Expr}{scope:Lh}{pm ctv:IA}{d y:D}{u:IA}{Q:IA->IB->Prop}{fb:DEnv->Option D}(I:Inv X M δ s) (hr:Room (k+1) A) (L:AA M s f c' lq params body scope pm ctv) (S:FnScope [x] [x] scope)
  (hb:BindsTo s (Nk "<lambda>" lq params body scope [] pm (.ref c') ctv) ⟨[u],[]⟩ [(x,u)]) (r:R Y M d u) (hbody:∀(A:Jj) (L:IZ),Room k (A.deeper (envOfC lq scope L f (.ref c')))->DE (cxF [x] lq scope f (.ref c') A L) Y body fb) (e:fb [U (d,Y)]=U y)
  (h:∀v s' M',Ext M M'->Inv X M' δ s'->R Y M' y v->(∀a o,Free X M a->s.heap.get? a=U o->s'.heap.get? a=U o/\Free X M' a)->Q v s'):wpAny (model P w) A (call (.ref f) [u]) Q E s:=by
 obtain⟨hf,oc,vs,t,e1,e2,e3⟩:=L;have PZ:=I.bas (m:=Y);have rs:Rs Y (cal Y Y M s.heap []) [d] [u]:=.one (r.to oV);have hkind:∀y∈[x].zip [u],scope.names.lookup y.1=U .local\/(scope.names.lookup y.1=U .cell/\((cellsFrom (s.heap.objs.size+1) scope.names []).lookup y.1).isSome=V):=λ⟨n,v⟩ hy=>by
  rcases S.par n (Ox hy).1 with q|q
  ·exact .inl q
  ·exact .inr ⟨q,MU _ _ _ (.inl q)⟩
 refine wpAny_call (PySem.W.kla_callFunE (by have:=hr.dp;lia) hf rfl S.co S.gen rfl ⟨c',oc,vs,t,rfl,I.heap _ _ _ e1,e2,e3⟩ (hb _ _ _ _ ?_))
 refine Pw S.kind hkind λenv he s1 x1=>?_
 subst he;refine⟨(I.ok.mod.nolimit.keeps I.bk).keeps x1.toInCall.keep,PySem.W.kla_codeExpr ?_⟩
 have J:=qh (N:=[x]) (ps:=[x]) (cd:=.ref c') (A:=A) (us:=[u]) (ds:=[d]) S ((hr.deeper _).mono (Jf _)) I.ok.mod PZ rfl rs x1;refine KP ((hbody A _ (hr.deeper _)).ev J (d:=y) e (λv s' M1 x2 J1 r1=>?_:Post _ _ _ _ _ (λu s'=>Q u s'))) (λu s' hz=>hz) λ_ _ z=>z.elim
 obtain⟨I2,sb⟩:=I.ret (ex:=[]) J1 (λ_ z=>nomatch z) (λ_ z=>nomatch z) x2.sx (λa i o z=>absurd z (PZ.own a i o))
 refine h v s' _ th I2 (r1.to sb) λa o fa ha=>?_
 have ca:cal Y Y M s.heap [] a=U (.p,o):=by
  unfold cal;rw[fa.m];dsimp only;rw[if_neg (by rintro(z|⟨q,z1,z2⟩);cases z;exact fa.t q z1 z2),ha];rfl
 exact⟨J1.heap _ _ _ (x2.sx.p _ _ ca),by unfold bak;rw[fa.m];dsimp only;rw[if_pos (by simp[ha])],fa.l,fa.c,fa.t,fa.s⟩
end
end L2
namespace L2
open PySem PySem.Spec PyProof.Rows PySem.W Md
variable[Md]
theorem Rs.order {vs:List IA}(r:Rs m M ds vs):∀(p:List Nat),(∀i∈p,i<ds.length)->Rs m M (p.map λi=>ds.getD i .non) (du vs p)
 |[],_=>rfl
 |i::p,h=>by
  have hi:=h i (IN ..);obtain⟨x,hx,rx⟩:=r.get (i:=i) (d:=ds[i]) (by simp[hi])
  refine⟨_,_,rfl,?_,Rs.order r p λj hj=>h j (IK _ hj)⟩
  show R m M (ds.getD i .non) (vs.getD i Kv);rw[KI,KI,hx,J8 hi]
  exact rx
section
variable{X:Cx}{M M':Mp}{δ:DEnv}{s:IB}{P:PySem.Fin->IB->Prop}{A:Jj}{E:IA->IB->Prop}
theorem zn {kS D:IZ}{kA:Array IA}{e e1:Nat}{vs:List IA}{ks:List Int}(I:Inv X M δ s) (gk:s.heap.get? kS=U (seqObj "list" kA e)) (gD:s.heap.get? D=U (seqObj "list" #[] e1)) (fk:Free X M kS) (fD:Free X M D) (hkD:kS≠D) (hk:IntsAre kA.toList ks) (hl:vs.length=ks.length) (h64:vs.length<5)
  (h:∀h' tk c,Inv X M δ {s with heap:=h',toks:=tk}->h'.get? D=U (seqObj "list" (du vs (rC ks)).toArray c)->P (.done (.ret .none)) {s with heap:=h',toks:=tk}):
  wpAny (model Md.P w) A (ksk_end D Y vs.toArray e1 (.ref kS) kA) P E s:=by
 have hz:(64:Nat)<=sizeLine:=by rw[LC];lia
 have hks:kA.size=vs.length:=by have:=hk.length;rw[JY]at this;lia
 have s1:=Jw s.heap kS (Jc λ_=>(#[]:Array IA))
 have nD1:=(s1.2 D (Jb hkD)).trans gD;have lenO:(du vs (rC ks)).length=vs.length:=by unfold du;rw[IC,(iy (ks:=ks) (by lia)).length_eq,LI];lia
 have tail:∀st:JB,(arrOf st).map (·.2)=(du vs (rC ks)).toArray->failedOf st=B->wpAny (model Md.P w) A (ksk_tail D Y e1 (.ref kS) st) P E s:=by
  intro st es hf;unfold ksk_tail
  try dsimp only
  refine Ix (LN gk rfl ?_ (by rw[hks];lia) (Jf _))
  refine Ix (K0 ?_)
  refine Ix (O5 nD1 rfl ?_)
  rw[es,hf];refine Ix (LN nD1 rfl ?_ (Jf _) (by simp only[IT,if_false];rw[Jm,lenO];lia))
  simp only[bne_self_eq_false,IT,if_false];have s2:=Jw (s.heap.update kS (Jc λ_=>(#[]:Array IA))) D (Jc λ_=>(du vs (rC ks)).toArray)
  refine Iy (h _ s.toks _ (I.wr [kS,D] (λb hb=>?_) λb o hb q=>(s2.2 b (λz=>hb (by simp[z]))).trans ((s1.2 b (λz=>hb (by simp[z]))).trans q)) (Mf nD1 λ_=>(du vs (rC ks)).toArray))
  simp only[Jo,JE,or_false]at hb
  rcases hb with rfl|rfl
  ·exact fk
  ·exact fD
 unfold ksk_end;simp only[IT,if_false]
 by_cases h2:vs.toArray.size<2
 ·rw[if_pos h2,if_pos h2]
  refine tail _ ?_ rfl
  rw[Jm]at h2;have e0:=C4 kA vs.toArray (by simpa using hks)
  rw[e0];unfold rC;rw[if_pos (by lia),<-hl]
  clear tail h lenO e0
  match vs,h2 with
  |[],_=>rfl
  |[v],_=>rfl
 ·rw[if_neg h2,if_neg h2]
  rw[Jm]at h2;have h2':2<=vs.length:=by lia
  have hkk:keyKind' kA=pure oneType':=by
   have e0:kA=kA.toList.toArray:=by simp
   rw[e0];have lk:2<=kA.toList.length:=by rw[JY];lia
   generalize kA.toList=us at hk lk
   match us,hk,lk with
   |v1::v2::r,hk,_=>exact keyKind_ints hk
  rw[hkk];refine Ix (Iy ?_)
  have hkl:kA.toList.length=vs.length:=by rw[JY];exact hks
  have run:=kat_run (prog:=Md.P) (w:=w) (A:=A) (E:=E) (s:=s) (κ:=oneType') (vs:=vs) (ks:=kA.toList) (Q:=λst' s'=>s'=s/\(arrOf st').map (·.2)=(du vs (rC ks)).toArray/\failedOf st'=B)
   (G:=λp s'=>s'=s/\p=EN (ltK ks) (kas_sort vs.length)) hkl h2' (by lia) (λp st' s' hp har hf ⟨e1,e2⟩=>⟨e1,by
    rw[kat_snds hkl har,e2];unfold rC du;rw[if_neg (by lia),<-hl],hf⟩)
   (Cj (λi j C hi hj hC=>by
    obtain⟨t1,q1⟩:=eO hk (i:=i) (by lia)
    obtain⟨t2,q2⟩:=eO hk (i:=j) (by lia)
    unfold kas_ask;rw[q1,q2,keyLt'_oneType];exact oneLt_int hC) _ (vt h64) ⟨rfl,rfl⟩)
  refine Ix (KP run ?_ λ_ _ e=>e)
  rintro st' s' ⟨rfl,q1,q2⟩
  exact tail _ q1 q2
end
section
variable{X:Cx}{M:Mp}{δ:DEnv}{s:IB}{a lbody:Expr}{fa fb:DEnv->Option D}{params:Nx}{lscope:Lh}{lpos kp pos p:Ov}{c P:IZ}{lq x:IX}{k:Nat}{Q:IA->IB->Prop}
theorem tP {l f c':IZ}{vs:List IA}{ds:List D}{ks:List Int}{pm ctv:IA}(hr:Room (k+3) X.A) (I:Inv X M δ s) (q:Rd Y M l o) (t:LstO o vs) (rs:Rs Y M ds vs) (h64:ds.length<5) (hks:kY (λd=>fb [U (d,Y)]) ds=U ks) (ff:Free X M f) (L:AA M s f c' lq params lbody lscope pm ctv) (S:FnScope [x] [x] lscope)
  (hbind:∀(s:IB) (u pm ctv:IA) (c':IZ),BindsTo s (Nk "<lambda>" lq params lbody lscope [] pm (.ref c') ctv) ⟨[u],[]⟩ [(x,u)]) (hb:∀(f c':IZ) (A:Jj) (L:IZ),Room k (A.deeper (envOfC lq lscope L f (.ref c')))->DE (cxF [x] lq lscope f (.ref c') A L) Y lbody fb)
  (h:PostF X M δ (.lst (qK ds ks)) Q):WP X (call (.builtin "sorted") [.ref l] [(JM "key",.ref f)]) Q s:=by
 have hz:(64:Nat)<=sizeLine:=by rw[LC];lia
 have lv:=rs.length;have lk:=qu hks;refine call_function_entry_kw NY NF NG (ksk_s1 _ _) ?_
 refine Ix (m:=checkCount "sorted" 1 1 _) (Iy ?_)
 refine Ix (collect_list (t.is I.heap q) ?_ (by lia))
 refine Ix (Nj ?_ (by lia))
 obtain⟨n1,n2,n3,n4⟩:=wW s.heap vs;rw[n1];show wpAny _ _ _ _ _ {s with heap:=mO s.heap vs}
 generalize mO s.heap vs=g at n2 n3 n4⊢;generalize hD:s.heap.objs.size+1=D at n3⊢;have hDs:s.heap.objs.size<=D:=by lia
 refine Ix (Jg (wpAny_call_entry_kw slot_list_sort ⟨_,n3,rfl⟩ entry_list_sort ?body (ksk_l1 _ _)));rw[ksk_t1];have s1:=Jw g D (Jc λ_=>(#[]:Array IA))
 obtain⟨e1,ho1⟩:∃e1,(g.update D (Jc λ_=>(#[]:Array IA))).get? D=U (seqObj "list" #[] e1):=⟨_,Mf n3 λ_=>#[]⟩
 refine Ix (Mm n3 rfl ?_)
 refine Ix (LN n3 rfl ?_ (by simp;lia) (Jf _))
 refine Ix (O5 ho1 rfl ?_)
 refine Ix (NX ?_ (by show vs.length<=_;lia))
 refine Ix (Nj ?_ (Jf _))
 refine Jg ?_
 have hgD:(g.update D (Jc λ_=>(#[]:Array IA))).objs.size=s.heap.objs.size+2:=by rw[Heap.size_update,n2]
 have hk0:((g.update D (Jc λ_=>(#[]:Array IA))).push (seqObj "tuple" vs.toArray 0)).objs.size=s.heap.objs.size+3:=by rw[size_push',hgD]
 generalize hkS:((g.update D (Jc λ_=>(#[]:Array IA))).push (seqObj "tuple" vs.toArray 0)).objs.size=kS at hk0
 have gk:(((g.update D (Jc λ_=>(#[]:Array IA))).push (seqObj "tuple" vs.toArray 0)).push (seqObj "list" #[] 0)).get? kS=U (seqObj "list" #[] 0):=by rw[<-hkS];exact IF _ rfl
 have gD:(((g.update D (Jc λ_=>(#[]:Array IA))).push (seqObj "tuple" vs.toArray 0)).push (seqObj "list" #[] 0)).get? D=U (seqObj "list" #[] e1):=Iz _ (Iz _ ho1)
 have keep2:∀b o,s.heap.get? b=U o->(((g.update D (Jc λ_=>(#[]:Array IA))).push (seqObj "tuple" vs.toArray 0)).push (seqObj "list" #[] 0)).get? b=U o:=λb o q=>
  Iz _ (Iz _ ((s1.2 b (Ji (Ly (IJ q) hDs))).trans (n4 b o q)))
 generalize hg2:((g.update D (Jc λ_=>(#[]:Array IA))).push (seqObj "tuple" vs.toArray 0)).push (seqObj "list" #[] 0)=g2 at gk gD keep2
 have fk:Free X M kS:=I.fresh (by lia)
 have fD:Free X M D:=I.fresh hDs;have hkD:kS≠D:=λz=>by have:(kS:Nat)=D:=z;lia
 have I1:Inv X M δ {s with heap:=g2}:=I.kp keep2
 refine Ix (Kf ?_)
 rw[List.forIn_toArray];refine Ix (K9 _
  (λrest _ s'=>∃(i:Nat) (kA:Array IA) (c:Nat) (M':Mp),rest=vs.drop i/\i<=vs.length/\IntsAre kA.toList (ks.take i)/\Ext M M'/\Inv X M' δ s'/\(Free X M' kS/\Free X M' D/\Free X M' f)/\s'.heap.get? kS=U (seqObj "list" kA c)/\s'.heap.get? D=U (seqObj "list" #[] e1)/\AA M' s' f c' lq params lbody lscope pm ctv) _ ?step ?fin _ _ ⟨0,#[],0,M,by simp,Jf _,by simpa using IntsAre.nil,Ext.refl,I1,⟨fk,fD,ff⟩,gk,gD,keep2 _ _ L.1,L.2⟩)
 case step=>
  rintro u rest b s' ⟨i,kA,c,M',hr',hi,hki,x',J,⟨fk',fD',ff'⟩,gk',gD',L'⟩
  have hlt:i<vs.length:=by
   rcases Of i vs.length with q|q
   ·exact q
   ·rw[List.drop_eq_nil_of_le q]at hr';cases hr'
  rw[Jr hlt]at hr';obtain⟨rfl,rfl⟩:=Oq hr';have hid:i<ds.length:=by lia
  have hkz:i<ks.length:=by lia
  obtain⟨v,hv,rv⟩:=rs.get (i:=i) (d:=ds[i]) (by simp[hid])
  have hv':vs[i]=v:=by simpa[hlt]using hv
  refine Ix (Ln (KP (BF (Q:=λy s''=>∃M'',Ext M' M''/\Inv X M'' δ s''/\R Y M'' (.int ks[i]) y/\∀a o,Free X M' a->s'.heap.get? a=U o->s''.heap.get? a=U o/\Free X M'' a) (E:=λ_ _=>False) J hr.in1.in1 L' S (hbind _ _ _ _ _) (by rw[hv'];exact rv.up x') (λA L h=>hb _ _ A L h) (rq hks (J8 hid) (J8 hkz)) λv s'' M'' x2 J2 r2 fr=>⟨M'',x2,J2,r2,fr⟩) (λy s'' hz=>?_) λ_ _ hF=>hF.elim))
  obtain⟨M'',x2,J2,⟨t,rfl⟩,fr⟩:=hz;obtain⟨gk2,fk2⟩:=fr _ _ fk' gk';obtain⟨gD2,fD2⟩:=fr _ _ fD' gD';obtain⟨gf2,ff2⟩:=fr _ _ ff' L'.1;have s3:=Jw s''.heap kS (Jc (·.push (.int ks[i] t)))
  have hfk:f≠kS:=λz=>by rw[z]at gf2;cases congrArg Obj.data (J7 (gk2.symm.trans gf2))
  have hsz:kA.size=i:=by have:=hki.length;rw[JY,LV]at this;lia
  refine Ix (LN gk2 rfl ?_ (by rw[hsz];lia) (by show(kA.push _).size<=_;rw[Ot,hsz];lia))
  have J3:Inv X M'' δ {s'' with heap:=s''.heap.update kS (Jc (·.push (.int ks[i] t)))}:=J2.wr [kS] (λb hb=>by rw[List.mem_singleton.mp hb];exact fk2) λb o hb q=>(s3.2 b (λz=>hb (by simp[z]))).trans q
  refine Iy ⟨i+1,kA.push (.int ks[i] t),_,M'',rfl,hlt,?_,x'.trans x2,J3,⟨fk2,fD2,ff2⟩,Mf gk2 (·.push (.int ks[i] t)),(s3.2 D (Jb hkD)).trans gD2,(s3.2 f hfk).trans gf2,?_⟩
  ·rw[Ky,N2 hkz]
   exact hki.append (.cons _ _ .nil)
  ·obtain⟨oc,ws,t,w1,w2⟩:=L'.2
   exact⟨oc,ws,t,(x2 c').elim (λz=>z.trans w1) λz=>(by rw[z.1]at w1;cases w1),w2⟩
 case fin=>
  rintro b s' ⟨i,kA,c,M',hr',hi,hki,x',J,⟨fk',fD',ff'⟩,gk',gD',L'⟩
  obtain rfl:i=vs.length:=by
   rcases Of i vs.length with q|q
   ·rw[Jr q]at hr';cases hr'
   ·lia
  refine Ix (Mm gk' rfl ?_)
  rw[show vs.length=ks.length by lia,List.take_length]at hki
  have hpl:∀i∈rC ks,i<ds.length:=λi hi=>by
   have:=(iy (ks:=ks) (by lia)).mem_iff.mp hi
   rw[List.mem_range]at this;lia
  have rO:=(rs.up x').order (rC ks) hpl;exact zn J gk' gD' fk' fD' hkD hki (by lia) (by lia) λh' tk c J3 g3=>⟨_,rfl,Iy ⟨_,rfl,h D _ _ M' x' J3 fD' g3 ⟨_,⟨by
   rw[<-rO.length,IC,(iy (ks:=ks) (by lia)).length_eq,LI];lia,c,rfl⟩,rO⟩⟩⟩
theorem se (hr:Room (k+3) X.A) (g:Bn X "sorted") (hP:(P,lq)∈tb) (hTu:∀q∈tb,q.1=P->q=(P,lq)) (hq:X.env.qual++"<lambda>"=lq) (hC:Nl base c P) (hcd:X.env.code=.ref c) (hcl:closureFor lscope X.env=pure []) (hdef:defaultsOf params X.env=([],[]))
  (S:FnScope [x] [x] lscope) (hbind:∀(s:IB) (u pm ctv:IA) (c':IZ),BindsTo s (Nk "<lambda>" lq params lbody lscope [] pm (.ref c') ctv) ⟨[u],[]⟩ [(x,u)])
  (hb:∀(f c':IZ) (A:Jj) (L:IZ),Room k (A.deeper (envOfC lq lscope L f (.ref c')))->DE (cxF [x] lq lscope f (.ref c') A L) Y lbody fb) (ha:DE X Y a fa):
  DF X (.Call (.Name "sorted" p) [a] [⟨U "key",.Lambda params lbody lscope lpos,kp⟩] pos) (λδ=>jO (fa δ) λd=>fb [U (d,Y)]):=⟨rfl,λ{M δ s d Q} I e kk=>by
 obtain⟨ds,ks,hfa,hlen,hkey,rfl⟩:=tL e;refine Kg (I.bltn g fx (callWith_kw ((aT ha cL).ev I (ds:=[.lst ds]) (by rw[hfa];rfl) (λvs s1 M1 x1 I1 r=>?_) pos) ?_ ?_ rfl rfl))
 ·obtain⟨v,rfl,r1⟩:=r.is1
  refine Ix (Ix (At I1 hP hTu hq hC hcd hcl hdef λf c' pm ctv s2 M2 x2 I2 ff L=>Ix (Oi (Iy ?_))))
  refine Ix (Jg (Iy (Iy ?_)))
  obtain⟨l,o,vs,rfl,q,t,rs⟩:=r1.up x2;exact tP hr I2 q t rs hlen hkey ff L S hbind hb (PostF.to kk (x1.trans x2))
 ·rw[bB ha.pl];rfl
 ·rw[bB ha.pl];rfl⟩
end
end L2
namespace L2
open PySem PySem.Spec PyProof.Rows Md
section
variable{prog:J9}{w:KB}{A:Jj}{E:IA->IB->Prop}{s:IB}
theorem sn {R:NI->IB->Prop}{l:IZ}{items:Array IA}{n:Nat}{x:IA}{j:Nat}(hj:j<items.size) (hz:items.size<=sizeLine) (hl:s.heap.get? l=U (seqObj "list" items n)) (hit:KW A.in1 s items[j] x V)
  (h:R (.ok (.ret .none)) {s with heap:=s.heap.update l (Jc λxs=>xs.eraseIdxIfInBounds j)}):∀(k i:Nat),j - i=k->i<=j->(∀m (hm:m<items.size),i<=m->m<j->KW A.in1 s items[m] x Y)->
  codeAny (model prog w) A (.builtin "list.remove.loop" ⟨[.ref l,x,rawInt i],[]⟩) R s:=by
 intro k
 induction k with
 |zero=>
  intro i hk hi hno;have e:i=j:=by lia
  subst e;refine Jt Ng ?_
  refine Ix (Mm hl rfl ?_)
  simp only[Kd];rw[JN hj]
  refine Ix (hit prog w _ _ ?_)
  refine Ix (LN hl rfl (Iy h) hz (by show(items.eraseIdxIfInBounds i).size<=_;exact IR (by unfold Array.eraseIdxIfInBounds;split<;>simp[Array.size_eraseIdx]) (LM hz)))
 |succ k ih=>
  intro i hk hi hno;refine Jt Ng ?_
  refine Ix (Mm hl rfl ?_)
  simp only[Kd];have hi':i<items.size:=by lia
  rw[JN hi']
  refine Ix (hno i hi' (IM _) (by lia) prog w _ _ ?_)
  exact Iy ⟨JT Nf _,ih (i+1) (by lia) (by lia) λm hm h1 h2=>hno m hm (by lia) h2⟩
theorem sS {Q:IA->IB->Prop}{l:IZ}{items:Array IA}{n:Nat}{x:IA}{j:Nat}(hj:j<items.size) (hz:items.size<=sizeLine) (hl:s.heap.get? l=U (seqObj "list" items n)) (hit:KW A.in1 s items[j] x V)
  (hno:∀m (hm:m<items.size),m<j->KW A.in1 s items[m] x Y) (h:Q .none {s with heap:=s.heap.update l (Jc λxs=>xs.eraseIdxIfInBounds j)}):wpAny (model prog w) A (call (.builtin "list.remove") [.ref l,x]) Q E s:=by
 refine NH (S:=λA' R s'=>s'=s/\A'=A/\R (.ok (.ret .none)) {s with heap:=s.heap.update l (Jc λxs=>xs.eraseIdxIfInBounds j)}) OK (show s.TypeIs (.ref l) "list" from⟨_,hl,rfl⟩) PySem.F.entry_list_remove (PySem.F.args_list_remove_2 _ _) ?_ ⟨rfl,rfl,h⟩
 rintro prog w A' R s' ⟨rfl,rfl,hR⟩
 exact Iy ⟨JT Nf _,sn hj hz hl hit hR _ 0 rfl (Jf _) λm hm _ h2=>hno m hm h2⟩
end
variable[Md]
theorem Rs.erase:∀{ds vs} (i:Nat),Rs m M ds vs->Rs m M (ds.eraseIdx i) (vs.eraseIdx i)
 |[],_,i,r=>by cases r;rfl
 |d::ds,_,0,⟨x,q,rfl,r1,r2⟩=>r2
 |d::ds,_,i+1,⟨x,q,rfl,r1,r2⟩=>⟨x,_,rfl,r1,Rs.erase i r2⟩
section
variable{X:Cx}{M:Mp}{δ:DEnv}{s:IB}{tg a b:Expr}{fa fb:DEnv->Option D}{m m':Bool}{pos px apos cpos:Ov}
theorem Gv (h:Nm X i x):DI2 X V Y tg (.Name x pos) (λδ=>bA (aV i δ)):=⟨rfl,λ{M δ s ds Q} I e k=>by
 refine L0 (I.load h (aO (kx e)) λv r=>?_) h.d
 obtain⟨c,o,rfl,q,vs,t,rs⟩:=r;exact KO (t.is I.heap (m:=V) ⟨_,q,rfl⟩) (k _ _ _ _ _ Ext.refl (I.push (t:=s.toks)) (qX (m:=V) I.ok.room.hd ⟨_,q,rfl⟩ t rs) ⟨_,IF _ rfl,rfl,rfl⟩ (zQ I))⟩
theorem Bm (h:Nm X i x) (hb:DE X m' b fb):DE X m (.Subscript (.Name x px) b pos) (λδ=>ixO (aV i δ) (fb δ)):=⟨rfl,λ{M δ s d Q} I e k=>by
 obtain⟨x,y,e1,e2,e3⟩:=iP e;split at e3<;>try cases e3
 obtain⟨ds,e4,e5⟩:=ag e3;refine Oo (L0 (I.load h (aO e1) λv r=>hb.ev I e2 λu s2 M2 x2 I2 r2=>?_) h.d)
 obtain⟨c,o,rfl,q,cm⟩:=r;cases x<;>cases e4<;>try exact False.elim cm
 obtain⟨vs,t,rs⟩:=cm;obtain⟨tk,rfl⟩:=r2;obtain⟨v,h1,h2⟩:=(rs.up x2).atI e5;exact Hm.item I2.heap (m:=V) ⟨_,(x2 c).elim (λz=>z.trans q) λz=>(by rw[z.1]at q;cases q),rfl⟩ (.inl t) h1 (vD hb.pl) (k _ _ _ x2 I2 (R.weak h2))⟩
end
end L2
namespace L2.G
open PySem
noncomputable def Ris (xs:List Nat):Prop:=xs.Pairwise (· < ·)
theorem Ris.at {xs:List Nat}(h:Ris xs) {i j:Nat}(hij:i<j) (hj:j<xs.length):xs[i]'(PF hij hj)<xs[j]:=(List.pairwise_iff_getElem.mp h) i j (PF hij hj) hj hij
theorem nO {xs:Array Nat}(h:Ris xs.toList) (j:Nat):∀(fuel lo hi:Nat),hi - lo<=fuel->lo<=hi->hi<=xs.size->(∀i (hi':i<xs.size),i<lo->xs[i]<j)->(∀i (hi':i<xs.size),hi<=i->j<=xs[i])->
  (∀i (hi':i<xs.size),i<Mn xs j fuel lo hi->xs[i]<j)/\(∀i (hi':i<xs.size),Mn xs j fuel lo hi<=i->j<=xs[i])/\Mn xs j fuel lo hi<=xs.size
 |0,lo,hi,h1,h2,h3,h4,h5=>by
  have:lo=hi:=by lia
  subst this
  trivial
 |fuel+1,lo,hi,h1,h2,h3,h4,h5=>by
  unfold Mn
  by_cases hl:lo<hi
  ·rw[if_pos hl]
   have hm1:(lo+hi) / 2<hi:=by lia
   have hm2:lo<=(lo+hi) / 2:=by lia
   have hm:(lo+hi) / 2<xs.size:=by lia
   have hg:xs.getD ((lo+hi) / 2) j=xs[(lo+hi) / 2]:=by simp[OP,hm]
   dsimp only;rw[hg];have mono:∀a b (ha:a<xs.size) (hb:b<xs.size),a<=b->xs[a]<=xs[b]:=λa b ha hb hab=>by
    rcases Nat.lt_or_eq_of_le hab with q|q
    ·have:=Ris.at h q (by trivial)
     simp only[Mr]at this;lia
    ·subst q;exact IM _
   by_cases hq:xs[(lo+hi) / 2]<j
   ·rw[if_pos hq]
    refine nO h j fuel ((lo+hi) / 2+1) hi (by lia) (by lia) h3 (λi hi' q=>?_) h5
    exact Nat.lt_of_le_of_lt (mono i ((lo+hi) / 2) hi' hm (by lia)) hq
   ·rw[if_neg hq]
    refine nO h j fuel lo ((lo+hi) / 2) (by lia) hm2 (by lia) h4 (λi hi' q=>?_)
    exact IR (by lia) (mono ((lo+hi) / 2) i hm hi' q)
  ·rw[if_neg hl]
   have:lo=hi:=by lia
   subst this;exact⟨λi hi' q=>h4 i hi' q,λi hi' q=>h5 i hi' q,h3⟩
theorem gV {xs:Array Nat}(h:Ris xs.toList) (j:Nat):(∀i (hi':i<xs.size),i<Jl xs j->xs[i]<j)/\(∀i (hi':i<xs.size),Jl xs j<=i->j<=xs[i])/\Jl xs j<=xs.size:=
 nO h j xs.size 0 xs.size (by lia) (Jf _) (IM _) (λi _ q=>absurd q (My i)) λi hi' q=>absurd q (by lia)
theorem AH {xs:Array Nat}(h:Ris xs.toList) {i:Nat}(hi:i<xs.size):Jl xs xs[i]=i:=by
 obtain⟨h1,h2,h3⟩:=gV h xs[i]
 rcases MQ (Jl xs xs[i]) i with q|q|q
 ·have hb:Jl xs xs[i]<xs.size:=by lia
  have:=h2 _ hb (IM _);have q2:=Ris.at h q (by trivial)
  simp only[Mr]at q2;lia
 ·exact q
 ·have:=h1 i hi q;lia
theorem v5 {xs:Array Nat}(h:Ris xs.toList) {i:Nat}(hi:i<xs.size):Jl xs (xs[i]+1)=i+1:=by
 obtain⟨h1,h2,h3⟩:=gV h (xs[i]+1)
 rcases MQ (Jl xs (xs[i]+1)) (i+1)with q|q|q
 ·have:=h2 i hi (by lia);lia
 ·exact q
 ·have hb:i+1<xs.size:=by lia
  have:=h1 (i+1) hb q;have q2:=Ris.at h (show i<i+1 by lia) (by trivial)
  simp only[Mr]at q2;lia
theorem wv {xs:Array Nat}(h:Ris xs.toList) {j:Nat}(hj:∀i (hi:i<xs.size),xs[i]≠j):Ris (L6 xs (Jl xs j) j).toList:=by
 obtain⟨h1,h2,h3⟩:=gV h j;rw[MG];generalize Jl xs j=p at h1 h2 h3⊢;unfold Ris;rw[LO,List.pairwise_cons];have ht:∀a∈xs.toList.take p,a<j:=λa ha=>by
  obtain⟨i,hi,rfl⟩:=List.mem_iff_getElem.mp ha;rw[LV]at hi;rw[List.getElem_take];have hi2:i<xs.size:=by have:xs.toList.length=xs.size:=JY;lia
  have:=h1 i hi2 (by lia)
  simpa using this
 have hd:∀a∈xs.toList.drop p,j<a:=λa ha=>by
  obtain⟨i,hi,rfl⟩:=List.mem_iff_getElem.mp ha;rw[List.length_drop]at hi;rw[List.getElem_drop];have hi2:p+i<xs.size:=by have:xs.toList.length=xs.size:=JY;lia
  have:=h2 (p+i) hi2 (by lia)
  have:=hj (p+i) hi2;simp only[Mr];lia
 refine⟨h.sublist (List.take_sublist _ _),⟨hd,h.sublist (List.drop_sublist _ _)⟩,λa ha b hb=>?_⟩
 rcases List.mem_cons.mp hb with rfl|hb
 ·exact ht a ha
 ·exact PF (ht a ha) (hd b hb)
theorem eH {t:Jv}(h:Ris t.place.toList) {i:Nat}(hi:i<t.place.size):t.slot t.place[i]=.live i:=by
 unfold Ou;rw[AH h hi];simp[hi]
theorem vc {t:Jv}(h:Ris t.place.toList) (hd:t.dummies=#[]) {j:Nat}(hj:∀i (hi:i<t.place.size),t.place[i]≠j):t.slot j=.empty:=by
 unfold Ou;dsimp only;have:(t.place[Jl t.place j]?==U j)=Y:=by
  cases q:t.place[Jl t.place j]? with
  |none=>rfl
  |some v=>
   obtain⟨hi,e⟩:=Array.getElem?_eq_some_iff.mp q
   have:=hj _ hi;rw[e]at this
   simpa using this
 rw[this,hd];rfl
set_option tactic.hygienic true in
theorem pR {t:Jv}{j i:Nat}(h:t.slot j=.live i):∃hi:i<t.place.size,t.place[i]=j:=by
 unfold Ou at h;dsimp only at h;split at h
 ·rename_i q
  cases h;obtain⟨hi,e⟩:=Array.getElem?_eq_some_iff.mp (beq_iff_eq.mp q)
  exact⟨hi,e⟩
 ·split at h<;>cases h
end L2.G
namespace L2.G
open PySem
noncomputable def cq (t:Jv):Nat->Kp->Kp
 |0,p=>p
 |n+1,p=>cq t n (t.advance p)
theorem ky (t:Jv) (n:Nat) (p:Kp):cq t (n+1) p=t.advance (cq t n p):=by
 induction n generalizing p with
 |zero=>rfl
 |succ n ih=>show cq t (n+1) (t.advance p)=_;rw[ih];rfl
theorem gX (t:Jv) (m n:Nat) (p:Kp):cq t (m+n) p=cq t n (cq t m p):=by
 induction m generalizing p with
 |zero=>rw[K4];rfl
 |succ m ih=>rw[Nat.succ_add];show cq t (m+n) (t.advance p)=_;rw[ih];rfl
theorem zq (t:Jv) (p:Kp):(t.advance p).dummy=p.dummy:=by
 unfold Mg;split<;>rfl
theorem iY (t:Jv) (n:Nat) (p:Kp):(cq t n p).dummy=p.dummy:=by
 induction n generalizing p with
 |zero=>rfl
 |succ n ih=>show(cq t n (t.advance p)).dummy=_;rw[ih,zq]
theorem zC {t u:Jv}(h:t.mask=u.mask) (p:Kp):t.advance p=u.advance p:=by
 unfold Mg;rw[h]
theorem yk {t u:Jv}(h:t.mask=u.mask) (n:Nat) (p:Kp):cq t n p=cq u n p:=by
 induction n generalizing p with
 |zero=>rfl
 |succ n ih=>show cq t n (t.advance p)=cq u n (u.advance p);rw[zC h,ih]
theorem vO {t u:Jv}(h:t.mask=u.mask) (x:Int):t.probeStart x=u.probeStart x:=by
 unfold Pe;rw[h]
noncomputable def aC (mask:Nat) (h:Int):Nat->Nat×Nat
 |0=>(Kx h%(mask+1),Kx h)
 |m+1=>Nu mask (aC mask h m).1 (aC mask h m).2
noncomputable def ip (mask:Nat) (b:Nat×Nat):Kp:={j:=b.1,more:=Jz mask b.1 - b.1,i:=b.1,perturb:=b.2,dummy:=B}
theorem Cr (mask i:Nat):Jz mask i - i<=9:=by unfold Jz;split<;>lia
theorem n7 (t:Jv):∀(k:Nat) (p:Kp),k<=p.more->cq t k p={p with j:=p.j+k,more:=p.more - k}
 |0,p,_=>rfl
 |k+1,p,h=>by
  show cq t k (t.advance p)=_;have:t.advance p={p with j:=p.j+1,more:=p.more - 1}:=by unfold Mg;rw[if_pos (by lia)]
  rw[this,n7 t k _ (show k<=p.more - 1 by lia)]
  lia
theorem xY (t:Jv) (b:Nat×Nat):cq t (Jz t.mask b.1 - b.1+1) (ip t.mask b)=ip t.mask (Nu t.mask b.1 b.2):=by
 rw[ky,n7 t (Jz t.mask b.1 - b.1) _ (show Jz t.mask b.1 - b.1<=(ip t.mask b).more from IM _)]
 unfold Mg ip;rw[if_neg (by dsimp only;lia)]
theorem yc (t:Jv) (h:Int):∀m:Nat,∃n,n<=10*m/\cq t n (t.probeStart h)=ip t.mask (aC t.mask h m)
 |0=>⟨0,IM _,rfl⟩
 |m+1=>by
  obtain⟨n,hn,e⟩:=yc t h m;have hr:=Cr t.mask (aC t.mask h m).1;refine⟨n+(Jz t.mask (aC t.mask h m).1 - (aC t.mask h m).1+1),by lia,?_⟩
  rw[gX,e,xY];rfl
theorem H5 (mask:Nat) (h:Int):∀m,(aC mask h m).2=Kx h / 32 ^ m
 |0=>by simp[aC]
 |m+1=>by
  show(aC mask h m).2 / 32=_;rw[H5 mask h m,Nat.div_div_eq_div_mul,Oe]
theorem DR (h:Int):Kx h<2 ^ 64:=by unfold Kx;lia
theorem Hv (mask:Nat) (h:Int) (m:Nat):(aC mask h (13+m)).2=0:=by
 rw[H5];apply Nat.div_eq_of_lt;refine Ly (DR h) ?_
 grind
noncomputable def lcg (mask:Nat):Nat->Nat->Nat
 |0,x=>x
 |n+1,x=>(lcg mask n x*5+1)%(mask+1)
theorem uY (mask:Nat) (h:Int) (m:Nat):(aC mask h (13+m)).1=lcg mask m (aC mask h 13).1:=by
 induction m with
 |zero=>rfl
 |succ m ih=>
  show(Nu mask (aC mask h (13+m)).1 (aC mask h (13+m)).2).1=(lcg mask m _*5+1)%(mask+1);rw[Hv,ih];rfl
theorem rQ (mask:Nat) (h:Int):∀m,(aC mask h m).1<mask+1
 |0=>No _ (ME _)
 |m+1=>No _ (ME _)
noncomputable def G0 (mask:Nat):Nat->Nat->List Nat
 |0,_=>[]
 |n+1,x=>x::G0 mask n ((x*5+1)%(mask+1))
theorem qM (mask:Nat):∀n x,lcg mask n ((x*5+1)%(mask+1))=lcg mask (n+1) x
 |0,x=>rfl
 |n+1,x=>by
  show(lcg mask n ((x*5+1)%(mask+1))*5+1)%(mask+1)=(lcg mask (n+1) x*5+1)%(mask+1);rw[qM mask n x]
theorem ui {mask j:Nat}:∀{n x:Nat},j∈G0 mask n x->∃k,k<n/\lcg mask k x=j
 |0,x,h=>by simp[G0]at h
 |n+1,x,h=>by
  rcases List.mem_cons.mp h with rfl|h
  ·exact⟨0,ME _,rfl⟩
  ·obtain⟨k,hk,e⟩:=ui h
   exact⟨k+1,Nat.succ_lt_succ hk,by rw[<-qM];exact e⟩
theorem sQ (mask:Nat) (m n x:Nat):lcg mask (m+n) x=lcg mask m (lcg mask n x):=by
 induction m with
 |zero=>rw[K4];rfl
 |succ m ih=>rw[Nat.succ_add];show(lcg mask (m+n) x*5+1)%(mask+1)=(lcg mask m (lcg mask n x)*5+1)%(mask+1);rw[ih]
noncomputable def sY (mask:Nat):Bool:=let l:=G0 mask (mask+1) 0;((JA (mask+1)).all λj=>l.contains j)&&lcg mask (mask+1) 0==0
theorem Iv:sY 7=V:=by rfl
noncomputable def Msk (mask:Nat):Prop:=mask=7\/mask=31\/mask=127
theorem Msk.cov {mask:Nat}(h:Msk mask):sY mask=V:=by
 rcases h with rfl|rfl|rfl
 ·exact Iv
 ·rfl
 rfl
theorem yD {mask x j:Nat}(h:Msk mask) (hx:x<mask+1) (hj:j<mask+1):∃n,n<mask+1/\lcg mask n x=j:=by
 have hc:=h.cov;unfold sY at hc;rw[II,beq_iff_eq]at hc;have at0:=λy hy=>ui (List.contains_iff_mem.mp (List.all_eq_true.mp hc.1 y (List.mem_range.mpr hy)))
 obtain⟨k0,h0,e0⟩:=at0 x hx;obtain⟨k1,h1,e1⟩:=at0 j hj
 by_cases hk:k0<=k1
 ·refine⟨k1 - k0,by lia,?_⟩
  rw[<-e0,<-sQ,Nat.sub_add_cancel hk,e1]
 ·refine⟨k1+(mask+1) - k0,by lia,?_⟩
  rw[<-e0,<-sQ,Nat.sub_add_cancel (by lia),sQ,hc.2,e1]
theorem Ei {t:Jv}(hm:Msk t.mask) (h:Int) {j:Nat}(hj:j<t.mask+1):∃n,n<10*Ju t.mask/\(cq t n (t.probeStart h)).j=j:=by
 obtain⟨k,hk,e⟩:=yD hm (rQ t.mask h 13) hj;obtain⟨n,hn,en⟩:=yc t h (13+k);refine⟨n,by unfold Ju;lia,?_⟩
 rw[en];show(aC t.mask h (13+k)).1=j;rw[uY,e]
theorem om {t:Jv}{hashAt:Nat->Int}{h:Int}:∀(n fuel:Nat) (p:Kp),n<fuel->(∀m,m<n->∃i,t.slot (cq t m p).j=.live i/\(hashAt i==h)=Y)->
  (t.slot (cq t n p).j=.empty->K2 t hashAt h fuel p=U (.empty (cq t n p).j (cq t n p).dummy))/\
  (∀i,t.slot (cq t n p).j=.live i->(hashAt i==h)=V->K2 t hashAt h fuel p=U (.candidate (cq t n p).j i (t.advance (cq t n p))))
 |0,fuel+1,p,_,_=>by
  refine⟨λe=>?_,λi e q=>?_⟩
  ·unfold K2
   rw[show t.slot p.j=.empty from e]
   rfl
  ·unfold K2
   rw[show t.slot p.j=.live i from e]
   dsimp only;rw[if_pos q];rfl
 |n+1,fuel+1,p,hn,hm=>by
  obtain⟨i,e,q⟩:=hm 0 (ME _);have ih:=om (hashAt:=hashAt) (h:=h) n fuel (t.advance p) (by lia) λm hm'=>hm (m+1) (by lia)
  have e0:K2 t hashAt h (fuel+1) p=K2 t hashAt h fuel (t.advance p):=by
   conv=>lhs;unfold K2
   rw[show t.slot p.j=.live i from e]
   dsimp only;rw[if_neg (by lia)]
  rw[e0];exact ih
end L2.G
namespace L2.G
open PySem
noncomputable abbrev way (t:Jv) (h:Int) (n:Nat):Nat:=(cq t n (t.probeStart h)).j
structure Tab (t:Jv) (hs:List Int):Prop where
 msk:Msk t.mask
 dum:t.dummies=#[]
 len:t.place.size=hs.length
 ris:Ris t.place.toList
 le:∀j∈t.place.toList,j<=t.mask
 rch:∀(i:Nat) h j,hs[i]?=U h->t.place.toList[i]?=U j->∃n,n<10*Ju t.mask/\way t h n=j/\∀m,m<n->∃k,t.slot (way t h m)=.live k
theorem Tab.fresh (f m:Nat) (l:Bool):Tab (Ol f m l) []:=by
 refine⟨.inl rfl,rfl,rfl,Nq,λj hj=>absurd hj (by simp[Ol]),λi h j e=>absurd e (by simp)⟩
theorem Tab.slots {t:Jv}{hs:List Int}(T:Tab t hs) (j:Nat):t.slot j=.empty\/∃k,t.slot j=.live k:=by
 by_cases h:∃i,∃hi:i<t.place.size,t.place[i]=j
 ·obtain⟨i,hi,e⟩:=h
  exact .inr ⟨i,by rw[<-e];exact eH T.ris hi⟩
 ·exact .inl (vc T.ris T.dum λi hi e=>h ⟨i,hi,e⟩)
theorem gap:∀(n:Nat) (xs:List Nat),Ris xs->xs.length=n->∃j,j<=n/\j∉xs
 |n,xs,h,hl=>by
  by_cases q:∀i (hi:i<xs.length),xs[i]=i
  ·refine⟨n,IM _,λm=>?_⟩
   obtain⟨i,hi,e⟩:=List.mem_iff_getElem.mp m;rw[q i hi]at e;lia
  ·have hex:∃i,∃hi:i<xs.length,xs[i]≠i:=by
    obtain⟨i,hi⟩:=Classical.not_forall.mp q;obtain⟨hi,ne⟩:=Classical.not_forall.mp hi;exact⟨i,hi,ne⟩
   obtain⟨i,⟨hi,ne⟩,hmin⟩:∃i,(∃hi:i<xs.length,xs[i]≠i)/\∀k,k<i->¬∃hk:k<xs.length,xs[k]≠k:=by
    obtain⟨i,hi⟩:=hex
    induction i using KN with
    |_ i ih=>
     by_cases z:∃k,k<i/\∃hk:k<xs.length,xs[k]≠k
     ·obtain⟨k,hk,hk2⟩:=z
      exact ih k hk hk2
     ·exact⟨i,hi,λk hk hh=>z ⟨k,hk,hh⟩⟩
   have hlow:=λk hk hki=>KJ λz=>hmin k hki ⟨hk,z⟩
   have hgt:i<xs[i]:=by
    rcases MQ i xs[i]with z|z|z
    ·exact z
    ·exact absurd z.symm ne
    ·have e1:=hlow xs[i] (by lia) z
     have e2:=Ris.at h z hi;rw[e1]at e2;lia
   refine⟨i,by lia,λm=>?_⟩
   obtain⟨k,hk,e⟩:=List.mem_iff_getElem.mp m
   rcases MQ k i with z|z|z
   ·have:=hlow k hk z;lia
   ·subst z;lia
   ·have:=Ris.at h z hk;lia
theorem Gw {P:Nat->Prop}{n:Nat}(h:P n):∃m,m<=n/\P m/\∀k,k<m->¬P k:=by
 induction n using KN with
 |_ n ih=>
  by_cases z:∃k,k<n/\P k
  ·obtain⟨k,hk,pk⟩:=z
   obtain⟨m,hm,r⟩:=ih k hk pk;exact⟨m,by lia,r⟩
  ·exact⟨n,IM _,h,λk hk pk=>z ⟨k,hk,pk⟩⟩
theorem Tab.free {t:Jv}{hs:List Int}(T:Tab t hs) (hf:t.place.size<=t.mask) (h:Int):∃n,n<10*Ju t.mask/\t.slot (way t h n)=.empty/\∀m,m<n->∃k,t.slot (way t h m)=.live k:=by
 obtain⟨j,hj,nj⟩:=gap t.place.size t.place.toList T.ris (by simp)
 obtain⟨n,hn,e⟩:=Ei T.msk h (show j<t.mask+1 by lia)
 have:t.slot (way t h n)=.empty:=by
  show t.slot (cq t n (t.probeStart h)).j=.empty;rw[e];exact vc T.ris T.dum λi hi q=>nj (by rw[<-q];simp)
 obtain⟨m,hm,e1,e2⟩:=Gw (P:=λn=>t.slot (way t h n)=.empty) this
 refine⟨m,by lia,e1,λk hk=>?_⟩
 rcases T.slots (way t h k)with q|q
 ·simp_all
 ·exact q
theorem cJ {t u:Jv}(h:t.mask=u.mask) (x:Int) (n:Nat):way t x n=way u x n:=by
 unfold way;rw[vO h,yk h]
theorem qr {α:Type}(xs:Array α) (p:Nat) (x:α):(L6 xs p x).size=xs.size+1:=by
 have:=(MP xs p x).length_eq
 simpa using this
theorem qa {α:Type}(l:List α) (x:α) {p:Nat}(hp:p<=l.length) (i:Nat):(l.take p++x::l.drop p)[i]?=if i<p then l[i]? else if i=p then U x else l[i - 1]?:=by
 by_cases h1:i<p
 ·rw[if_pos h1,La (by rw[LV];lia),O9 h1]
 ·rw[if_neg h1,MJ (by rw[LV];lia),LV,Nat.min_eq_left hp]
  by_cases h2:i=p
  ·simp_all
  ·rw[if_neg h2]
   obtain⟨d,rfl⟩:∃d,i=p+1+d:=⟨i - p - 1,by lia⟩
   rw[show p+1+d - p=d+1 by lia,L8,List.getElem?_drop]
   congr 1;lia
theorem Tab.put {t:Jv}{hs:List Int}(T:Tab t hs) {h:Int}{n:Nat}(hn:n<10*Ju t.mask) (he:t.slot (way t h n)=.empty) (hw:∀m,m<n->∃k,t.slot (way t h m)=.live k) (hj:way t h n<=t.mask):
  Tab (t.put (way t h n)).1 (hs.take (t.put (way t h n)).2++h::hs.drop (t.put (way t h n)).2)/\(t.put (way t h n)).2<=hs.length:=by
 generalize hJ:way t h n=J at he hj⊢;have nin:∀i (hi:i<t.place.size),t.place[i]≠J:=λi hi q=>by
  rw[<-q,eH T.ris hi]at he;cases he
 have hp:(t.put J).1.place=L6 t.place (Jl t.place J) J:=rfl;have h2:(t.put J).2=Jl t.place J:=rfl;have hpl:(t.put J).1.place.toList=t.place.toList.take (Jl t.place J)++J::t.place.toList.drop (Jl t.place J):=by rw[hp,MG]
 have hd:(t.put J).1.dummies=#[]:=by
  show(if SetTable.has t.dummies J then SetTable.eraseAt t.dummies (Jl t.dummies J) else t.dummies)=#[]
  rw[T.dum];simp[SetTable.has]
 have hr:Ris (t.put J).1.place.toList:=by rw[hp];exact wv T.ris nin
 have ble:=(gV T.ris J).2.2;have keep:∀j,(∃k,t.slot j=.live k)->∃k,(t.put J).1.slot j=.live k:=λj ⟨k,hk⟩=>by
  obtain⟨hi,e⟩:=pR hk;have:j∈(t.put J).1.place.toList:=by
   rw[hp];exact(MP _ _ _).mem_iff.mpr (by rw[<-e];simp)
  obtain⟨i,hi,e⟩:=List.mem_iff_getElem.mp this;have hi':i<(t.put J).1.place.size:=by simpa using hi
  exact⟨i,by rw[<-e];simpa using eH hr hi'⟩
 have em:(t.put J).1.mask=t.mask:=rfl;have hll:=T.len;rw[h2];refine⟨⟨T.msk,hd,?_,hr,?_,?_⟩,by lia⟩
 ·rw[hp,qr]
  simp;lia
 ·intro j hj'
  have:=(MP _ _ _).mem_iff.mp hj';simp only[Ky,Mx,K5]at this
  rcases this with q|q
  ·exact T.le j q
  ·rw[q];exact hj
 ·intro i h' j' e1 e2
  rw[hpl]at e2;rw[qa _ _ (by rw[<-hll];exact ble)]at e1
  rw[qa _ _ (by trivial)]at e2
  have old:∀k,hs[k]?=U h'->t.place.toList[k]?=U j'->∃n,n<10*Ju (t.put J).1.mask/\way (t.put J).1 h' n=j'/\∀m,m<n->∃q,(t.put J).1.slot (way (t.put J).1 h' m)=.live q:=λk q1 q2=>by
   obtain⟨n,a1,a2,a3⟩:=T.rch k h' j' q1 q2;refine⟨n,a1,by rw[cJ em];exact a2,λm hm=>?_⟩
   rw[cJ em];exact keep _ (a3 m hm)
  by_cases z1:i<Jl t.place J
  ·rw[if_pos z1]at e1 e2
   exact old i e1 e2
  ·rw[if_neg z1]at e1 e2
   by_cases z2:i=Jl t.place J
   ·rw[if_pos z2]at e1 e2
    cases e1;cases e2;refine⟨n,hn,by rw[cJ em];exact hJ,λm hm=>?_⟩
    rw[cJ em];exact keep _ (hw m hm)
   ·rw[if_neg z2]at e1 e2
    exact old (i - 1) e1 e2
end L2.G
namespace L2.G
open PySem
noncomputable abbrev d9 (mask:Nat):Jv:={mask:=mask,place:=#[],dummies:=#[],finger:=0,led:=V,moves:=0,plain:=V}
noncomputable abbrev Ax (mask:Nat) (h:Int) (n:Nat):Nat:=way (d9 mask) h n
noncomputable def Own (o:Array (Option Nat)) (j:Nat):Prop:=∃k,o[j]?=U (U k)
theorem xJ {mask i:Nat}(h:i<mask+1):Jz mask i<mask+1:=by unfold Jz;split<;>lia
theorem yu (mask i:Nat):i<=Jz mask i:=by unfold Jz;split<;>lia
theorem F6 (mask:Nat) (b:Nat×Nat) (k:Nat) (hk:k<=Jz mask b.1 - b.1):(cq (d9 mask) k (ip mask b)).j=b.1+k:=by
 rw[n7 (d9 mask) k (ip mask b) hk];rfl
theorem xE {mask:Nat}{o:Array (Option Nat)}(hs:o.size=mask+1) (h:Int):∀(fuel m n:Nat),n<=10*m->cq (d9 mask) n ((d9 mask).probeStart h)=ip mask (aC mask h m)->(∀q,q<n->Own o (Ax mask h q))->
  (∃j n',KQ mask o fuel (aC mask h m).1 (aC mask h m).2=U j/\n'<10*(m+fuel)/\Ax mask h n'=j/\o[j]?=U B/\∀q,q<n'->Own o (Ax mask h q))\/
  (KQ mask o fuel (aC mask h m).1 (aC mask h m).2=B/\∀k,k<fuel->Own o (aC mask h (m+k)).1)
 |0,m,n,_,_,_=>.inr ⟨rfl,λk hk=>absurd hk (My k)⟩
 |fuel+1,m,n,hn,e,hq=>by
  have hb:=rQ mask h m;have hr:=xJ hb;have hg:=yu mask (aC mask h m).1;have h9:=Cr mask (aC mask h m).1;have inb:∀k,k<=Jz mask (aC mask h m).1 - (aC mask h m).1->Ax mask h (n+k)=(aC mask h m).1+k:=λk hk=>by
   show(cq (d9 mask) (n+k) ((d9 mask).probeStart h)).j=_;rw[gX,e,F6 mask _ k hk]
  have own:∀k,k<=Jz mask (aC mask h m).1 - (aC mask h m).1->(o.getD ((aC mask h m).1+k) (U 0)).isNone=Y->Own o ((aC mask h m).1+k):=λk hk q=>by
   have hlt:(aC mask h m).1+k<o.size:=by lia
   have:o.getD ((aC mask h m).1+k) (U 0)=o[(aC mask h m).1+k]:=by simp[OP,hlt]
   cases z:o[(aC mask h m).1+k]with
   |none=>simp_all
   |some v=>exact⟨v,by rw[JN hlt,z]⟩
  unfold KQ;cases hf:(JA (Jz mask (aC mask h m).1+1 - (aC mask h m).1)).find? λk=>(o.getD ((aC mask h m).1+k) (U 0)).isNone with
  |some k=>
   obtain⟨pk,as,bs,eab,hall⟩:=List.find?_eq_some_iff_append.mp hf
   have hkr:k<Jz mask (aC mask h m).1+1 - (aC mask h m).1:=List.mem_range.mp (by simp_all)
   have has:as.length=k:=by
    have h1:(JA (Jz mask (aC mask h m).1+1 - (aC mask h m).1))[as.length]?=U k:=by rw[eab];simp
    have h2:=(List.getElem?_eq_some_iff.mp h1)
    obtain⟨hl,e2⟩:=h2
    simpa using e2
   have hlow:∀q,q<k->(o.getD ((aC mask h m).1+q) (U 0)).isNone=Y:=λq hqk=>by
    have:q∈as:=by
     have h1:(JA (Jz mask (aC mask h m).1+1 - (aC mask h m).1))[q]?=U q:=by rw[List.getElem?_range (by lia)]
     rw[eab,La (by lia)]at h1
     exact Jq h1
    simp_all
   refine .inl ⟨(aC mask h m).1+k,n+k,rfl,by lia,inb k (by lia),?_,λq hqn=>?_⟩
   ·have hlt:(aC mask h m).1+k<o.size:=by lia
    simp_all
   ·by_cases z:q<n
    ·exact hq q z
    ·obtain⟨d,rfl⟩:∃d,q=n+d:=⟨q - n,by lia⟩
     rw[inb d (by lia)]
     exact own d (by lia) (hlow d (by lia))
  |none=>
   have hall:=List.find?_eq_none.mp hf
   have hown:=λk hk=>own k hk (by
    have:=hall k (List.mem_range.mpr (by lia))
    exact Bool.not_eq_true _▸this)
   have hstep:cq (d9 mask) (n+(Jz mask (aC mask h m).1 - (aC mask h m).1+1)) ((d9 mask).probeStart h)=ip mask (aC mask h (m+1)):=by
    rw[gX,e];exact xY (d9 mask) _
   have ih:=xE hs h fuel (m+1) (n+(Jz mask (aC mask h m).1 - (aC mask h m).1+1)) (by lia) hstep λq hqn=>by
    by_cases z:q<n
    ·exact hq q z
    ·obtain⟨d,rfl⟩:∃d,q=n+d:=⟨q - n,by lia⟩
     rw[inb d (by lia)]
     exact hown d (by lia)
   rcases ih with⟨j,n',a1,a2,a3,a4,a5⟩|⟨a1,a2⟩
   ·exact .inl ⟨j,n',a1,by lia,a3,a4,a5⟩
   ·refine .inr ⟨a1,λk hk=>?_⟩
    cases k with
    |zero=>exact hown 0 (by lia)
    |succ k=>
     have:=a2 k (by lia)
     rwa[show m+(k+1)=m+1+k by lia]
theorem EI {mask:Nat}{o:Array (Option Nat)}(hm:Msk mask) (hs:o.size=mask+1) (h:Int) {j:Nat}(hj:j<mask+1) (hfree:o[j]?=U B):
  ∃J n,KQ mask o (Ju mask) (Kx h%(mask+1)) (Kx h)=U J/\n<10*Ju mask/\Ax mask h n=J/\o[J]?=U B/\∀q,q<n->Own o (Ax mask h q):=by
 rcases xE hs h (Ju mask) 0 0 (IM _) rfl (λq hq=>absurd hq (My q))with⟨J,n,a1,a2,a3⟩|⟨a1,a2⟩
 ·exact⟨J,n,a1,by lia,a3⟩
 ·obtain⟨k,hk,e⟩:=yD hm (rQ mask h 13) hj
  obtain⟨v,hv⟩:=a2 (13+k) (by unfold Ju;lia)
  rw[K4,uY,e,hfree]at hv;cases hv
end L2.G
namespace L2.G
open PySem
structure Lain (mask:Nat) (hs:List Int) (o:Array (Option Nat)):Prop where
 sz:o.size=mask+1
 cnt:o.toList.countP (·.isSome)=hs.length
 lt:∀(j:Nat) v,o[j]?=U (U v)->v<hs.length
 inj:∀(j j':Nat) v,o[j]?=U (U v)->o[j']?=U (U v)->j=j'
 at':∀(v:Nat) h,hs[v]?=U h->∃j n,o[j]?=U (U v)/\n<10*Ju mask/\Ax mask h n=j/\∀q,q<n->Own o (Ax mask h q)
theorem Lain.nil (mask:Nat):Lain mask [] (Array.replicate (mask+1) B):=by
 refine⟨by simp,?_,λj v e=>?_,λj j' v e=>?_,λv h e=>by simp at e⟩
 ·simp
 ·simp_all [O2]
 ·simp[O2]
theorem Lain.hole {mask:Nat}{hs:List Int}{o:Array (Option Nat)}(L:Lain mask hs o) (h:hs.length<=mask):∃j,j<mask+1/\o[j]?=U B:=by
 apply KJ;intro hn;have:∀x∈o.toList,x.isSome=V:=λx hx=>by
  obtain⟨i,hi,e⟩:=List.mem_iff_getElem.mp hx;have hi':i<o.size:=by simpa using hi
  cases x with
  |some v=>rfl
  |none=>simp_all [L.sz]
 have e:=List.countP_eq_length.mpr this;have e2:=L.cnt;have e3:=L.sz;rw[e]at e2;simp only[JY]at e2;lia
theorem Lain.step {mask:Nat}{hs:List Int}{o:Array (Option Nat)}(hm:Msk mask) (L:Lain mask hs o) (h:Int) (hl:hs.length<=mask):
  ∃J,KQ mask o (Ju mask) (Kx h%(mask+1)) (Kx h)=U J/\Lain mask (hs++[h]) (o.setIfInBounds J (U hs.length)):=by
 obtain⟨j,hj,hf⟩:=L.hole hl;obtain⟨J,n,a1,a2,a3,a4,a5⟩:=EI hm L.sz h hj hf;obtain⟨hJ,eJ⟩:=Array.getElem?_eq_some_iff.mp a4
 have keep:∀(i:Nat),Own o i->Own (o.setIfInBounds J (U hs.length)) i:=λi ⟨v,hv⟩=>by
  refine⟨v,?_⟩
  rw[Mu,if_neg (by lia)]
  exact hv
 have at0:(o.setIfInBounds J (U hs.length))[J]?=U (U hs.length):=by rw[Mu,if_pos rfl,if_pos hJ]
 have atn:∀i,i≠J->(o.setIfInBounds J (U hs.length))[i]?=o[i]?:=λi hi=>by rw[Mu,if_neg (λe=>hi e.symm)]
 refine⟨J,a1,⟨by simp[L.sz],?_,λi v e=>?_,λi i' v e e'=>?_,λv h' e=>?_⟩⟩
 ·rw[ON,List.countP_set (by trivial),L.cnt]
  simp_all
 ·by_cases z:i=J
  ·rw[z,at0]at e;cases e;simp
  ·rw[atn i z]at e
   have:=L.lt i v e;simp;lia
 ·by_cases z:i=J<;>by_cases z':i'=J
  ·rw[z,z']
  ·rw[z,at0]at e;cases e
   rw[atn i' z']at e';exact absurd (L.lt i' _ e') (JV _)
  ·rw[z',at0]at e';cases e'
   rw[atn i z]at e;exact absurd (L.lt i _ e) (JV _)
  ·rw[atn i z]at e
   rw[atn i' z']at e';exact L.inj i i' v e e'
 ·by_cases z:v<hs.length
  ·rw[La z]at e
   obtain⟨j,n,b1,b2,b3,b4⟩:=L.at' v h' e;refine⟨j,n,?_,b2,b3,λq hq=>keep _ (b4 q hq)⟩
   rw[atn j (by lia)]
   exact b1
  ·have hv:v=hs.length:=by
    have:=(List.getElem?_eq_some_iff.mp e).1
    simp at this;lia
   subst hv;simp at e;subst e;exact⟨J,n,at0,a2,a3,λq hq=>keep _ (a5 q hq)⟩
theorem uu {mask:Nat}(hm:Msk mask):∀(post pre:List Int) (o:Array (Option Nat)),Lain mask pre o->(pre++post).length<=mask->
  ∃o',post.foldl (λ(acc:Option (Array (Option Nat)×Nat)) h=>do
   let (owner,k) <-acc
   let j <-KQ mask owner (Ju mask) (Kx h%(mask+1)) (Kx h)
   pure (owner.setIfInBounds j (U k),k+1)) (U (o,pre.length))=U (o',(pre++post).length)/\Lain mask (pre++post) o'
 |[],pre,o,L,_=>⟨o,by simp,by simpa using L⟩
 |h::post,pre,o,L,hl=>by
  rw[Jy,IU]at hl;obtain⟨J,e,L1⟩:=L.step hm h (by lia)
  obtain⟨o',e',L'⟩:=uu hm post (pre++[h]) _ L1 (by simp;lia)
  simp_all
theorem FP {mask:Nat}(hm:Msk mask) (hs:List Int) (hl:hs.length<=mask):∃o,PB mask hs.toArray=U o/\Lain mask hs o:=by
 obtain⟨o,e,L⟩:=uu hm hs [] _ (Lain.nil mask) (by trivial)
 unfold PB
 simp_all
theorem nC {β:Type}(g:Nat->Option β):∀l:List Nat,(l.filterMap λj=>(g j).map (j,·)).map (·.1)=l.filter λj=>(g j).isSome
 |[]=>rfl
 |x::l=>by
  rw[LZ,List.filter_cons];cases e:g x with
  |none=>simpa using nC g l
  |some v=>simpa using nC g l
theorem nB {β:Type}(g:Nat->Option β):∀l:List Nat,(l.filterMap λj=>(g j).map (j,·)).map (·.2)=l.filterMap g
 |[]=>rfl
 |x::l=>by
  rw[LZ,LZ];cases e:g x with
  |none=>simpa using nB g l
  |some v=>simpa using nB g l
theorem CU {mask:Nat}(hm:Msk mask) (hs:List Int) (hl:hs.length<=mask) (finger moves:Nat) (led plain:Bool):∃t order,SetTable.laid mask finger moves led plain hs.toArray=U (t,order)/\
  order.toList.Perm (JA hs.length)/\Tab t (order.toList.map λi=>hs.getD i 0)/\t.mask=mask/\t.led=led/\t.plain=plain/\t.place.size=hs.length:=by
 obtain⟨o,e,L⟩:=FP hm hs hl;unfold SetTable.laid;rw[e];refine⟨_,_,rfl,?_⟩
 have gd:∀j v,o.getD j B=U v↔o[j]?=U (U v):=λj v=>by
  by_cases h:j<o.size
  ·simp[h]
  ·simp[h]
 generalize hlive:((JA (mask+1)).filterMap λj=>(o.getD j B).map (j,·))=live
 have hf:live.map (·.1)=(JA (mask+1)).filter λj=>(o.getD j B).isSome:=by rw[<-hlive];exact nC (λj=>o.getD j B) _
 have hsn:live.map (·.2)=(JA (mask+1)).filterMap λj=>o.getD j B:=by rw[<-hlive];exact nB (λj=>o.getD j B) _
 have mem:∀j v,(j,v)∈live↔o[j]?=U (U v):=λj v=>by
  rw[<-hlive,List.mem_filterMap];constructor
  ·simp_all
  ·intro h
   refine⟨j,List.mem_range.mpr ?_,by simp_all⟩
   have:=(Array.getElem?_eq_some_iff.mp h).1
   simp_all [L.sz]
 have nd:(live.map (·.2)).Nodup:=by
  rw[hsn];unfold List.Nodup;rw[List.pairwise_filterMap];refine List.Pairwise.imp ?_ (List.nodup_range (n:=mask+1))
  intro a b hab x hx y hy hxy;subst hxy;exact hab (L.inj a b x ((gd a x).mp hx) ((gd b x).mp hy))
 have perm:(live.map (·.2)).Perm (JA hs.length):=by
  refine(MI nd List.nodup_range).mpr λv=>?_
  rw[List.mem_range];constructor
  ·intro h
   obtain⟨⟨j,u⟩,hp,rfl⟩:=List.mem_map.mp h;exact L.lt j u ((mem j u).mp hp)
  ·intro h
   obtain⟨j,n,a1,_⟩:=L.at' v hs[v] (by simp[h])
   exact List.mem_map.mpr ⟨(j,v),(mem j v).mpr a1,rfl⟩
 have ris:Ris (live.map (·.1)):=by
  rw[hf];exact List.Pairwise.filter _ (Pm (n:=mask+1))
 have llen:live.length=hs.length:=by have:=perm.length_eq;simpa using this
 refine⟨by simpa using perm,⟨hm,rfl,?_,by simpa using ris,?_,?_⟩,rfl,rfl,rfl,by simpa using llen⟩
 ·simp
 ·grind
 ·intro i h j e1 e2
  obtain⟨⟨j',v⟩,hp,rfl⟩:∃p,live[i]?=U p/\p.1=j:=by
   rw[Ja]at e2
   cases q:live[i]? with
   |none=>simp_all
   |some p=>simp_all
  have ho:=(mem j' v).mp (Jq hp);have hv:=L.lt j' v ho;have eh:h=hs[v]:=by
   rw[Ja,Ja,hp]at e1
   simp[hv]at e1;exact e1.symm
  subst eh;obtain⟨j2,n,b1,b2,b3,b4⟩:=L.at' v hs[v] (by simp[hv])
  have:j2=j':=L.inj j2 j' v b1 ho;subst this;refine⟨n,b2,?_,λm hm'=>?_⟩
  ·exact(cJ (t:={mask:=mask,place:=(live.map (·.1)).toArray,dummies:=#[],finger:=finger,led:=led,moves:=moves,plain:=plain}) (u:=d9 mask) rfl _ _).trans b3
  ·rw[cJ (t:={mask:=mask,place:=(live.map (·.1)).toArray,dummies:=#[],finger:=finger,led:=led,moves:=moves,plain:=plain}) (u:=d9 mask) rfl]
   obtain⟨u,hu⟩:=b4 m hm';have hmem:Ax mask hs[v] m∈live.map (·.1):=List.mem_map.mpr ⟨(_,u),(mem _ u).mpr hu,rfl⟩
   obtain⟨k,hk,ek⟩:=List.mem_iff_getElem.mp hmem;have hk2:k<((live.map (·.1)).toArray).size:=by simpa using hk
   have:=eH (t:={mask:=mask,place:=(live.map (·.1)).toArray,dummies:=#[],finger:=finger,led:=led,moves:=moves,plain:=plain}) (by simpa using ris) hk2
   simp_all
end L2.G
namespace L2.G
open PySem PySem.Spec PyProof.Rows
theorem Tab.fits {t:Jv}{hs:List Int}(T:Tab t hs) (hf:t.place.size<=t.mask):t.fits hs.length=V:=by
 unfold SetTable.fits SetTable.fill
 simp_all [T.dum,T.len,hf]
theorem Tab.odd {t:Jv}{hs:List Int}(T:Tab t hs):t.gaveWay=Y:=by
 unfold SetTable.gaveWay
 rcases T.msk with h|h|h<;>rw[h]<;>rfl
section
variable{prog:J9}{w:KB}{A:Jj}{E:IA->IB->Prop}{s:IB}{a:IZ}{o:N1}{es:List (Int×IA)}{ep:Nat}{t:Jv}{x:IA}{hx:Int}
theorem lu (ho:s.heap.get? a=U o) (hd:o.data=.set es.toArray ep t) (T:Tab t (es.map (·.1))) (hf:t.place.size<=t.mask) (eqb:IA->Bool) (hrefs:∀e∈es,∃b,e.2=.ref b)
  (heq:∀e∈es,e.1=hx->KW A s e.2 x (eqb e.2)) (hquiet:∀l:List IA,(∀y∈l,∃e∈es,e.2=y)->∀Q:Bool->IB->Prop,Q Y s->wpAny (model prog w) A (searchCouldBeSeen x l) Q E s)
  {Q:SetFound->IB->Prop}{N:Nat}(hN:N<10*Ju t.mask) (hw:∀m,m<N->∃k,t.slot (way t hx m)=.live k)
  (hend:(t.slot (way t hx N)=.empty/\(∀e∈es,e.1=hx->eqb e.2=Y)/\Q (.free (way t hx N) Y) s)\/(∃i e,t.slot (way t hx N)=.live i/\es[i]?=U e/\e.1=hx/\eqb e.2=V)/\Q (.there B) s)
  (hthere:(∃e∈es,e.1=hx/\eqb e.2=V)->Q (.there B) s):
  ∀(fuel m:Nat) (st:Option Kp),m<=N->N - m<fuel->st.getD (t.probeStart hx)=cq t m (t.probeStart hx)->wpAny (model prog w) A (setSearchFrom a x hx V fuel st) Q E s:=by
 intro fuel
 induction fuel with
 |zero=>lia
 |succ fuel ih=>
  intro m st hm hfu hst;have hfit:t.fits es.toArray.size=V:=by simpa using T.fits hf
  refine Ix (Kt ho hd hfit ?_)
  dsimp only;rw[T.odd];simp only[IT,if_false];rw[hst]
  let hashAt:Nat->Int:=λi=>(es.toArray[i]?.map (·.1)).getD 0
  have hat:∀i e,es[i]?=U e->hashAt i=e.1:=λi e h=>by show(es.toArray[i]?.map (·.1)).getD 0=_;simp[h]
  have tellsN:t.slot (way t hx N)=.empty\/∃i,t.slot (way t hx N)=.live i/\(hashAt i==hx)=V:=by
   rcases hend with⟨h,_⟩|⟨⟨i,e,h1,h2,h3,_⟩,_⟩
   ·exact .inl h
   ·exact .inr ⟨i,h1,by rw[hat i e h2,h3];lia⟩
  obtain⟨n,hn,tell,before⟩:=Gw (P:=λk=>t.slot (way t hx (m+k))=.empty\/∃i,t.slot (way t hx (m+k))=.live i/\(hashAt i==hx)=V) (n:=N - m) (by simp_all)
  have hadd:∀k,(cq t k (cq t m (t.probeStart hx))).j=way t hx (m+k):=λk=>by rw[<-gX]
  have live:∀k,k<n->∃i,t.slot (way t hx (m+k))=.live i:=λk hk=>hw (m+k) (by lia)
  obtain⟨go1,go2⟩:=om (t:=t) (hashAt:=hashAt) (h:=hx) n (10*Ju t.mask) (cq t m (t.probeStart hx)) (by lia) λk hk=>by
   obtain⟨i,hi⟩:=live k hk;refine⟨i,by simp_all,?_⟩
   cases q:(hashAt i==hx)with
   |false=>rfl
   |true=>exact absurd (.inr ⟨i,hi,q⟩) (before k hk)
  rw[hadd]at go1 go2;have dum0:(cq t n (cq t m (t.probeStart hx))).dummy=B:=by rw[iY,iY];rfl
  rw[dum0]at go1
  rcases tell with te|⟨i,ti,hi⟩
  ·-- an empty one:it is the last
   have hnN:m+n=N:=by
    rcases Of (m+n) N with z|z
    ·obtain⟨k,hk⟩:=hw (m+n) z;lia
    ·lia
   have hp:∀f:Nat->Int,f=hashAt->t.probe f hx (cq t m (t.probeStart hx))=U (.empty (way t hx (m+n)) B):=λf e=>by rw[e];exact go1 te
   rw[hp]
   rotate_left
   ·rfl
   rcases hend with⟨_,_,h⟩|⟨⟨i,e,h1,_⟩,_⟩
   ·rw[hnN];exact Iy h
   lia
  ·have hp:∀f:Nat->Int,f=hashAt->t.probe f hx (cq t m (t.probeStart hx))=U (.candidate (way t hx (m+n)) i (t.advance (cq t n (cq t m (t.probeStart hx))))):=λf e=>by rw[e];exact go2 i ti hi
   rw[hp]
   rotate_left
   ·rfl
   obtain⟨hil,hpl⟩:=pR ti;have hie:i<es.length:=by have:=T.len;simp at this;lia
   have hes:es[i]?=U es[i]:=by simp[hie]
   have hh:es[i].1=hx:=by
    have:=hat i _ hes;rw[this]at hi;exact beq_iff_eq.mp hi
   have hmem:=Kh hie;obtain⟨b,hb⟩:=hrefs _ hmem;have tail:wpAny (model prog w) A (do
     let U (_,y):=es.toArray[i]?|unsupported "internal:set-entry"
     let equal <-holding [y] (eqBool y x)
     let (es',_,t') <-setState a
     if V&&equal then return .there B
     let U same:=t'.sameMemory t.moves t.mask|unsupported "set.changed-during-lookup:is-the-new-block-at-the-old-address"
     let still <-match(if same then t'.slot (way t hx (m+n)) else .empty)with
      |.live i'=>match es'[i']? with
       |some (_,y')=>do pure (if <-isSame y' y then U i' else B)
       |none=>pure B
      |_=>pure B
     match still with
     |none=>rule "set.search.anew";setSearchFrom a x hx V fuel B
     |some i'=>if equal then return .there (U i') else setSearchFrom a x hx V fuel (U (t.advance (cq t n (cq t m (t.probeStart hx)))))) Q E s:=by
    have e1:es.toArray[i]?=U es[i]:=by simp[hie]
    rw[e1];dsimp only;refine Ix (Jg (heq _ hmem hh _ _ _ _ ?_))
    refine Ix (Kt ho hd hfit ?_)
    dsimp only;cases hq:eqb es[i].2 with
    |true=>
     exact Iy (hthere ⟨_,hmem,hh,hq⟩)
    |false=>
     have sm:t.sameMemory t.moves t.mask=U V:=by unfold SetTable.sameMemory;rw[if_pos (beq_self_eq_true _)]
     rw[sm];simp only[if_true];rw[ti];dsimp only;rw[e1];dsimp only;rw[hb];have e3:isSame (.ref b) (.ref b)=pure V:=by unfold isSame;dsimp only;rw[if_pos (beq_self_eq_true _)]
     rw[e3]
     ·have h1:m+n+1<=N:=by
       rcases Of (m+n) N with z|z
       ·lia
       ·have zN:m+n=N:=by lia
        rcases hend with⟨h,_⟩|⟨⟨i',e,h1,h2,h3,h4⟩,_⟩
        ·lia
        ·lia
      refine ih (m+n+1) _ h1 (by lia) ?_
      simp[gX,ky]
   cases hled:t.led with
   |true=>
    assumption
   |false=>
    refine Ix (hquiet _ (λy hy=>?_) _ ?_)
    ·obtain⟨e,he,rfl⟩:=List.mem_map.mp hy
     refine⟨e,?_,rfl⟩
     have:e∈(es.toArray.filter λz=>z.1==hx).toList:=he
     simp at this;exact this.1
    assumption
end
end L2.G
namespace L2.G
open PySem PySem.Spec PyProof.Rows
noncomputable def SetAt (h:Kl) (a:IZ) (es:List (Int×IA)) (led:Bool):Prop:=
 ∃o ep t,h.get? a=U o/\o.ExactSet/\o.data=.set es.toArray ep t/\Tab t (es.map (·.1))/\t.place.size*5<t.mask*3/\t.led=led
theorem Tab.plain {t:Jv}{hs:List Int}(T:Tab t hs) (b:Bool):Tab {t with plain:=b} hs:=by
 refine⟨T.msk,T.dum,T.len,T.ris,T.le,λi h j e1 e2=>?_⟩
 obtain⟨n,a1,a2,a3⟩:=T.rch i h j e1 e2;refine⟨n,a1,(cJ (t:={t with plain:=b}) (u:=t) rfl _ _).trans a2,λm hm=>?_⟩
 rw[cJ (t:={t with plain:=b}) (u:=t) rfl]
 exact a3 m hm
theorem vg {es:List (Int×IA)}{order:List Nat}(h:order.Perm (JA es.length)):(order.filterMap (es[·]?)).Perm es/\(order.filterMap (es[·]?)).map (·.1)=order.map λi=>(es.map (·.1)).getD i 0:=by
 constructor
 ·have h1:=h.filterMap (es[·]?)
  simp_all [List.filterMap_getElem?_range_length]
 ·have hl:∀i∈order,i<es.length:=λi hi=>List.mem_range.mp (h.mem_iff.mp hi)
  clear h
  induction order with
  |nil=>rfl
  |cons i order ih=>
   simp_all
section
variable{prog:J9}{w:KB}{A:Jj}{E:IA->IB->Prop}{s:IB}{a:IZ}
theorem Aq (a:IZ) (wanted:Nat):setRelay a wanted=(do
  let (es,_,t) <-setState a
  if Nz wanted>sizeLine then unsupported "set:memory"
  let (es,t) <-(do
   let U (t,order):=t.relaid (es.map (·.1)) wanted|unsupported "internal:set-table-without-room"
   let es':=order.filterMap (es[·]?)
   if es'.size != es.size then unsupported "internal:set-table-lost-an-element"
   pure (es',t))
  storeSet a es t):=rfl
theorem gU {h:Kl}{o:N1}{es es':Array (Int×IA)}{ep:Nat}{t t':Jv}(ho:h.get? a=U o) (hd:o.data=.set es ep t):(h.update a (Mo es' t')).get? a=U {o with data:=.set es' (ep+1) t'}:=by
 have:=IY (Mo es' t') ho (by rw[putSet_of es' t' hd];rfl)
 rw[putSet_of es' t' hd]at this;exact this
theorem Fv {t:Jv}{p:Kp}(h:p.j+p.more<=t.mask):(t.advance p).j+(t.advance p).more<=t.mask:=by
 unfold Mg;split
 ·dsimp only;lia
 ·unfold Nu
  dsimp only;have h1:(p.i*5+1+p.perturb / 32)%(t.mask+1)<t.mask+1:=No _ (ME _);have:=xJ h1;have:=yu t.mask ((p.i*5+1+p.perturb / 32)%(t.mask+1));lia
theorem FL (t:Jv) (hx:Int) (n:Nat):∃m,m<=t.mask/\way t hx n=m:=by
 have:∀n,(cq t n (t.probeStart hx)).j+(cq t n (t.probeStart hx)).more<=t.mask:=λn=>by
  induction n with
  |zero=>
   show(t.probeStart hx).j+(t.probeStart hx).more<=t.mask;unfold Pe;dsimp only;have h1:Kx hx%(t.mask+1)<t.mask+1:=No _ (ME _);have:=xJ h1;have:=yu t.mask (Kx hx%(t.mask+1));lia
  |succ n ih=>rw[ky];exact Fv ih
 exact⟨_,by have:=this n;show(cq t n (t.probeStart hx)).j<=t.mask;lia,rfl⟩
theorem uB {es:List (Int×IA)}(T:Tab t (es.map (·.1))) (hg:t.mask*3<=es.length*5) (hl:es.length*5<t.mask*3+5) (h76:es.length<=76):∃(es2:List (Int×IA)) (t2:Jv) (order:Array Nat),t.relaid (es.toArray.map (·.1)) (KR es.length)=U (t2,order)/\Nz (KR es.length)<=128/\
  order.filterMap (es.toArray[·]?)=es2.toArray/\order.toList.Perm (JA es.length)/\es2.Perm es/\Tab t2 (es2.map (·.1))/\t2.place.size*5<t2.mask*3/\t2.led=t.led:=by
 obtain⟨m,e2,e3,e4⟩:∃m,Nz (KR es.length)=m+1/\Msk m/\es.length*5<m*3:=by
  rcases T.msk with z|z|z
  ·have h5:es.length=5:=by lia
   exact⟨31,by rw[h5];decide,.inr (.inl rfl),by lia⟩
  ·have h5:es.length=19:=by lia
   exact⟨127,by rw[h5];decide,.inr (.inr rfl),by lia⟩
  ·lia
 obtain⟨t',order,q1,q2,q3,q4,q5,q6,q7⟩:=CU e3 (es.map (·.1)) (by simp;lia) t.finger (t.movedTo m) t.led t.plain
 rw[IC]at q2 q7;obtain⟨p1,p2⟩:=vg q2;refine⟨order.toList.filterMap (es[·]?),t',order,?_,by rcases e3 with h|h|h<;>lia,by apply Array.ext';simp,q2,p1,by rw[p2];exact q3,by rw[q7,q4];exact e4,q5⟩
 unfold SetTable.relaid
 simp_all
theorem BK (ho:s.heap.get? a=U o) (hex:o.ExactSet) (hd:o.data=.set es.toArray ep t) (T:Tab t (es.map (·.1))) (hf:t.place.size<=t.mask) (hg:t.mask*3<=es.length*5) (hl:es.length*5<t.mask*3+5) (h76:es.length<=76) (h:∀es' t',es'.Perm es->SetAt (s.heap.update a (Mo es'.toArray t')) a es' t.led->Q () {s with heap:=s.heap.update a (Mo es'.toArray t')}):
  wpAny (model prog w) A (setRelay a (KR es.length)) Q E s:=by
 obtain⟨es2,t2,order,e1,e2,e3,e4,p1,e5,e6,e7⟩:=uB T hg hl h76;have hlen:=p1.length_eq;rw[Aq];refine Ix (Kt ho hd (by simpa using T.fits hf) ?_)
 dsimp only;rw[if_neg (by rw[LC];lia),e1]
 dsimp only;rw[e3,show(es2.toArray.size != es.toArray.size)=Y by simp[hlen]]
 exact Ix (Iy (Na ho hd (h _ t2 p1 ⟨_,ep+1,t2,gU ho hd,hex,rfl,e5,e6,e7⟩) (by rw[LC];simp[hlen];lia)))
theorem xX {es:List (Int×IA)}(T:Tab t (es.map (·.1))) (hn:n<10*Ju t.mask) (he:t.slot (way t hx n)=.empty) (hw:∀m,m<n->∃k,t.slot (way t hx m)=.live k) (x:IA):∃(t1:Jv) (p:Nat) (es1:List (Int×IA)),t.put (way t hx n)=(t1,p)/\t1.mask=t.mask/\t1.led=t.led/\
  L6 es.toArray p (hx,x)=es1.toArray/\es1.Perm ((hx,x)::es)/\Tab t1 (es1.map (·.1)):=by
 obtain⟨m,hm,e⟩:=FL t hx n;refine⟨_,_,es.take _++(hx,x)::es.drop _,rfl,rfl,rfl,Array.ext' (by rw[MG]),?_,?_⟩
 ·have:=List.perm_middle (a:=(hx,x)) (l₁:=es.take (t.put (way t hx n)).2) (l₂:=es.drop (t.put (way t hx n)).2)
  rwa[K6]at this
 ·rw[Jd,IG,NP,NQ];exact(T.put hn he hw (by lia)).1
theorem Tab.full (T:Tab t hs):t.tooFull=decide (t.place.size*5>=t.mask*3):=by
 unfold SetTable.tooFull SetTable.fill;rw[T.dum];rfl
theorem AJ {o:N1}{es:List (Int×IA)}{ep:Nat}{t:Jv}{x:IA}{hx:Int}{n:Nat}{Q:Bool->IB->Prop}(ho:s.heap.get? a=U o) (hex:o.ExactSet) (hd:o.data=.set es.toArray ep t) (T:Tab t (es.map (·.1)))
  (hf:t.place.size*5<t.mask*3) (h75:es.length<=75) (hn:n<10*Ju t.mask) (he:t.slot (way t hx n)=.empty) (hw:∀m,m<n->∃k,t.slot (way t hx m)=.live k)
  (hbv:∀R:Bool->IB->Prop,(∀b,R b s)->wpAny (model prog w) A (hashByValue 8 x) R E s) {J:Nat}(hJ:way t hx n=J)
  (h:∀h' es',JX a s.heap h'->es'.Perm ((hx,x)::es)->SetAt h' a es' t.led->Q V {s with heap:=h'}):
  wpAny (model prog w) A (do
   let (es,_,t) <-setState a
   let (t,p):=t.put J
   let byValue <-if t.plain then hashByValue 8 x else pure V
   let t:=if byValue then t else{t with plain:=Y}
   storeSet a (L6 es p (hx,x)) t
   if !Y&&t.tooFull then setRelay a (KR (es.size+1))
   return V) Q E s:=by
 subst hJ;have hl:=T.len;rw[IC]at hl;refine Ix (Kt ho hd (by simpa using T.fits (by lia)) ?_)
 dsimp only;obtain⟨t1,p,es1,ep1,hm1,hl1,ei,eperm,T1⟩:=xX T hn he hw x;have elen:=eperm.length_eq;rw[IU]at elen;rw[ep1];dsimp only;rw[ei];have core:∀tb:Jv,Tab tb (es1.map (·.1))->tb.mask=t.mask->tb.led=t.led->wpAny (model prog w) A (do
   storeSet a es1.toArray tb
   if(!Y&&tb.tooFull)=V then do
     setRelay a (KR (es.toArray.size+1))
     pure V
    else pure V) Q E s:=λtb Tb mb lb=>by
  have plb:=Tb.len;rw[IC]at plb;refine Ix (Na ho hd ?_ (by rw[LC];simp[elen];lia))
  have hst:=gU (es':=es1.toArray) (t':=tb) ho hd;have hsb:JX a s.heap (s.heap.update a (Mo es1.toArray tb)):=Jw s.heap a _;have tf:=Tb.full;cases hfull:tb.tooFull with
  |false=>
   rw[hfull]at tf;have:=of_decide_eq_false tf.symm;exact Iy (h _ es1 hsb eperm ⟨_,ep+1,tb,hst,hex,rfl,Tb,by lia,lb⟩)
  |true=>
   rw[hfull]at tf;have hge:=of_decide_eq_true tf.symm;rw[Jm,<-elen];refine Ix (BK (s:={s with heap:=s.heap.update a (Mo es1.toArray tb)}) (o:={o with data:=.set es1.toArray (ep+1) tb}) hst hex rfl Tb (by lia) (by lia) (by lia) (by lia) λes2 t2 p2 S2=>?_)
   rw[lb]at S2;exact Iy (h _ es2 (hsb.trans (Jw _ a _)) (p2.trans eperm) S2)
 cases hpl:t1.plain with
 |true=>
  exact Ix (hbv _ λb=>by cases b;exact core _ (T1.plain Y) hm1 hl1;exact core _ T1 hm1 hl1)
 |false=>
  simp only[IT,if_false];exact Ix (Iy (core _ T1 hm1 hl1))
end
end L2.G
namespace L2.G
open PySem PySem.Spec PyProof.Rows
section
variable{prog:J9}{w:KB}{A:Jj}{E:IA->IB->Prop}{s:IB}{a:IZ}
theorem Dl {es:List (Int×IA)}{led:Bool}{b:IZ}{hx:Int}{Q:Bool->IB->Prop}(S:SetAt s.heap a es led) (h75:es.length<=75) (eqb:IA->Bool) (hrefs:∀e∈es,∃b,e.2=.ref b)
  (heq:∀e∈es,e.1=hx->KW A s e.2 (.ref b) (eqb e.2)) (himp:∀e∈es,eqb e.2=V->e.1=hx)
  (hquiet:∀l:List IA,(∀y∈l,∃e∈es,e.2=y)->∀Q:Bool->IB->Prop,Q Y s->wpAny (model prog w) A (searchCouldBeSeen (.ref b) l) Q E s)
  (hbv:∀R:Bool->IB->Prop,(∀b,R b s)->wpAny (model prog w) A (hashByValue 8 (.ref b)) R E s)
  (h1:(∃e∈es,eqb e.2=V)->Q Y s)
  (h2:(∀e∈es,eqb e.2=Y)->∀h' es',JX a s.heap h'->es'.Perm ((hx,.ref b)::es)->SetAt h' a es' led->Q V {s with heap:=h'}):
  wpAny (model prog w) A (setAddHashed a (.ref b) hx) Q E s:=by
 obtain⟨o,ep,t,ho,hex,hd,T,hf,hled⟩:=S;have hl:=T.len;rw[IC]at hl;have hfm:t.place.size<=t.mask:=by lia
 have hfit:t.fits es.toArray.size=V:=by simpa using T.fits hfm
 refine Jg (Ix (Kt ho hd hfit ?_))
 dsimp only;have hbs:byScan (.ref b) es.toArray=Y:=by unfold byScan Value.scannable;rfl
 by_cases hyes:∃e∈es,eqb e.2=V
 ·obtain⟨e,hem,heb⟩:=hyes
  obtain⟨i,hi,rfl⟩:=List.mem_iff_getElem.mp hem;have hh:=himp _ hem heb;have hip:i<t.place.size:=by lia
  obtain⟨N,n1,n2,n3⟩:=T.rch i es[i].1 t.place[i] (by simp[hi]) (by simp[hip])
  rw[hh]at n2 n3;refine Ix (lu ho hd T hfm eqb hrefs heq hquiet n1 n3 (.inr ⟨⟨i,es[i],by rw[n2];exact eH T.ris hip,by simp[hi],hh,heb⟩,?_⟩) (λ_=>?_) 100000 0 B (Jf _) ?_ rfl)
  ·exact Iy (h1 ⟨_,hem,heb⟩)
  ·exact Iy (h1 ⟨_,hem,heb⟩)
  ·have:Ju t.mask<=142:=by unfold Ju;rcases T.msk with z|z|z<;>lia
   lia
 ·have hno:∀e∈es,eqb e.2=Y:=λe he=>by
   grind
  obtain⟨N,n1,n2,n3⟩:=T.free hfm hx;refine Ix (lu ho hd T hfm eqb hrefs heq hquiet n1 n3 (.inl ⟨n2,λe he _=>hno e he,?_⟩) (λ⟨e,he,_,q⟩=>absurd ⟨e,he,q⟩ hyes) 100000 0 B (Jf _) ?_ rfl)
  ·exact AJ ho hex hd T hf h75 n1 n2 n3 hbv rfl λh' es' k p S'=>h2 hno h' es' k p (hled▸S')
  ·have:Ju t.mask<=142:=by unfold Ju;rcases T.msk with z|z|z<;>lia
   lia
theorem sq {t:Jv}{hs:List Int}(T:Tab t hs) {hx:Int}{n:Nat}(hn:n<10*Ju t.mask) (he:t.slot (way t hx n)=.empty) (hw:∀m,m<n->∃k,t.slot (way t hx m)=.live k):
  t.freeSlot hx=U (way t hx n,Y):=by
 unfold SetTable.freeSlot;have:=(om (t:=t) (hashAt:=λ_=>hx+1) (h:=hx) n (10*Ju t.mask) (t.probeStart hx) hn λm hm=>by
  grind).1 he
 have e:t.probe (λ_=>hx+1) hx (t.probeStart hx)=U (.empty (way t hx n) B):=by
  unfold SetTable.probe;rw[this,iY];rfl
 rw[e];rfl
theorem A3 {es:List (Int×IA)}{led:Bool}{K:Type}[DecidableEq K] {knd:KeyKind prog w K}{k:K}{x:IA}{Q:Bool->IB->Prop}(S:SetAt s.heap a es led) (h75:es.length<=75) (hkey:knd.is k x=V) (hsc:x.scannable=V) (hel:ElemsOf knd es)
  (h1:(∃e∈es,knd.is k e.2=V)->Q Y s)
  (h2:(∀e∈es,knd.is k e.2=Y)->∀h' es',JX a s.heap h'->es'.Perm ((knd.hash k,x)::es)->SetAt h' a es' led->Q V {s with heap:=h'}):
  wpAny (model prog w) A (setAddHashed a x (knd.hash k)) Q E s:=by
 obtain⟨o,ep,t,ho,hex,hd,T,hf,hled⟩:=S;have hl:=T.len;rw[IC]at hl;have hfm:t.place.size<=t.mask:=by lia
 have hfit:t.fits es.toArray.size=V:=by simpa using T.fits hfm
 have hel':ElemsOf knd es.toArray.toList:=by simpa using hel
 unfold setAddHashed setAddHashedIn;refine Jg (Ix (Kt ho hd hfit ?_))
 dsimp only;rw[byScan_of hsc (by unfold scanBound;simp;lia) hel']
 simp only[↓reduceIte];unfold setAddByScan;refine Ix ?_
 refine Ix (Kf ?_)
 refine Ix (wpAny_setScan_of hkey ho hd hfit hel' ?_)
 cases hr:List.findIdx? (λe=>knd.is k e.2) es.toArray.toList with
 |some j=>
  dsimp only;obtain⟨hj,hpj,_⟩:=List.findIdx?_eq_some_iff_getElem.mp hr
  refine Iy (Iy (h1 ⟨es[j]'(by simpa using hj),Kh _,by simpa using hpj⟩))
 |none=>
  dsimp only;have hno:=λe he=>List.findIdx?_eq_none_iff.mp hr e (by simpa using he)
  obtain⟨n,n1,n2,n3⟩:=T.free hfm (knd.hash k);generalize hhx:knd.hash k=hx at n1 n2 n3 h2⊢;obtain⟨t1,p,es1,ep1,hm1,hl1,ei,eperm,T1⟩:=xX T n1 n2 n3 x;have elen:=eperm.length_eq;rw[IU]at elen;have pl1:=T1.len;rw[IC]at pl1;have elay:layNew t es.toArray hx x=(es1.toArray,t1,Y,Y):=by
   unfold layNew;rw[sq T n1 n2 n3];dsimp only;rw[ep1];dsimp only;rw[ei];unfold SetTable.orStandIn;rw[show t1.fits es1.toArray.size=V by simpa using T1.fits (by lia)]
   rfl
  rw[elay];dsimp only;refine Ix (Iy ?_)
  have core:∀tb:Jv,Tab tb (es1.map (·.1))->tb.mask=t.mask->tb.led=t.led->wpAny (model prog w) A (do
    storeSet a es1.toArray tb
    if(!Y&&tb.tooFull)=V then do
      (match(relayAll tb es1.toArray (KR es1.toArray.size)).2.2 with|true=>rule "set.scan.the-table-gave-way"|false=>pure ())
      storeSet a (relayAll tb es1.toArray (KR es1.toArray.size)).1 (relayAll tb es1.toArray (KR es1.toArray.size)).2.1
      pure (U V)
     else pure (U V)) (λr s'=>wpAny (model prog w) A (match r with|some added=>pure added|none=>setAddHashedIn a x hx 99999) Q E s') E s:=λtb Tb mb lb=>by
   have plb:=Tb.len;rw[IC]at plb;refine Ix (Na ho hd ?_ (by rw[LC];simp[elen];lia))
   have hst:=gU (es':=es1.toArray) (t':=tb) ho hd;have hsb:JX a s.heap (s.heap.update a (Mo es1.toArray tb)):=Jw s.heap a _;have tf:=Tb.full;cases hfull:tb.tooFull with
   |false=>
    simp only[Ll,OU,IT,if_false];rw[hfull]at tf;have:=of_decide_eq_false tf.symm;exact Iy (Iy (h2 hno _ es1 hsb eperm ⟨_,ep+1,tb,hst,hex,rfl,Tb,by lia,lb.trans hled⟩))
   |true=>
    simp only[Ll,Li,if_true];rw[hfull]at tf;have hge:=of_decide_eq_true tf.symm;obtain⟨es2,t2,order,e1,e2,e3,e4,p1,e5,e6,e7⟩:=uB Tb (by lia) (by lia) (by lia)
    have c2:=e5.fits (by lia)
    rw[IC]at c2;have er:relayAll tb es1.toArray (KR es1.toArray.size)=(es2.toArray,t2,Y):=by
     unfold relayAll;rw[Jm,e1];dsimp only;rw[e3,show coversAll order es1.length=V by unfold coversAll;rw[List.isPerm_iff];exact e4,show t2.fits es2.toArray.size=V by simpa using c2]
     rfl
    rw[er];refine Ix (Iy ?_)
    refine Ix (Na (s:={s with heap:=s.heap.update a (Mo es1.toArray tb)}) (o:={o with data:=.set es1.toArray (ep+1) tb}) hst rfl ?_ (by rw[LC];have:=p1.length_eq;simp[this,elen];lia))
    exact Iy (Iy (h2 hno _ es2 (hsb.trans (Jw _ a _)) (p1.trans eperm) ⟨_,ep+2,t2,gU (o:={o with data:=.set es1.toArray (ep+1) tb}) hst rfl,hex,rfl,e5,e6,e7.trans (lb.trans hled)⟩))
  split
  ·refine Ix ?_
   rw[hashByValue_scannable 8 hsc];refine Iy ?_
   cases plainKind x with
   |true=>exact core _ T1 hm1 hl1
   |false=>exact core _ (T1.plain Y) hm1 hl1
  ·exact Ix (Iy (core _ T1 hm1 hl1))
end
end L2.G
namespace L2.G
open PySem PySem.Spec PyProof.Rows
noncomputable abbrev fW (w:KB):Bool:=!w.params.followText "set-order"
noncomputable abbrev gw (led:Bool):N1:={cls:=.type "set",dict:=B,data:=.set #[] 0 (.fresh 0 0 led)}
section
variable{prog:J9}{w:KB}{A:Jj}{E:IA->IB->Prop}{s:IB}
theorem qL (a:IA) {Q₁:IA->IB->Prop}(h:Q₁ (.ref s.heap.objs.size) {s with heap:=s.heap.push (gw (fW w))}):
  codeAny (model prog w) A (.call (.builtin "set.__new__") ⟨[.type "set",a],[]⟩) (wants Q₁ E) s:=by
 refine codeAny_of_tree ?_
 refine Ix (MD (F.newCall_set_1 a) (Iy ⟨JT F.plain_set_new _,Jt F.entry_set_new ?_⟩))
 unfold L5.«set.__new__» Builtin.Frozenset.newClass;have hsub:=sub_set_self
 wp_walk
 refine OW (Iy ?_)
 refine Ix (wpAny_alloc (Iy ?_))
 exact Iy h
end
end L2.G
namespace L2.G
open PySem PySem.Spec PyProof.Rows
theorem aB:Slot "set_iterator" "__next__" "set_iterator.__next__":=
 .of (owner:="set_iterator") (n:="__next__") (by rfl) (by rfl) (by rfl) (by rfl)
  (by trivial) (by rfl)
theorem b9:entryFor table "set_iterator.__next__"=U L5.«set_iterator.__next__»:=entryFor_of_tree (by kernel_rfl)
theorem je:Slot "set_iterator" "__iter__" "set_iterator.__iter__":=
 .of (owner:="set_iterator") (n:="__iter__") (by rfl) (by rfl) (by rfl) (by rfl)
  (by trivial) (by rfl)
theorem nU:entryFor table "set_iterator.__iter__"=U L5.«dict_keyiterator.__iter__»:=
 entryFor_alias (id':="dict_keyiterator.__iter__") (by kernel_rfl) rfl (by decide +kernel) (by kernel_rfl)
theorem kE:entryFor table "set.__iter__"=U L5.«frozenset.__iter__»:=
 entryFor_alias (id':="frozenset.__iter__") (by kernel_rfl) rfl (by decide +kernel) (by kernel_rfl)
theorem cM (a:IA):argsOk "set_iterator.__next__" ⟨[a],[]⟩:=by
 rfl
theorem qx (a:IA):argsOk "set_iterator.__iter__" ⟨[a],[]⟩:=by
 rfl
theorem da {α:Type}{l:List α}{i:Nat}(h:i<l.length):(l[i]::l.eraseIdx i).Perm l:=by
 rw[Ml];refine List.perm_middle.symm.trans ?_
 rw[<-Jr h,K6]
theorem mU {prog:J9}{w:KB}{A:Jj}{E:IA->IB->Prop}{α:Type}:∀(n:Nat) (xs:List α) (s:IB) (Q:List α->IB->Prop),xs.length=n->
  (∀ys d,ys.Perm xs->Q ys {s with drawn:=d})->wpAny (model prog w) A (drawOrder n xs) Q E s
 |0,xs,s,Q,hl,hQ=>by
  have:xs=[]:=List.length_eq_zero_iff.mp hl;subst this;unfold drawOrder;exact Iy (hQ [] s.drawn (Lg _))
 |n+1,[],s,Q,hl,hQ=>by cases hl
 |n+1,x::xs,s,Q,hl,hQ=>by
  unfold drawOrder;refine Ix (Q:=Q) ?_
  intro Γ p hΓ;refine⟨by simp,?_⟩
  generalize hd:s.drawn.bump .order=d1;generalize hi:(model prog w).w.draws .order (s.drawn.get .order)%(x::xs).length=i;have hlt:i<(x::xs).length:=by rw[<-hi];exact No _ (by simp)
  have key:wpAny (model prog w) A (match(x::xs)[i]? with|some y=>(do return y::(<-drawOrder n ((x::xs).eraseIdx i)))|none=>unsupported "internal:drawOrder") Q E {s with drawn:=d1}:=by
   rw[J8 hlt]
   dsimp only;refine Ix (mU n ((x::xs).eraseIdx i) _ _ (by rw[OR hlt,hl];rfl) λys d hp=>?_)
   refine Iy (hQ _ d ?_)
   exact(List.Perm.cons _ hp).trans (da hlt)
  exact key
theorem xP {α:Type}(f:Nat->Nat):∀(fuel k:Nat) (left:List α) (out:Array α),fuel=left.length->(OF f fuel k left out).toList.Perm (out.toList++left)
 |0,k,left,out,h=>by
  have:left=[]:=List.length_eq_zero_iff.mp h.symm;subst this;unfold OF;simp
 |fuel+1,k,left,out,h=>by
  unfold OF;have hlt:f k%left.length<left.length:=No _ (by lia)
  rw[J8 hlt]
  dsimp only;refine(xP f fuel (k+1) _ _ (by rw[OR hlt];lia)).trans ?_
  rw[Ky,J0];exact OT _ (da hlt)
theorem j7 {α:Type}(f:Nat->Nat) (xs:Array α):(pickOrder f xs).toList.Perm xs.toList:=by
 unfold pickOrder
 simpa using xP f xs.size 0 xs.toList #[] (by simp)
end L2.G
namespace L2.G
open PySem PySem.Spec PyProof.Rows
structure SetIs (h:Kl) (S:IZ) (es:List (Int×IA)) (ep:Nat) (t:Jv):Prop where
 ob:∃o,h.get? S=U o/\o.ExactSet/\o.data=.set es.toArray ep t
 tab:Tab t (es.map (·.1))
 few:t.place.size<=t.mask
theorem SetIs.fits {h:Kl}{S:IZ}{es:List (Int×IA)}{ep:Nat}{t:Jv}(x:SetIs h S es ep t):t.fits es.toArray.size=V:=by simpa using x.tab.fits x.few
theorem SetIs.at {h h':Kl}{S:IZ}{es:List (Int×IA)}{ep:Nat}{t:Jv}(x:SetIs h S es ep t) (k:∀o,h.get? S=U o->h'.get? S=U o):SetIs h' S es ep t:=by
 obtain⟨⟨o,ho,r⟩,a,b⟩:=x;exact⟨⟨o,k o ho,r⟩,a,b⟩
noncomputable def IterAt (h:Kl) (I:IZ) (first:IA) (i:Nat) (S:IZ) (n ep:Nat):Prop:=∃o,h.get? I=U o/\o.cls=.type "set_iterator"/\o.data=.fields #[first,rawInt i,.ref S,rawInt n,rawInt ep]
theorem IterAt.typeIs {s:IB}{I S:IZ}{first:IA}{i n ep:Nat}(x:IterAt s.heap I first i S n ep):s.TypeIs (.ref I) "set_iterator":=by
 obtain⟨o,ho,hc,_⟩:=x;exact⟨o,ho,hc⟩
theorem IterAt.at {h h':Kl}{I S:IZ}{first:IA}{i n ep:Nat}(x:IterAt h I first i S n ep) (k:∀o,h.get? I=U o->h'.get? I=U o):IterAt h' I first i S n ep:=by
 obtain⟨o,ho,r⟩:=x;exact⟨o,k o ho,r⟩
section
variable{prog:J9}{w:KB}{A:Jj}{E:IA->IB->Prop}{s:IB}{I S:IZ}{es:List (Int×IA)}{ep:Nat}{t:Jv}{i:Nat}
theorem ju {sl nx:Nat}{v:IA}{Q:Option IA->IB->Prop}(hne:S≠I) (it:IterAt s.heap I (rawInt sl) i S es.length ep) (st:SetIs s.heap S es ep t)
  (hn:∀(s:IB) (R:Option (IA×Nat)->IB->Prop) (E:IA->IB->Prop),SetIs s.heap S es ep t->R (U (v,nx)) s->wpAny (model prog w) A.in1 (setNext S sl i ep) R E s)
  (hQ:∀h',IterAt h' I (rawInt nx) (i+1) S es.length ep->(∀b o,b≠I->s.heap.get? b=U o->h'.get? b=U o)->Q (U v) {s with heap:=h'}):wpAny (model prog w) A (pyNext (.ref I)) Q E s:=by
 have hT:=it.typeIs;obtain⟨o,ho,hc,hd⟩:=it;refine Ix (Ln (JR (name:=JM "__next__") hT aB (Jx aB hT b9 ?_ (cM _))))
 refine Ix (m:=slotArgs "__next__" 0 _) (Iy ?_)
 refine Ix (MS ho hd ?_)
 obtain⟨os,hos,hex,hds⟩:=st.ob;refine Ix (L7 hos hds st.fits ?_)
 rw[if_neg (by simp)]
 refine Ix (hn s _ _ st ?_)
 refine Ix (KZ ho hd (by simp) ?_)
 have g1:=IY (Ms (·.setIfInBounds 0 (rawInt nx))) ho (K7 (JO hd _))
 refine Ix (KZ g1 (JO hd _) (by simp) ?_)
 have g2:=IY (Ms (·.setIfInBounds 1 (rawInt ((i:Int)+1)))) g1 (K7 (JO (JO hd _) _))
 refine Iy ⟨_,rfl,Iy (hQ _ ?_ ?_)⟩
 ·exact⟨_,g2,(Mj ..).trans ((Mj ..).trans hc),by rw[JO (JO hd _)];rfl⟩
 ·exact λb o' hb e=>(IP _ _ (Jb hb)).trans ((IP _ _ (Jb hb)).trans e)
theorem oJ {T:IZ}{ps:List Nat}{p:Nat}{e:Int×IA}{Q:Option IA->IB->Prop}(hne:S≠I) (it:IterAt s.heap I (.ref T) i S es.length ep) (st:SetIs s.heap S es ep t) (ht:∃o n,s.heap.get? T=U o/\o.data=.seq (ps.map λ(k:Nat)=>rawInt k).toArray n)
  (hp:ps[i]?=U p) (he:es[p]?=U e)
  (hQ:∀h',IterAt h' I (.ref T) (i+1) S es.length ep->(∀b o,b≠I->s.heap.get? b=U o->h'.get? b=U o)->Q (U e.2) {s with heap:=h'}):wpAny (model prog w) A (pyNext (.ref I)) Q E s:=by
 have hT:=it.typeIs;obtain⟨o,ho,hc,hd⟩:=it;refine Ix (Ln (JR (name:=JM "__next__") hT aB (Jx aB hT b9 ?_ (cM _))))
 refine Ix (m:=slotArgs "__next__" 0 _) (Iy ?_)
 refine Ix (MS ho hd ?_)
 obtain⟨os,hos,hex,hds⟩:=st.ob;refine Ix (L7 hos hds st.fits ?_)
 rw[if_neg (by simp)]
 simp only[Kd];obtain⟨oT,nT,hoT,hdT⟩:=ht;refine Ix (JI hoT hdT ?_)
 dsimp only;have e1:(ps.map λ(k:Nat)=>rawInt k).toArray[i]?=U (rawInt p):=by simp[hp]
 rw[e1];dsimp only[rawInt];simp only[Kd];refine Ix ?_
 refine Ix (Kt hos hds st.fits ?_)
 dsimp only;rw[if_neg (by simp)]
 have e2:es.toArray[p]?=U e:=by simp[he]
 rw[e2];refine Iy ?_
 refine Ix (KZ ho hd (by simp) ?_)
 have g2:=IY (Ms (·.setIfInBounds 1 (rawInt ((i:Int)+1)))) ho (K7 (JO hd _))
 refine Iy ⟨_,rfl,Iy (hQ _ ?_ ?_)⟩
 ·exact⟨_,g2,(Mj ..).trans hc,by rw[JO hd];rfl⟩
 ·exact λb o' hb e=>(IP _ _ (Jb hb)).trans e
theorem lN {sl:Nat}{Q:Option IA->IB->Prop}(hh:A.handled=B) (it:IterAt s.heap I (rawInt sl) i S es.length ep) (st:SetIs s.heap S es ep t)
  (hn:∀(s:IB) (R:Option (IA×Nat)->IB->Prop) (E:IA->IB->Prop),SetIs s.heap S es ep t->R B s->wpAny (model prog w) A.in1 (setNext S sl i ep) R E s)
  (hQ:∀h',(∀b o,b≠I->s.heap.get? b=U o->h'.get? b=U o)->Q B {s with heap:=h'}):wpAny (model prog w) A (pyNext (.ref I)) Q E s:=by
 have hT:=it.typeIs;obtain⟨o,ho,hc,hd⟩:=it;refine Ix (Ln (JR (name:=JM "__next__") hT aB (Jx aB hT b9 ?_ (cM _))))
 refine Ix (m:=slotArgs "__next__" 0 _) (Iy ?_)
 refine Ix (MS ho hd ?_)
 obtain⟨os,hos,hex,hds⟩:=st.ob;refine Ix (L7 hos hds st.fits ?_)
 rw[if_neg (by simp)]
 refine Ix (hn s _ _ st ?_)
 refine Ix (KZ ho hd (by simp) ?_)
 refine Ix ?_
 refine Ix (m:=firstArgMember _ _) (MD (a:=Kv) (by rfl) ?_)
 refine JQ ?_ (by size_fits)
 refine Ix (Oj ?_)
 rw[show A.in1.handled=B from hh]
 refine Ix (Iy (O3 ?_))
 refine Ix (K8 (T:="StopIteration") (b:=V) ⟨_,IF _ rfl,rfl⟩ MT ?_)
 exact Iy (hQ _ λb o' hb e=>Iz _ (Iz _ ((IP _ _ (Jb hb)).trans e)))
theorem pe {T:IZ}{ps:List Nat}{Q:Option IA->IB->Prop}(hh:A.handled=B) (it:IterAt s.heap I (.ref T) i S es.length ep) (st:SetIs s.heap S es ep t) (ht:∃o n,s.heap.get? T=U o/\o.data=.seq (ps.map λ(k:Nat)=>rawInt k).toArray n)
  (hp:ps[i]?=B) (hQ:∀h',(∀b o,b≠I->s.heap.get? b=U o->h'.get? b=U o)->Q B {s with heap:=h'}):wpAny (model prog w) A (pyNext (.ref I)) Q E s:=by
 have hT:=it.typeIs;obtain⟨o,ho,hc,hd⟩:=it;refine Ix (Ln (JR (name:=JM "__next__") hT aB (Jx aB hT b9 ?_ (cM _))))
 refine Ix (m:=slotArgs "__next__" 0 _) (Iy ?_)
 refine Ix (MS ho hd ?_)
 obtain⟨os,hos,hex,hds⟩:=st.ob;refine Ix (L7 hos hds st.fits ?_)
 rw[if_neg (by simp)]
 simp only[Kd];obtain⟨oT,nT,hoT,hdT⟩:=ht;refine Ix (JI hoT hdT ?_)
 dsimp only;have e1:(ps.map λ(k:Nat)=>rawInt k).toArray[i]?=B:=by simpa using hp
 rw[e1];refine Ix (KZ ho hd (by simp) ?_)
 have g1:=IY (Ms (·.setIfInBounds 0 (rawInt 0))) ho (K7 (JO hd _))
 refine Ix (KZ g1 (JO hd _) (by simp) ?_)
 refine Ix ?_
 refine Ix (m:=firstArgMember _ _) (MD (a:=Kv) (by rfl) ?_)
 refine JQ ?_ (by size_fits)
 refine Ix (Oj ?_)
 rw[show A.in1.handled=B from hh]
 refine Ix (Iy (O3 ?_))
 refine Ix (K8 (T:="StopIteration") (b:=V) ⟨_,IF _ rfl,rfl⟩ MT ?_)
 exact Iy (hQ _ λb o' hb e=>Iz _ (Iz _ ((IP _ _ (Jb hb)).trans ((IP _ _ (Jb hb)).trans e))))
theorem tF {first:IA}{n:Nat}{Q:IA->IB->Prop}(it:IterAt s.heap I first i S n ep) (hQ:Q (.ref I) s):wpAny (model prog w) A (pyIter (.ref I)) Q E s:=by
 refine OD it.typeIs je (Jx je it.typeIs nU ?_ (qx _))
 exact Iy ⟨_,rfl,"set_iterator",_,it.typeIs,aB.lookup,hQ⟩
end
end L2.G
namespace L2.G
open PySem PySem.Spec PyProof.Rows
section
variable{prog:J9}{w:KB}{A:Jj}{E:IA->IB->Prop}{s:IB}{S:IZ}{es:List (Int×IA)}{ep:Nat}{t:Jv}{i sl:Nat}
theorem wm (a:IZ) (slot given epochThen:Nat):setNext a slot given epochThen=(do
  let (es,epoch,t) <-setState a
  if <-setsByText then
   if epoch != epochThen then unsupported "set_iterator.__next__:elements-changed"
   return ((<-setWalk a)[given]?).map λe=>(e.2,slot)
  if !t.plain&&es.size>1 then unsupported "set_iterator.__next__:the-table-is-plain-no-more"
  (if(!t.led&&!es.isEmpty)=V then unsupported "set:maker-not-led" else pure ():Op Unit)
  let i:=Jl t.place slot
  return match es[i]?,t.place[i]? with
   |some (_,x),U j=>U (x,j+1)
   |_,_=>B):=rfl
theorem pV (hb:w.params.followText "set-order"=V) (st:SetIs s.heap S es ep t) {R:Option (IA×Nat)->IB->Prop}
  (h:R (((pickOrder (w.params.setOrder S ep) es.toArray)[i]?).map λe=>(e.2,sl)) s):wpAny (model prog w) A (setNext S sl i ep) R E s:=by
 obtain⟨os,hos,hex,hds⟩:=st.ob;refine Ix (Kt hos hds st.fits ?_)
 show wpAny _ _ (if w.params.followText "set-order"=V then _ else _) _ _ _
 rw[if_pos hb,if_neg (by simp)]
 refine Ix ?_
 refine Ix (Kt hos hds st.fits ?_)
 show wpAny _ _ (if w.params.followText "set-order"=V then _ else _) _ _ _
 rw[if_pos hb];refine Ix (OW (Iy ?_))
 exact Iy h
theorem qT (hb:w.params.followText "set-order"=Y) (st:SetIs s.heap S es ep t) (hled:t.led=V) (hpl:(!t.plain&&decide (es.toArray.size>1))=Y) {R:Option (IA×Nat)->IB->Prop}
  (h:R (match es.toArray[Jl t.place sl]?,t.place[Jl t.place sl]? with|some (_,x),U j=>U (x,j+1)|_,_=>B) s):wpAny (model prog w) A (setNext S sl i ep) R E s:=by
 obtain⟨os,hos,hex,hds⟩:=st.ob;rw[wm];refine Ix (Kt hos hds st.fits ?_)
 show wpAny _ _ (if w.params.followText "set-order"=V then _ else _) _ _ _
 rw[if_neg (by rw[hb];exact KS),if_neg (by rw[hpl];exact KS),if_neg (by rw[hled];simp)]
 exact Iy h
end
noncomputable def q9 (t:Jv) (i:Nat):Nat:=match i with|0=>0|k+1=>t.place.getD k 0+1
theorem wb {t:Jv}{hs:List Int}(T:Tab t hs):Jl t.place 0=0:=by
 obtain⟨h1,h2,h3⟩:=gV T.ris 0
 rcases Nat.eq_zero_or_pos (Jl t.place 0)with z|z
 ·exact z
 ·have:=h1 0 (by lia) z
  exact absurd this (My _)
theorem i8 {t:Jv}{hs:List Int}(T:Tab t hs) {i:Nat}(hi:i<=t.place.size):Jl t.place (q9 t i)=i:=by
 cases i with
 |zero=>exact wb T
 |succ k=>
  have hk:k<t.place.size:=by lia
  show Jl t.place (t.place.getD k 0+1)=k+1;have:t.place.getD k 0=t.place[k]:=by simp[OP,hk]
  rw[this];exact v5 T.ris hk
section
variable{prog:J9}{w:KB}{A:Jj}{E:IA->IB->Prop}{s:IB}{I S:IZ}{es:List (Int×IA)}{ep:Nat}{t:Jv}
theorem wp (hb:w.params.followText "set-order"=V) (hh:A.handled=B) (hne:S≠I):OJ prog w A I [I,S] [I] es.length (λi v=>((pickOrder (w.params.setOrder S ep) es.toArray).toList.map (·.2))[i]?=U v)
  (λi h=>IterAt h I (rawInt 0) i S es.length ep/\SetIs h S es ep t) where
 sub:=λb hb=>by simp_all
 frame:=λ_ _ _ st hk=>⟨st.1.at λo e=>hk I (by simp) o e,st.2.at λo e=>hk S (by simp) o e⟩
 item:=λi s Q E hi st hQ=>by
  have hl:(pickOrder (w.params.setOrder S ep) es.toArray).toList.length=es.length:=by have:=(j7 (w.params.setOrder S ep) es.toArray).length_eq;simpa using this
  have hi':i<(pickOrder (w.params.setOrder S ep) es.toArray).size:=by rw[<-JY];lia
  exact ju (sl:=0) (nx:=0) (v:=((pickOrder (w.params.setOrder S ep) es.toArray)[i]).2) hne st.1 st.2 (λs R E st' hR=>pV hb st' (by simp_all)) λh' it' k=>(hQ _ h' s.toks (by simp[hi']) ⟨it',st.2.at λo e=>k S o hne e⟩ λb o hb e=>k b o (λz=>hb (by simp[z])) e)
 done:=λs Q E st hQ=>by
  have hl:(pickOrder (w.params.setOrder S ep) es.toArray).size=es.length:=by have:=(j7 (w.params.setOrder S ep) es.toArray).length_eq;simpa using this
  exact lN hh st.1 st.2 (λs R E st' hR=>pV hb st' (by simp_all)) λh' k=>hQ h' s.toks λb o hb e=>k b o (λz=>hb (by simp[z])) e
 self:=λ_ _ _ _ st hQ=>tF st.1 hQ
theorem wa (hb:w.params.followText "set-order"=Y) (hled:t.led=V) (hpl:(!t.plain&&decide (es.toArray.size>1))=Y) (hh:A.handled=B) (hne:S≠I):OJ prog w A I [I,S] [I] es.length (λi v=>(es.map (·.2))[i]?=U v)
  (λi h=>IterAt h I (rawInt (q9 t i)) i S es.length ep/\SetIs h S es ep t) where
 sub:=λb hb=>by simp_all
 frame:=λ_ _ _ st hk=>⟨st.1.at λo e=>hk I (by simp) o e,st.2.at λo e=>hk S (by simp) o e⟩
 item:=λi s Q E hi st hQ=>by
  have hl:=st.2.tab.len;rw[IC]at hl;have hip:i<t.place.size:=by lia
  refine ju (sl:=q9 t i) (nx:=q9 t (i+1)) (v:=es[i].2) hne st.1 st.2 (λs R E st' hR=>qT hb st' hled hpl (by
   rw[i8 st.2.tab (by lia)]
   rw[show es.toArray[i]?=U es[i] by simp[hi],JN hip]
   have:q9 t (i+1)=t.place[i]+1:=by show t.place.getD i 0+1=_;simp[OP,hip]
   rw[this]at hR;exact hR)) λh' it' k=>?_
  exact hQ _ h' s.toks (by simp[hi]) ⟨it',st.2.at λo e=>k S o hne e⟩ λb o hb e=>k b o (λz=>hb (by simp[z])) e
 done:=λs Q E st hQ=>by
  have hl:=st.2.tab.len;rw[IC]at hl;exact lN hh st.1 st.2 (λs R E st' hR=>qT hb st' hled hpl (by
   rw[i8 st.2.tab (by lia)]
   simp;lia)) λh' k=>hQ h' s.toks λb o hb e=>k b o (λz=>hb (by simp[z])) e
 self:=λ_ _ _ _ st hQ=>tF st.1 hQ
theorem sy {T:IZ}{ps:List Nat}(hp:ps.Perm (JA es.length)) (hh:A.handled=B) (hne:S≠I) (hTI:T≠I):OJ prog w A I [I,S,T] [I] es.length (λi v=>((ps.filterMap (es[·]?)).map (·.2))[i]?=U v)
  (λi h=>IterAt h I (.ref T) i S es.length ep/\SetIs h S es ep t/\∃o n,h.get? T=U o/\o.data=.seq (ps.map λ(k:Nat)=>rawInt k).toArray n) where
 sub:=λb hb=>by simp_all
 frame:=λ_ _ _ st hk=>⟨st.1.at λo e=>hk I (by simp) o e,st.2.1.at λo e=>hk S (by simp) o e,by obtain⟨o,n,e,r⟩:=st.2.2;exact⟨o,n,hk T (by simp) o e,r⟩⟩
 item:=λi s Q E hi st hQ=>by
  have hpl:=hp.length_eq;rw[LI]at hpl;have hip:i<ps.length:=by lia
  have hpe:=List.mem_range.mp (hp.mem_iff.mp (Kh hip));refine oJ (ps:=ps) (p:=ps[i]) (e:=es[ps[i]]) hne st.1 st.2.1 st.2.2 (by simp[hip]) (by simp[hpe]) λh' it' k=>?_
  refine hQ _ h' s.toks ?_ ⟨it',st.2.1.at λo e=>k S o hne e,by obtain⟨o,n,e,r⟩:=st.2.2;exact⟨o,n,k T o hTI e,r⟩⟩ λb o hb e=>k b o (λz=>hb (by simp[z])) e
  have e1:ps.filterMap (es[·]?)=ps.map λk=>es.getD k (0,.none):=by
   have hall:∀k∈ps,k<es.length:=λk hk=>List.mem_range.mp (hp.mem_iff.mp hk)
   clear hpl hip hpe hp hi hQ st
   induction ps with
   |nil=>rfl
   |cons k ps ih=>
    simp_all
  rw[e1];simp[hip,hpe]
 done:=λs Q E st hQ=>by
  have hpl:=hp.length_eq;rw[LI]at hpl;exact pe hh st.1 st.2.1 st.2.2 (by rw[LG (by lia)]) λh' k=>hQ h' s.toks λb o hb e=>k b o (λz=>hb (by simp[z])) e
 self:=λ_ _ _ _ st hQ=>tF st.1 hQ
end
end L2.G
namespace L2.G
open PySem PySem.Spec PyProof.Rows
theorem zp:typeLookup (.type "set") "__len__"=pure (U (.builtin "set.__len__")):=F.slot_set_len.lookup
section
variable{prog:J9}{w:KB}{A:Jj}{E:IA->IB->Prop}{s:IB}{S:IZ}{es:List (Int×IA)}{ep:Nat}{t:Jv}
theorem BL (st:SetIs s.heap S es ep t) (hled:t.led=fW w) (hn:es.length<=1000) {Q:IA->IB->Prop}
  (hQ:∀(I:IZ) (vs:List IA) (fp:List IZ) (St:Nat->Kl->Prop) (h':Kl) (d:Drawn),vs.Perm (es.map (·.2))->(∀A':Jj,A'.handled=B->OJ prog w A' I fp [I] es.length (λi v=>vs[i]?=U v) St)->St 0 h'->
   (∀b o,s.heap.get? b=U o->h'.get? b=U o)->s.heap.objs.size<=I->I∈fp->(∀b∈fp,b=S\/s.heap.objs.size<=b)->Q (.ref I) {s with heap:=h',drawn:=d}):wpAny (model prog w) A (pyIter (.ref S)) Q E s:=by
 obtain⟨os,hos,hex,hds⟩:=id st.ob;have hT:s.TypeIs (.ref S) "set":=⟨os,hos,hex.1⟩;have hSlt:=IJ hos;refine OD hT F.slot_set_iter (Jx F.slot_set_iter hT kE ?_ (F.args_set_iter_1 _))
 unfold L5.«frozenset.__iter__» Builtin.Frozenset.slot0 slotArgs;simp only[List.isEmpty_nil,KG,IT,↓reduceIte,bind_assoc,JZ,bne_self_eq_false];refine Ix (Iy ?_)
 refine Ix (Iy ?_)
 refine Ix (Ix (L7 hos hds st.fits (Iy ?_)))
 refine Ix ?_
 refine Ix (Kt hos hds st.fits ?_)
 refine Ix ?_
 refine Ix (OW (Iy ?_))
 refine Iy ?_
 have hsz:es.toArray.size=es.length:=by simp
 show wpAny _ _ (if(!w.params.followText "set-order"&&(!t.plain&&decide (es.toArray.size>1)))=V then _ else _) _ _ _
 by_cases hdr:(!w.params.followText "set-order"&&(!t.plain&&decide (es.toArray.size>1)))=V
 ·rw[if_pos hdr]
  refine Ix (mU es.toArray.size (JA es.toArray.size) s _ (by simp) λps d hp=>?_)
  rw[hsz]at hp⊢;have hpl:=hp.length_eq;rw[LI]at hpl;refine Ix (JQ ?_ (by show(ps.map λ(i:Nat)=>rawInt i).toArray.size<=sizeLine;rw[LC];simp;lia))
  have g1:(s.heap.push {cls:=.type "tuple",data:=.seq (ps.map λ(i:Nat)=>rawInt i).toArray}).get? S=U os:=Iz _ hos
  refine Ix (wpAny_setEpoch_of (s:={s with heap:=s.heap.push {cls:=.type "tuple",data:=.seq (ps.map λ(i:Nat)=>rawInt i).toArray},drawn:=d}) g1 hds st.fits ?_)
  refine Ix (JQ ?_ (by size_fits))
  refine Iy ⟨_,rfl,"set_iterator",_,⟨_,IF _ rfl,rfl⟩,aB.lookup,?_⟩
  have sz1:(s.heap.push {cls:=.type "tuple",data:=.seq (ps.map λ(i:Nat)=>rawInt i).toArray}).objs.size=s.heap.objs.size+1:=JG ..
  refine hQ (s.heap.push {cls:=.type "tuple",data:=.seq (ps.map λ(i:Nat)=>rawInt i).toArray}).objs.size ((ps.filterMap (es[·]?)).map (·.2)) [(s.heap.push {cls:=.type "tuple",data:=.seq (ps.map λ(i:Nat)=>rawInt i).toArray}).objs.size,S,s.heap.objs.size] _ _ d ((vg hp).1.map _)
   (λA' hA'=>sy (T:=s.heap.objs.size) (ps:=ps) (es:=es) (S:=S) (ep:=ep) (t:=t) hp hA' ?_ ?_) ?_ (λb o e=>Iz _ (Iz _ e)) ?_ (by simp) ?_
  ·rw[sz1];exact Ji (MR hSlt)
  ·lia
  ·exact⟨⟨_,IF _ rfl,rfl,rfl⟩,st.at λo e=>Iz _ (Iz _ e),_,_,Iz _ (IF _ rfl),rfl⟩
  ·rw[sz1];exact LQ _
  simp
 ·rw[if_neg hdr]
  refine Ix (Iy ?_)
  refine Ix (wpAny_setEpoch_of hos hds st.fits ?_)
  refine Ix (JQ ?_ (by size_fits))
  refine Iy ⟨_,rfl,"set_iterator",_,⟨_,IF _ rfl,rfl⟩,aB.lookup,?_⟩
  have fin:∀(vs:List IA) (St:Nat->Kl->Prop),vs.Perm (es.map (·.2))->(∀A':Jj,A'.handled=B->OJ prog w A' s.heap.objs.size [s.heap.objs.size,S] [s.heap.objs.size] es.length (λi v=>vs[i]?=U v) St)->
    St 0 (s.heap.push {cls:=.type "set_iterator",data:=.fields [rawInt 0,rawInt 0,.ref S,rawInt es.length,rawInt ep].toArray})->
    Q (.ref s.heap.objs.size) {s with heap:=s.heap.push {cls:=.type "set_iterator",data:=.fields [rawInt 0,rawInt 0,.ref S,rawInt es.length,rawInt ep].toArray}}:=λvs St hp W h0=>by
   refine hQ s.heap.objs.size vs [s.heap.objs.size,S] St _ s.drawn hp W h0 (λb o e=>Iz _ e) (IM _) (by simp) λb hb=>?_
   grind
  cases hbt:w.params.followText "set-order" with
  |true=>
   refine fin _ _ ?_ (λA' hA'=>wp (S:=S) (es:=es) (ep:=ep) (t:=t) hbt hA' (Ji hSlt)) ⟨⟨_,IF _ rfl,rfl,rfl⟩,st.at λo e=>Iz _ e⟩
   have:=(j7 (w.params.setOrder S ep) es.toArray).map (·.2)
   simpa using this
  |false=>
   have hpl:(!t.plain&&decide (es.toArray.size>1))=Y:=by
    rw[hbt]at hdr
    simpa using hdr
   exact fin _ _ (Lg _) (λA' hA'=>wa (S:=S) (es:=es) (ep:=ep) (t:=t) hbt (by lia) hpl hA' (Ji hSlt)) ⟨⟨_,IF _ rfl,rfl,rfl⟩,st.at λo e=>Iz _ e⟩
theorem tz (hh:A.handled=B) (st:SetIs s.heap S es ep t) (hled:t.led=fW w) (hn:es.length<=1000) {Q:List IA->IB->Prop}
  (hQ:∀(vs:List IA) (h':Kl) (d:Drawn) (tk:Nat),vs.Perm (es.map (·.2))->(∀b o,s.heap.get? b=U o->h'.get? b=U o)->s.heap.objs.size<=h'.objs.size->Q vs {s with heap:=h',drawn:=d,toks:=tk}):wpAny (model prog w) A (collect (.ref S)) Q E s:=by
 obtain⟨os,hos,hex,hds⟩:=id st.ob;have hSlt:=IJ hos;refine Ix (NW (Jt F.entry_proto_collect ?_))
 refine Ix (JQ ?_)
 refine Iy ⟨JT F.plain_list_iadd _,Jt F.entry_list_iadd ?_⟩
 generalize hL:s.heap.objs.size=L;have hst1:SetIs (s.heap.push {cls:=.type "list",data:=.seq ([]:List IA).toArray}) S es ep t:=st.at λo e=>Iz _ e
 have g0:(s.heap.push {cls:=.type "list",data:=.seq ([]:List IA).toArray}).get? L=U {cls:=.type "list",data:=.seq ([]:List IA).toArray}:=by rw[<-hL];exact IF _ rfl
 have hS1:(s.heap.push {cls:=.type "list",data:=.seq ([]:List IA).toArray}).get? S=U os:=Iz _ hos
 have hT1:LY {s with heap:=s.heap.push {cls:=.type "list",data:=.seq ([]:List IA).toArray}} (.ref S) "set":=⟨os,hS1,hex.1⟩
 show wpAny _ A.in1 (Lr (.ref L) (.ref S) (.ref L)) _ _ _;refine Ix (LH hT1 ?_)
 have h1:KL (.ref L) (.ref S)=Y:=by simp[KL];rw[<-hL];exact Lx hSlt
 have h2:(Ki "set"==Ki "list")=Y:=by decide
 have h3:(Ki "set"==Ki "tuple")=Y:=by decide
 simp only[h1,h2,h3,Pa,IT,if_false];refine Ix (BL (s:={s with heap:=s.heap.push {cls:=.type "list",data:=.seq ([]:List IA).toArray}}) hst1 hled hn λI vs fp St h' d hp W hS0 hk hI hIf hfp=>?_)
 have hT2:LY {s with heap:=h',drawn:=d} (.ref S) "set":=⟨os,hk S os hS1,hex.1⟩
 have gL:h'.get? L=U {cls:=.type "list",data:=.seq ([]:List IA).toArray}:=hk L _ g0;refine Ix (Jg ?_)
 refine Ix (K3 hT2 zp ?_)
 generalize hid:("set.__len__":String)=id0;subst hid;refine Ix (K8 (b:=V) hT2 (by rfl) ?_)
 refine Ix (LH hT2 ?_)
 refine Iy ?_
 refine Ix (Kf ?_)
 refine Ix ?_
 refine Ix (J4 gL rfl ?_)
 have gL2:=IY (Jc (·.push Kv)) gL rfl
 refine J4 gL2 rfl ?_
 have gL3:=IY (Jc (·.pop)) gL2 rfl
 have oth:∀b o,b≠L->h'.get? b=U o->((h'.update L (Jc (·.push Kv))).update L (Jc (·.pop))).get? b=U o:=
  λb o hb e=>(IP _ _ (Jb hb)).trans ((IP _ _ (Jb hb)).trans e)
 have WS:=(W A.in1 (by simp[hh])).toS
 have hLS:L≠S:=by rw[<-hL];exact Lx hSlt
 have hLf:L∉fp:=λhm=>by
  rcases hfp L hm with e|e
  ·exact hLS e
  ·have e2:s.heap.objs.size+1<=L:=by have:=e;rwa[JG]at this
   rw[hL]at e2;exact JV _ e2
 refine Iy ⟨JT MK _,codeAny_extend_loopS WS (by rw[LC];lia) L hLf _ es.length 0 _ _ _ rfl (Jf _)
  (WS.frame 0 ({s with heap:=h',drawn:=d}:IB) _ s.toks hS0 (IM _) λb hb o e=>oth b o (λh=>hLf (h▸hb)) e) gL3 (ItemsOf.nil _) λs' acc' c' hm hS' hacc=>?_⟩
 refine Ix (NE hS' ?_)
 have e1:=hm.gens;have e2:=hm.drawn;have e3:=hm.os;obtain⟨hh',gg',dd',tt',oo'⟩:=s';simp only at e1 e2 e3;subst e1;subst e3;refine Iy (hQ acc'.toList hh' dd' tt' ?_ (λb o e=>?_) (by rw[hL];exact Np (IJ hS')))
 ·have:acc'.toList=vs:=by
   have hvl:=hp.length_eq;rw[IC]at hvl;apply LK;intro j
   by_cases hj:j<acc'.size
   ·have:=hacc.2 j acc'[j] (by simp[hj])
    simp_all
   ·rw[LG (by simpa using hj),LG (by rw[hvl,<-hacc.1];lia)]
  rw[this];exact hp
 ·have hbL:b≠L:=by rw[<-hL];exact Ji (IJ e)
  have hbI:b≠I:=λz=>by
   have h5:s.heap.objs.size+1<=I:=by have:=hI;rwa[JG]at this
   have:=IJ e;rw[z]at this;exact absurd (Ly (MR this) h5) (JV _)
  refine hm.heap b o (by simp;lia) (oth b o hbL (hk b o (Iz _ e)))
end
end L2.G
namespace L2.G
open PySem PySem.Spec PyProof.Rows Md
theorem bO {α β:Type}(f:α->β):∀{l1 l2:List β},l1.Perm l2->∀l:List α,l2=l.map f->∃l':List α,l'.Perm l/\l1=l'.map f:=by
 intro l1 l2 p
 induction p with
 |nil=>simp
 |cons x p ih=>
  intro l h;cases l with
  |nil=>cases h
  |cons a l=>
   simp only[IG,Lq]at h;obtain⟨l',p',e'⟩:=ih l h.2;exact⟨a::l',List.Perm.cons a p',by rw[IG,h.1,e']⟩
 |swap x y l0=>
  intro l h;cases l with
  |nil=>cases h
  |cons a l=>
   cases l with
   |nil=>cases h
   |cons b l=>
    simp only[IG,Lq]at h;exact⟨b::a::l,Og a b l,by rw[IG,IG,h.1,h.2.1,h.2.2]⟩
 |trans p q ih1 ih2=>
  intro l h;obtain⟨l2,p2,e2⟩:=ih2 l h;obtain⟨l1,p1,e1⟩:=ih1 l2 e2;exact⟨l1,p1.trans p2,e1⟩
theorem SetAt.same {h h':Kl}{a:IZ}{es:List (Int×IA)}{led:Bool}(S:SetAt h a es led) (k:∀o,h.get? a=U o->h'.get? a=U o):SetAt h' a es led:=by
 obtain⟨o,ep,t,ho,r⟩:=S;exact⟨o,ep,t,k o ho,r⟩
theorem uV {l m:List D}(hl:l.Nodup) (h:∀x∈l,x∈m):l.length<=m.length:=by
 induction l generalizing m with
 |nil=>simp
 |cons x l ih=>
  have hx:=h x (IN ..);obtain⟨h1,h2⟩:=List.nodup_cons.mp hl;have:=ih (m:=m.erase x) h2 λy hy=>(List.mem_erase_of_ne (λ(e:y=x)=>h1 (e▸hy))).mpr (h y (IK _ hy))
  rw[List.length_erase_of_mem hx]at this;have:0<m.length:=List.length_pos_of_mem hx;rw[IU];lia
noncomputable def eD:List D->List D
 |[]=>[]
 |d::ds=>if d∈ds then eD ds else d::eD ds
set_option tactic.hygienic true in
theorem bf (x:D):∀ds:List D,x∈eD ds↔x∈ds
 |[]=>Iff.rfl
 |d::ds=>by
  unfold eD;split
  ·rename_i h
   rw[bf x ds,Jo]
   lia
  ·rw[Jo,Jo,bf x ds]
set_option tactic.hygienic true in
theorem bN:∀ds:List D,(eD ds).Nodup
 |[]=>Kc
 |d::ds=>by
  unfold eD;split
  ·exact bN ds
  ·rename_i h
   exact List.nodup_cons.mpr ⟨λz=>h ((bf d ds).mp z),bN ds⟩
theorem hE (ds:List D):(eD ds).length<=ds.length:=uV (bN ds) λx hx=>(bf x ds).mp hx
theorem my {ds es:List D}(hc:eE ds=V) (hp:es.Perm ds):cG es=cG ds/\eE es=V:=by
 have hc2:eE es=V:=by
  unfold eE;rw[IW];intro x hx;rw[II];have hx':=hp.mem_iff.mp hx;refine⟨eM hc hx',?_⟩
  rw[IW];intro y hy;obtain⟨b,e⟩:=gH hc hx' (hp.mem_iff.mp hy);rw[e];rfl
 exact⟨fP hc _ _ (λy hy=>hp.mem_iff.mp ((ay es).mem_iff.mp hy)) ((ay es).trans (hp.trans (ay ds).symm)) (bU hc2) (bU hc),hc2⟩
theorem AD {ds es:List D}(hc:eE ds=V) (h:∀x∈es,x∈ds):eE es=V:=by
 unfold eE;rw[IW];intro x hx;rw[II];refine⟨eM hc (h x hx),?_⟩
 rw[IW];intro y hy;obtain⟨b,e⟩:=gH hc (h x hx) (h y hy);rw[e];rfl
noncomputable def scD:D->Bool
 |.int _=>V
 |.str _=>V
 |_=>Y
noncomputable abbrev El:=D×IA
variable[Md]
structure ElOk (M:Mp) (sc:Bool) (t:El):Prop where
 rep:R Y M t.1 t.2
 has:cW 8 t.1=V
 sc:scD t.1=sc
noncomputable abbrev elE (w:KB) (t:El):Int×IA:=(cH w t.1,t.2)
theorem ye:∀(n:Nat) {d u} {A:Jj}{s:IB}{Q:Bool->IB->Prop}{E:IA->IB->Prop},Hm M s.heap->cW n d=V->R m M d u->Q Y s->wpAny (model P w) A (ofAClassStatement n u) Q E s:=by
 intro n
 induction n using KN with
 |ind n ih=>
 intro d u A s Q E H hd r hQ
 rcases shh hd r with⟨i,t,rfl,rfl⟩|⟨i,t,rfl,rfl⟩|⟨ds,a,o,vs,k,rfl,rfl,rfl,hd',q,t,rs⟩
 ·unfold ofAClassStatement;exact Iy hQ
 ·unfold ofAClassStatement;exact Iy hQ
 ·obtain⟨o,ho,hc,m,hdat⟩:=t.is H q
  unfold ofAClassStatement;refine Ix (LH ⟨o,ho,hc⟩ (Ix (Iy (Ix (JI ho hdat ?_)))))
  dsimp only;rw[<-MF];refine Ix (K9 _ (λrest b s'=>b.1=B/\s'=s/\∃left,left.all (cW k)=V/\Rs _ M left rest) _ ?_ ?_ _ _ ⟨rfl,rfl,ds,hd',by simpa using rs⟩)
  ·rintro v rest b s' ⟨hb,rfl,left,hall,hl⟩
   cases left with
   |nil=>cases hl
   |cons d' left'=>
    obtain⟨v',r',e',r1,r2⟩:=hl;cases e';rw[JC,II]at hall;exact Ix (ih k (by lia) H hall.1 r1 (Iy ⟨rfl,rfl,left',hall.2,r2⟩))
  ·rintro⟨b1,b2⟩ s' ⟨hb,rfl,_⟩
   simp only at hb;subst hb;exact Iy hQ
theorem Dz:∀(n:Nat) {d u} {A:Jj}{s:IB}{Q:Bool->IB->Prop}{E:IA->IB->Prop},Hm M s.heap->cW n d=V->R m M d u->(∀b,Q b s)->wpAny (model P w) A (hashByValue n u) Q E s:=by
 intro n
 induction n using KN with
 |ind n ih=>
 intro d u A s Q E H hd r hQ
 rcases shh hd r with⟨i,t,rfl,rfl⟩|⟨i,t,rfl,rfl⟩|⟨ds,a,o,vs,k,rfl,rfl,rfl,hd',q,t,rs⟩
 ·unfold hashByValue;exact Iy (hQ _)
 ·unfold hashByValue;exact Iy (hQ _)
 ·obtain⟨o,ho,hc,m,hdat⟩:=t.is H q
  refine Ix (K3 ⟨o,ho,hc⟩ F.slot_tuple_hash.lookup (Ix (JI ho hdat (Ix ?_))))
  rw[<-MF];refine K9 _ (λrest b s'=>s'=s/\∃left,left.all (cW k)=V/\Rs _ M left rest) _ ?_ ?_ _ _ ⟨rfl,ds,hd',by simpa using rs⟩
  ·rintro v rest b s' ⟨rfl,left,hall,hl⟩
   cases left with
   |nil=>cases hl
   |cons d' left'=>
    obtain⟨v',r',e',r1,r2⟩:=hl;cases e';rw[JC,II]at hall;refine Ix (ih k (by lia) H hall.1 r1 λb=>?_)
    cases b with
    |true=>exact Iy ⟨rfl,left',hall.2,r2⟩
    |false=>exact Iy (by first|exact Iy (hQ _)|exact hQ _|exact rfl)
  ·rintro⟨b1,b2⟩ s' ⟨rfl,_⟩
   cases b1<;>exact Iy (hQ _)
section
variable{M:Mp}{s:IB}{A:Jj}{E:IA->IB->Prop}{a:IZ}{sc led:Bool}
theorem uU {t:El}(h:ElOk M Y t):∃b,t.2=.ref b:=by
 obtain⟨d,u⟩:=t
 rcases shh h.has h.rep with⟨i,t,e,_⟩|⟨i,t,e,_⟩|⟨ds,a,o,vs,k,e,e',_⟩
 ·cases e;cases h.sc
 ·cases e;cases h.sc
 ·exact⟨a,e'⟩
theorem GU (h:ElOk M V t):kOk Y t.1=V:=by
 have:=h.sc;obtain⟨d,u⟩:=t;cases d<;>first|rfl|cases this
theorem GS (h:ElOk M V t):wF t.1 t.2=V/\t.2.scannable=V:=by
 refine⟨by rw[Gq (GU h) (GU h) h.rep];simp,?_⟩
 have:=h.sc;have r:=h.rep;obtain⟨d,u⟩:=t;cases d<;>first|(obtain⟨t,e⟩:=r;simp only at e;rw[e];rfl)|cases this
theorem Ga (H:Hm M s.heap) {t:El}(ht:ElOk M Y t) (l:List IA) (hl:∀y∈l,∃t':El,ElOk M Y t'/\t'.2=y) {Q:Bool->IB->Prop}(hQ:Q Y s):wpAny (model P w) A (searchCouldBeSeen t.2 l) Q E s:=by
 refine Ix ?_
 refine K9 _ (λrest b s'=>b.1=B/\s'=s/\∀y∈rest,∃t':El,ElOk M Y t'/\t'.2=y) _ ?_ ?_ _ _ ⟨rfl,rfl,hl⟩
 ·rintro y rest b s' ⟨hb,rfl,hr⟩
  have hr':=λz hz=>hr z (IK _ hz)
  obtain⟨t',h',rfl⟩:=hr y (IN ..);obtain⟨c,hc⟩:=uU ht;obtain⟨c',hc'⟩:=uU h';have q1:=ht.rep;have q2:=h'.rep;rw[hc]at q1⊢;rw[hc']at q2⊢;dsimp only;split
  ·exact Iy ⟨rfl,rfl,hr'⟩
  ·exact Ix (tK 8 H ht.has q1 (Ix (tK 8 H h'.has q2 (Ix (ye 8 H ht.has q1 (Ix (ye 8 H h'.has q2 (Iy ⟨rfl,rfl,hr'⟩))))))))
 ·rintro⟨b1,b2⟩ s' ⟨hb,rfl,_⟩
  subst hb;exact Iy hQ
open Classical in
theorem HR (H:Hm M s.heap) (hA:A.units+32<cLine) {ts:List El}{t:El}{Q:Bool->IB->Prop}(S:SetAt s.heap a (ts.map (elE w)) led) (h75:ts.length<=75) (hts:∀t∈ts,ElOk M sc t) (ht:ElOk M sc t)
  (h:∀h' ts' tk,s.toks<=tk->JX a s.heap h'->(ts'=ts/\t.1∈ts.map (·.1)\/ts'.Perm (t::ts)/\t.1∉ts.map (·.1))->SetAt h' a (ts'.map (elE w)) led->∀b,Q b {s with heap:=h',toks:=tk}):
  wpAny (model P w) A (setAdd a t.2) Q E s:=by
 refine Jg (Ix ?_)
 refine p0 8 H ht.has (by lia) ht.rep ?_
 have htk:=Nat.le_add_right s.toks (bV t.1);generalize s.toks+bV t.1=tk at htk⊢;have new:t.1∉ts.map (·.1)->∀h' es',JX a s.heap h'->es'.Perm ((cH w t.1,t.2)::ts.map (elE w))->SetAt h' a es' led->Q V {s with heap:=h',toks:=tk}:=λhno h' es' hsb hp S2=>by
  obtain⟨ts',pt,rfl⟩:=bO (elE w) hp (t::ts) rfl;exact h h' ts' tk htk hsb (.inr ⟨pt,hno⟩) S2 V
 have old:t.1∈ts.map (·.1)->Q Y {s with toks:=tk}:=λhm=>h s.heap ts tk htk (Heap.SameBut.refl a s.heap) (.inl ⟨rfl,hm⟩) S Y
 cases sc with
 |false=>
  obtain⟨b,hb⟩:=uU ht;have ht':=ht.rep;rw[hb]at new ht'⊢;have inj:∀t1∈ts,∀t2∈ts,t1.2=t2.2->t1.1=t2.1:=λt1 h1 t2 h2 e=>R.inj (fK (hts t1 h1).has) (fK (hts t2 h2).has) (hts t1 h1).rep (e▸(hts t2 h2).rep)
  have dec:∀t1∈ts,decide (∃t2∈ts,t2.2=t1.2/\t2.1=t.1)=decide (t1.1=t.1):=λt1 h1=>decide_eq_decide.mpr ⟨λ⟨t2,h2,e1,e2⟩=>by rw[<-inj t2 h2 t1 h1 e1];exact e2,λe=>⟨t1,h1,rfl,e⟩⟩
  refine Dl (s:={s with toks:=tk}) (led:=led) (es:=ts.map (elE w)) S (by simpa using h75) (λv=>decide (∃t1∈ts,t1.2=v/\t1.1=t.1)) ?_ ?_ ?_ ?_ ?_ ?_ ?_
  ·intro e he
   obtain⟨t1,h1,rfl⟩:=List.mem_map.mp he;exact uU (hts t1 h1)
  ·intro e he _
   obtain⟨t1,h1,rfl⟩:=List.mem_map.mp he;have:=(zV (s:={s with toks:=tk}) H 8 A (fK (hts t1 h1).has) (fK ht.has) (by lia) (hts t1 h1).rep ht').2.1
   rw[<-dec t1 h1]at this;exact this
  ·intro e he hq
   obtain⟨t1,h1,rfl⟩:=List.mem_map.mp he;have hq:=hq;rw[show decide (∃t2∈ts,t2.2=(elE w t1).2/\t2.1=t.1)=decide (t1.1=t.1) from dec t1 h1]at hq
   show cH w t1.1=_;rw[of_decide_eq_true hq]
  ·intro l hl Q' hQ'
   have:=Ga (A:=A) (E:=E) (s:={s with toks:=tk}) H ht l (λy hy=>by
    obtain⟨e,he,rfl⟩:=hl y hy;obtain⟨t1,h1,rfl⟩:=List.mem_map.mp he;exact⟨t1,hts t1 h1,rfl⟩) hQ'
   rw[hb]at this;exact this
  ·exact λR hR=>Dz (s:={s with toks:=tk}) 8 H ht.has ht' hR
  ·rintro⟨e,he,hq⟩
   obtain⟨t2,h2,e1,e2⟩:=of_decide_eq_true hq;exact old (List.mem_map.mpr ⟨t2,h2,e2⟩)
  ·intro hno
   exact new λhm=>by
    obtain⟨t2,h2,e2⟩:=List.mem_map.mp hm;have:=hno (elE w t2) (List.mem_map.mpr ⟨t2,h2,rfl⟩);exact absurd ⟨t2,h2,rfl,e2⟩ (of_decide_eq_false this)
 |true=>
  obtain⟨k1,k2⟩:=GS ht;have eq:∀t1∈ts,wF t.1 t1.2=decide (t1.1=t.1):=λt1 h1=>Gq (GU (hts t1 h1)) (GU ht) (hts t1 h1).rep
  refine A3 (knd:=BP) (k:=t.1) (s:={s with toks:=tk}) (led:=led) (es:=ts.map (elE w)) S (by simpa using h75) k1 k2 ?_ ?_ ?_
  ·intro e he
   obtain⟨t1,h1,rfl⟩:=List.mem_map.mp he;obtain⟨a1,a2⟩:=GS (hts t1 h1);exact⟨⟨_,a1,rfl⟩,a2⟩
  ·rintro⟨e,he,hq⟩
   obtain⟨t1,h1,rfl⟩:=List.mem_map.mp he;exact old (List.mem_map.mpr ⟨t1,h1,of_decide_eq_true ((eq t1 h1).symm.trans hq)⟩)
  ·intro hno
   exact new λhm=>by
    obtain⟨t1,h1,e1⟩:=List.mem_map.mp hm;have hq:=(eq t1 h1).symm.trans (hno (elE w t1) (List.mem_map.mpr ⟨t1,h1,rfl⟩));exact absurd e1 (of_decide_eq_false hq)
structure Fill (M:Mp) (sc led:Bool) (h:Kl) (a:IZ) (done:List D) (ts:List El):Prop where
 at':SetAt h a (ts.map (elE w)) led
 ok:∀t∈ts,ElOk M sc t
 nd:(ts.map (·.1)).Nodup
 mem:∀d,d∈ts.map (·.1)↔d∈done
variable{R':NI->IB->Prop}{It:IZ}{fp wr:List IZ}{G:Array GenState->Array GenState->Prop}{n:Nat}{Pv:Nat->IA->Prop}{St:Nat->IB->Prop}
theorem BB (H:Hm M s.heap) (hA:A.units+40<cLine) (W:WalksS P w A.in1 It fp wr G n Pv St) (hG:∀a b,G a b->b=a) (S:IZ) (hSf:S∉fp) (hS0:s.heap.get? S=B) (hwr:∀b∈wr,s.heap.get? b=B) (ds:List D) (hn:ds.length=n) (h76:(eD ds).length<=75)
  (hval:∀i v d,Pv i v->ds[i]?=U d->ElOk M sc (d,v)):
  ∀(k i:Nat) (h:Kl) (tk:Nat) (ts:List El),n - i=k->i<=n->St i {s with heap:=h,toks:=tk}->(∀b o,s.heap.get? b=U o->h.get? b=U o)->Fill M sc led h S (ds.take i) ts->
   (∀h' tk' ts',(∀b o,s.heap.get? b=U o->h'.get? b=U o)->Fill M sc led h' S ds ts'->R' (.ok (.ret .none)) {s with heap:=h',toks:=tk'})->
   codeAny (model P w) A (.builtin "set.update.loop" ⟨[.ref S,.ref It],[]⟩) R' {s with heap:=h,toks:=tk}:=by
 have hSw:=λh=>hSf (W.sub _ h)
 have back:∀{h:Kl}{tk:Nat}{s':IB},(∀b o,s.heap.get? b=U o->h.get? b=U o)->Moved wr G {s with heap:=h,toks:=tk} s'->s'={s with heap:=s'.heap,toks:=s'.toks}/\∀b o,s.heap.get? b=U o->s'.heap.get? b=U o:=λ{h tk s'} hk hm=>by
  have e1:=hG _ _ hm.gens;have e2:=hm.drawn;have e3:=hm.os;refine⟨?_,λb o e=>?_⟩
  ·obtain⟨h',g',d',t',o'⟩:=s'
   lia
  ·refine hm.heap b o (λhb=>?_) (hk b o e)
   simp_all
 intro k
 induction k with
 |zero=>
  intro i h tk ts hk hi hst hkeep hF hR;have hin:i=n:=by lia
  subst hin;refine Jt PT ?_
  refine Ix (W.done _ _ _ hst λs' hm=>?_)
  obtain⟨es,hkeep'⟩:=back hkeep hm;rw[es];refine Iy (hR s'.heap s'.toks ts hkeep' ⟨hF.at'.same λo e=>hm.heap S o hSw e,hF.ok,hF.nd,λd=>?_⟩)
  rw[hF.mem d,<-hn,List.take_length]
 |succ k ih=>
  intro i h tk ts hk hi hst hkeep hF hR;have hlt:i<n:=by lia
  refine Jt PT ?_
  refine Ix (W.item i _ _ _ hlt hst λv s' hP hst' hm=>?_)
  obtain⟨es,hkeep'⟩:=back hkeep hm;have hil:i<ds.length:=by lia
  have hx:=hval i v ds[i] hP (by simp[hil])
  have hat:=hF.at'.same λo e=>hm.heap S o hSw e
  have h75:ts.length<=75:=by
   have:=uV hF.nd λd hd=>(bf d ds).mpr (List.mem_of_mem_take ((hF.mem d).mp hd))
   rw[IC]at this;lia
  refine Ix (Jg ?_)
  rw[es]at hst'⊢;refine HR (s:={s with heap:=s'.heap,toks:=s'.toks}) (t:=(ds[i],v)) (λa k o e=>hkeep' _ _ (H _ _ _ e)) (by show A.units+1+32<cLine;lia) hat h75 hF.ok hx λh' ts' tk' htk hsb hor hS' b=>?_
  have keep2:∀b o,s.heap.get? b=U o->h'.get? b=U o:=λb o e=>by
   rw[hsb.2 b (λz=>by lia)]
   exact hkeep' b o e
  have F':Fill M sc led h' S (ds.take (i+1)) ts':=by
   have htake:ds.take (i+1)=ds.take i++[ds[i]]:=by rw[List.take_succ];simp[hil]
   rcases hor with⟨rfl,hm'⟩|⟨hp,hm'⟩
   ·refine⟨hS',hF.ok,hF.nd,λd=>?_⟩
    rw[hF.mem d,htake,Mx,K5];constructor
    ·exact .inl
    ·rintro(h|rfl)
     ·exact h
     ·exact(hF.mem _).mp hm'
   ·have hp2:=hp.map (·.1)
    rw[IG]at hp2;refine⟨hS',λt ht=>?_,?_,λd=>?_⟩
    ·rcases List.mem_cons.mp (hp.mem_iff.mp ht)with rfl|h
     ·exact hx
     ·exact hF.ok t h
    ·rw[hp2.nodup_iff,Mw];exact⟨hm',hF.nd⟩
    ·rw[hp2.mem_iff,Jo,hF.mem d,htake,Mx,K5]
     exact Or.comm
  refine Iy ⟨JT F.plain_set_update_loop _,ih (i+1) h' tk' ts' (by lia) hlt ?_ keep2 F' hR⟩
  exact W.frame _ {s with heap:=s'.heap,toks:=s'.toks} _ _ hst' htk λb hb o e=>by
   rw[hsb.2 b (λh:b=S=>hSf (by lia))];exact e
theorem Ay {h:Kl}{a:IZ}(e:h.get? a=U (gw (fW w))):Fill M sc (fW w) h a [] []:=
 ⟨⟨_,0,_,e,⟨rfl,rfl,rfl⟩,rfl,Tab.fresh _ _ _,by simp[Ol],rfl⟩,λt ht=>by simp at ht,Kc,λd=>Iff.rfl⟩
theorem wl (H:Hm M s.heap) (hh:A.handled=B) (hA:A.units+50<cLine) {l:IZ}{items:Array IA}{Q:IA->IB->Prop}(hl:s.heap.IsList l items) (ds:List D) (hlen:ds.length=items.size) (h76:(eD ds).length<=75)
  (hel:∀(i:Nat) v d,items[i]?=U v->ds[i]?=U d->ElOk M sc (d,v))
  (h:∀(h':Kl) (tk:Nat) ts,(∀b o,s.heap.get? b=U o->h'.get? b=U o)->Fill M sc (fW w) h' s.heap.objs.size ds ts->Q (.ref s.heap.objs.size) {s with heap:=h',toks:=tk}):
  wpAny (model P w) A (call (.type "set") [.ref l]) Q E s:=by
 obtain⟨c,tl,hmro⟩:=F.called_set.mro;have hmade:=F.called_set.made;have hsub:=F.called_set.sub;refine wpAny_call (codeAny_of_tree ?_)
 show wpAny _ _ (callAny (.type "set") _) _ _ _;refine Iy ⟨Code.quiet_builtin _ (by decide +kernel),Jt F.entry_type_call ?_⟩
 rw[Around.under_plain (weight_type_call_type "set" [.ref l] []) rfl];have h1:=F.called_set.notType;have h2:=F.called_set.canCreate;have hct:=F.typeCall_set_1 (.ref l)
 repeat (any_goals (first|assumption|wp_step))
 refine OH (qL (.ref l) (E:=E) (Q₁:=λobj s₁=>obj=.ref s.heap.objs.size/\s₁={s with heap:=s.heap.push (gw (fW w))}) ⟨rfl,rfl⟩) λr s₁ hr=>?_
 cases r with
 |error e=>exact hr
 |ok fl=>
  cases fl with
  |ret obj=>
   obtain⟨rfl,rfl⟩:=hr;have hS:(s.heap.push (gw (fW w))).get? s.heap.objs.size=U (gw (fW w)):=IF _ rfl
   have hT:LY {s with heap:=s.heap.push (gw (fW w))} (.ref s.heap.objs.size) "set":=⟨_,hS,rfl⟩
   have hli:=F.called_set.init.lookup;have hbi:=F.called_set.init.bind (.ref s.heap.objs.size)
   repeat (any_goals (first|assumption|wp_step))
   refine OH (codeAny_call_builtin (R:=wants (λr s₂=>r=.none/\∃h' tk ts,s₂={s with heap:=h',toks:=tk}/\Fill M sc (fW w) h' s.heap.objs.size ds ts/\
     (∀b o,s.heap.get? b=U o->h'.get? b=U o)) E) F.called_set.init.plain F.entry_set_init (check_set_init_1 hT ?_)) λr₂ s₂ hr₂=>?_
   ·obtain⟨ol,hol,hcl,nl,hdl⟩:=hl
    obtain⟨ocls,odict,odata,oslots⟩:=ol;simp only at hcl hdl;subst hcl;subst hdl;have hol':(s.heap.push (gw (fW w))).get? l=U {cls:=.type "list",dict:=odict,data:=.seq items nl,slots:=oslots}:=Iz _ hol
    have hsls:=F.sub_list_set;have hslf:=F.sub_list_frozenset;have hne:(Ki "list"==Ki "dict")=Y:=by decide
    have hl1:(s.heap.push (gw (fW w))).IsList l items:=⟨_,hol',rfl,nl,rfl⟩;unfold L5.«set.__init__» noKeywords Builtin.Frozenset.updateFrom;generalize hPI:pyIter=PI
    wp_walk
    subst hPI;refine KO hl1 ?_
    refine Ix (NW ?_)
    have hlS:=IJ hol;have hh3:A.in1.in1.in1.handled=B:=by simp[hh]
    have hneI:l≠(s.heap.push (gw (fW w))).objs.size:=by
     rw[JG];exact Ji (MR hlS)
    have hSf:s.heap.objs.size∉[(s.heap.push (gw (fW w))).objs.size,l]:=by
     rw[JG];simp only[Jo,K5,JE,or_false,not_or];exact⟨Ji (Kj _),Lx hlS⟩
    have hnone:∀b,s.heap.objs.size<=b->s.heap.get? b=B:=λb hb=>by
     cases q:s.heap.get? b with
     |none=>rfl
     |some o=>exact absurd (IJ q) (Nat.not_lt.mpr hb)
    refine BB (s:=s) (M:=M) (sc:=sc) (led:=fW w) H ?_ ((NM hh3 _ l hneI items).toS) ?_ s.heap.objs.size
     hSf (hnone _ (IM _)) ?_ ds hlen h76 (λi v d hv hd=>hel i v d hv hd) (items.size - 0) 0 _ s.toks [] (by lia) (Jf _)
     ⟨⟨_,IF _ rfl,rfl,rfl⟩,(hl1.push _)⟩ (λb o e=>Iz _ (Iz _ e)) ?_ ?_
    ·show A.units+1+1+40<cLine;lia
    ·intro a b e;exact e
    ·intro b hb
     simp only[K5]at hb;rw[hb,JG];exact hnone _ (LQ _)
    ·exact Ay (Iz _ hS)
    ·intro h' tk' ts hk hF
     show wpAny _ _ _ _ _ _;refine Iy ?_
     show wpAny _ _ (ret Kv) _ _ _;exact Iy ⟨rfl,h',tk',ts,rfl,hF,hk⟩
   ·cases r₂ with
    |error e=>exact hr₂
    |ok fl₂=>
     cases fl₂ with
     |ret r=>
      obtain⟨rfl,h',tk,ts,rfl,hF,hk⟩:=hr₂
      repeat (any_goals (first|assumption|wp_step))
      exact h _ _ _ hk hF
     |_=>exact hr₂.elim
  |_=>exact hr.elim
end
theorem Cp:∀{ts:List El},(∀t∈ts,ElOk M sc t)->Rs Y M (ts.map (·.1)) (ts.map (·.2))
 |[],_=>rfl
 |t::ts,h=>⟨_,_,rfl,(h t (IN ..)).rep,Cp λz hz=>h z (IK _ hz)⟩
theorem FG:bootBuiltins "set"=U (.type "set"):=by rfl
noncomputable def _root_.L2.sortSetO (c:KD) (sc:Bool) (x:Option D):Option D:=match x with
 |some (.lst ds)=>if(decide ((eD ds).length<64)&&eE ds&&ds.all (iR c)&&ds.all (cW 8)&&ds.all λd=>scD d==sc)=V then U (.lst (cG (eD ds))) else B
 |_=>B
set_option tactic.hygienic true in
theorem _root_.L2.df_sortedSet {X:Cx}{a:Expr}{fa:DEnv->Option D}{pos pos2 p p2:Ov}{c:KD}{sc:Bool}(g:Bn X "sorted") (g2:Bn X "set") (ha:DE X Y a fa):DF X (.Call (.Name "sorted" p) [.Call (.Name "set" p2) [a] [] pos2] [] pos) (λδ=>sortSetO c sc (fa δ)):=⟨rfl,λ{M δ s d Q} I e k=>by
 unfold sortSetO at e;split at e<;>try cases e
 split at e<;>cases e
 rename_i ds qd cc;simp only[II,decide_eq_true_eq]at cc;obtain⟨⟨⟨⟨c1,c2⟩,c3⟩,c4⟩,c5⟩:=cc;refine Kg (I.bltn g fx (KH ?_ rfl rfl))
 refine Ke (eX g2 FG ha I qd λv s1 M1 x1 I1 r=>?_)
 obtain⟨l,o,vs,rfl,q,t,rs⟩:=r;have un:=I1.un;have hl:=rs.length;refine wl (sc:=sc) I1.heap I.ok.room.hd (by lia) (t.is I1.heap q) ds (by simp;lia) (by lia) (λi v d hv hd=>?_) λh' tk ts hk hF=>KV ?_
 ·obtain⟨v',h1,h2⟩:=rs.get hd
  simp only[LF]at hv
  rw[h1]at hv;cases hv;have hm:=Jq hd;exact⟨h2,List.all_eq_true.mp c4 d hm,beq_iff_eq.mp (List.all_eq_true.mp c5 d hm)⟩
 ·obtain⟨o,ep,tb,ho,hex,hdt,T,hf,hled⟩:=hF.at'
  have hp:(ts.map (·.1)).Perm (eD ds):=(MI hF.nd (bN ds)).mpr λx=>(hF.mem x).trans (bf x ds).symm
  have hl1:=hp.length_eq;have hl2:=T.len;simp only[IC]at hl1 hl2;obtain⟨es1,hcm⟩:=my (AD c2 λx hx=>(bf x ds).mp hx) hp
  have st:SetIs h' s1.heap.objs.size (ts.map (elE w)) ep tb:=⟨⟨o,ho,hex,hdt⟩,T,by lia⟩
  refine LW NY NF NG (OI _) ?_
  refine Ix (m:=checkCount "sorted" 1 1 _) (Iy (Ix (tz (s:={s1 with heap:=h',toks:=tk}) (by simp[I.ok.room.hd]) st hled (by rw[IC];lia) λvs h2 d tk2 hp2 hk2 hsz=>?_)))
  rw[JK]at hp2;obtain⟨ts2,p2,rfl⟩:=bO (λt:El=>t.2) hp2 ts rfl
  obtain⟨es2,hcm2⟩:=my hcm (p2.map (·.1))
  rw[<-es1,<-es2]at k;have hl3:=p2.length_eq;refine dv (c:=c) (I1.kp (s':={s1 with heap:=h2,drawn:=d,toks:=tk2}) λb o e=>hk2 _ _ (hk _ _ e)) (Cp λt ht=>hF.ok t (p2.mem_iff.mp ht)) (by rw[IC,LC];lia) hcm2 ?_ (PostF.to k x1)
  rw[Oz];right;rw[IW]at c3⊢;exact λx hx=>c3 x ((hF.mem x).mp ((p2.map (·.1)).mem_iff.mp hx))⟩
end L2.G
namespace L2
open PySem PySem.Spec PyProof.Rows Md
noncomputable def bK:List (D×List D)->D->D->List (D×List D)
 |[],k,e=>[(k,[e])]
 |p::r,k,e=>if p.1=k then(p.1,if e∈p.2 then p.2 else p.2++[e])::r else p::bK r k e
noncomputable def zr (g:List (D×List D)):D:=.dD (g.map (·.1)) (g.map λp=>.dD p.2 (p.2.map λ_=>.bl V))
noncomputable def GO (δ:DEnv):Bool:=δ.all λo=>match o with|some (_,V)=>Y|_=>V
noncomputable def eW (ib ik ir:Nat) (fk fe:DEnv->Option D):List D->DEnv->List (D×List D)->Option (List (D×List D))
 |[],_,g=>U g
 |d::ds,δ,g=>match fk (δ.set ib (U (d,Y)))with
  |some k=>(match fe (((δ.set ib (U (d,Y))).set ik (U (k,Y))).set ir B)with
   |some e=>if(cW 8 k&&uD k&&(cW 8 e&&uD e))=V then eW ib ik ir fk fe ds (((δ.set ib (U (d,Y))).set ik (U (k,Y))).set ir B) (bK g k e) else B
   |none=>B)
  |none=>B
noncomputable def Fg (ig ib ik ir:Nat) (fi:DEnv->Option (List D)) (fk fe:DEnv->Option D) (δ:DEnv):Option Out:=
 if GO δ=V/\ig<δ.length/\ib<δ.length/\ik<δ.length/\ir<δ.length then
  (match fi (δ.set ig B)with
  |some ds=>if ds.length<lim then(match eW ib ik ir fk fe ds (δ.set ig B) []with|some g=>U (.ret (zr g) V)|none=>B) else B
  |none=>B) else B
theorem j6:∀{g:List (D×List D)}{k e:D},¬k∈g.map (·.1)->bK (g++[(k,[])]) k e=bK g k e
 |[],k,e,_=>by simp[bK]
 |p::r,k,e,h=>by
  simp only[IG,Jo,not_or]at h;show bK (p::(r++[(k,[])])) k e=_;unfold bK;rw[if_neg (λz=>h.1 z.symm),if_neg (λz=>h.1 z.symm),j6 h.2]
theorem vC {n:Nat}{k e:D}:∀{g:List (D×List D)},(∀q∈g,q.2.length<=n)->∀q∈bK g k e,q.2.length<=n+1
 |[],h,q,hq=>by unfold bK at hq;rw[List.mem_singleton.mp hq];simp
 |p::r,h,q,hq=>by
  unfold bK at hq;split at hq
  ·rcases List.mem_cons.mp hq with rfl|hq
   ·have:=h p (IN ..)
    dsimp only;split
    ·lia
    ·rw[Jy,LD];lia
   ·have:=h q (IK _ hq);lia
  ·rcases List.mem_cons.mp hq with rfl|hq
   ·have:=h q (IN ..);lia
   ·exact vC (λq' hq'=>h q' (IK _ hq')) q hq
set_option tactic.hygienic true in
theorem yr {ig ib ik ir:Nat}{fi:DEnv->Option (List D)}{fk fe:DEnv->Option D}{δ:DEnv}{o:Out}(h:Fg ig ib ik ir fi fk fe δ=U o):(ig<δ.length/\ib<δ.length/\ik<δ.length/\ir<δ.length)/\∃ds g,fi (δ.set ig B)=U ds/\ds.length<lim/\eW ib ik ir fk fe ds (δ.set ig B) []=U g/\o=.ret (zr g) V:=by
 unfold Fg at h;split at h<;>try cases h
 split at h<;>try cases h
 split at h<;>try cases h
 split at h<;>cases h
 rename_i c _ ds q1 hl _ g q2;exact⟨c.2,ds,g,q1,hl,q2,rfl⟩
noncomputable def er (ig ir:Nat) (δ:DEnv):DEnv:=(δ.set ig B).set ir B
theorem gz {δ:DEnv}{x:Option (D×Bool)}(h1:ig≠i) (h2:i≠ir):er ig ir (δ.set i x)=(er ig ir δ).set i x:=by
 unfold er;rw[NO _ _ h1.symm,NO _ _ h2]
theorem By {δ:DEnv}{x:Option (D×Bool)}(h:ig≠ir):er ig ir (δ.set ir x)=er ig ir δ:=by
 unfold er;rw[NO _ _ h.symm,MB]
theorem Bo {δ:DEnv}{x:Option (D×Bool)}:er ig ir (δ.set ig x)=er ig ir δ:=by
 unfold er;rw[MB]
noncomputable def Ind {α:Type}(n ig ir:Nat) (f:DEnv->Option α):Prop:=∀δ:DEnv,δ.length=n->f δ=f (er ig ir δ)
variable[Md]
noncomputable def KpF (X:Cx) (M:Mp) (s:IB) (M':Mp) (s':IB):Prop:=∀a o,Free X M a->s.heap.get? a=U o->s'.heap.get? a=U o/\Free X M' a
theorem KpF.trans (a:KpF X M s M1 s1) (b:KpF X M1 s1 M2 s2):KpF X M s M2 s2:=λc o f e=>by obtain⟨h1,h2⟩:=a c o f e;exact b c o h2 h1
structure GI (X:Cx) (M:Mp) (s:IB) (l:IZ) (n:Nat) (g:List (D×List D)) (as:List IZ):Prop where
 fl:Free X M l
 ob:∃o us,s.heap.get? l=U o/\DcO V o (g.map (·.1)) us (as.map Ny)/\Rs Y M (g.map (·.1)) us
 len:as.length=g.length
 inn:∀(j:Nat) (a:IZ) p,as[j]?=U a->g[j]?=U p->a≠l/\Free X M a/\∃o us,s.heap.get? a=U o/\DcO V o p.2 us (p.2.map λ_=>KA V)/\Rs Y M p.2 us
 nd:as.Nodup
 few:g.length<=n
 fews:∀q∈g,q.2.length<=n
section
variable{X:Cx}{M M':Mp}{δ:DEnv}{s s':IB}{l:IZ}{n:Nat}{g:List (D×List D)}{as:List IZ}
theorem GI.to (G:GI X M s l n g as) (x:Sub Y M Y M') (k:∀a o,a=l\/a∈as->Free X M a->s.heap.get? a=U o->s'.heap.get? a=U o/\Free X M' a):GI X M' s' l n g as:=by
 obtain⟨o,us,h1,h2,h3⟩:=G.ob;obtain⟨h1,h1'⟩:=k _ _ (.inl rfl) G.fl h1;refine⟨h1',⟨o,us,h1,h2,h3.to x⟩,G.len,λj a p e1 e2=>?_,G.nd,G.few,G.fews⟩
 obtain⟨q1,q2,o,us,q3,q4,q5⟩:=G.inn j a p e1 e2;obtain⟨q3,q2⟩:=k _ _ (.inr (Jq e1)) q2 q3;exact⟨q1,q2,o,us,q3,q4,q5.to x⟩
theorem DE.evF {a:Expr}{fa:DEnv->Option D}{Q:IA->IB->Prop}(h:DE X Y a fa) (I:Inv X M δ s) (e:fa δ=U d) (k:∀v s' M',Ext M M'->Inv X M' δ s'->R Y M' d v->KpF X M s M' s'->Q v s'):WP X (eval a X.env) Q s:=
 h.ev I.pin e λv s1 M1 x1 J r=>by obtain⟨h1,h2,h3,h4,h5,h6⟩:=I.unp J x1.sx;exact k v s1 _ x1.unp h1 (r.to h3) h6
theorem Inv.storeF {Q:Unit->IB->Prop}(I:Inv X M δ s) (hx:Lc X i x) (r:R Y M d u) (h:∀s',Inv X M (δ.set i (U (d,Y))) s'->KpF X M s M s'->Q () s'):WP X (storeName X.env x u) Q s:=
 I.store hx (b:=Y) r λs' c I' sb hc=>h s' I' λa o f e=>⟨(sb.2 a (by rintro rfl;rcases hc with z|z;exact f.l z;exact f.c _ z)).trans e,f⟩
theorem GI.done:∀{g:List (D×List D)}{as:List IZ}{M:Mp},Inv X M δ s->as.length=g.length->as.Nodup->(∀(j:Nat) (a:IZ) p,as[j]?=U a->g[j]?=U p->Free X M a/\∃o us,s.heap.get? a=U o/\DcO V o p.2 us (p.2.map λ_=>KA V)/\Rs Y M p.2 us)->
  ∃M',Ext M M'/\Inv X M' δ s/\(∀c,c∉as->M' c=M c)/\Rs Y M' (g.map λp=>.dD p.2 (p.2.map λ_=>.bl V)) (as.map Ny)
 |[],as,M,I,hl,_,_=>by
  cases as with
  |nil=>exact⟨M,Ext.refl,I,λ_ _=>rfl,rfl⟩
  |cons _ _=>simp at hl
 |p::g,[],M,I,hl,_,_=>by simp at hl
 |p::g,a::as,M,I,hl,nd,h=>by
  obtain⟨fa,o,us,h1,h2,h3⟩:=h 0 a p rfl rfl;have nd':=List.nodup_cons.mp nd;have xa:=fF (o:=o) fa.m;obtain⟨M',x',I',n',r'⟩:=GI.done (g:=g) (as:=as) (I.put (k:=.f) fa h1) (by simpa using hl) nd'.2 (λj b q e1 e2=>by
   obtain⟨fb,ob,ub,q1,q2,q3⟩:=h (j+1) b q (by simpa using e1) (by simpa using e2)
   have ne:b≠a:=λz=>nd'.1 (z▸Jq e1)
   exact⟨⟨by rw[av ne];exact fb.m,fb.l,fb.c,fb.t,fb.s⟩,ob,ub,q1,q2,q3.up xa⟩)
  have trues:∀l:List D,Rs Y M' (l.map λ_=>.bl V) (l.map λ_=>KA V):=λl=>by
   induction l with
   |nil=>rfl
   |cons _ l ih=>exact⟨_,_,rfl,rfl,ih⟩
  refine⟨M',xa.trans x',I',λc hc=>?_,⟨_,_,rfl,⟨a,o,us,_,rfl,rdf.mpr (by rw[n' a nd'.1];exact aq),h2,h3.up (xa.trans x'),trues _⟩,r'⟩⟩
  rw[n' c (λz=>hc (.tail _ z)),av (λz=>hc (by rw[z];exact .head _))]
variable{ig ib ik ir:Nat}{xg xb xk xr:IX}{iter ke ve:Expr}{fi:DEnv->Option (List D)}{fk fe:DEnv->Option D}{p1 p2 p3 p4 p5 p6 p7 p8 p9 p10 p11 p12 p13 p14 p15 p16 p17 p18 ap cp:Ov}{kk:Nat}
theorem Free.to (f:Free X M a) (e:M' a=B):Free X M' a:=⟨e,f.l,f.c,f.t,f.s⟩
set_option tactic.hygienic true in
theorem grp_get {Q:IA->IB->Prop}(ng:Nm X ig xg) (nk:Nm X ik xk) (line:(ap.endLine==cp.line)=V) (I:Inv X M δ s) (G:GI X M s l n g as) (eg:δ[ig]?=U (U (.ptr l,Y))) (ek:δ[ik]?=U (U (k,Y))) (hk:kOk V k=V) (hn:n<lim)
  (h:∀(a:IZ) s' g' as' (j:Nat) (p:D×List D),Inv X M δ s'->GI X M s' l (n+1) g' as'->as'[j]?=U a->g'[j]?=U p->p.1=k->(∀q∈g',q.2.length<=n)->(∀e,bK g' k e=bK g k e)->(∀b∈as',b∈as\/s.heap.objs.size<=b)->(∀b o,b≠l->s.heap.get? b=U o->s'.heap.get? b=U o)->Q (.ref a) s'):
  WP X (eval (.Call (.Attribute (.Name xg p8) "setdefault" ap) [.Name xk p9,.Dict [] [] p10] [] cp) X.env) Q s:=by
 refine wpAny_Call_method_late (w0 rfl) rfl line rfl (L0 (I.load ng eg λv r=>?_) ng.d)
 obtain rfl:v=.ref l:=r;obtain⟨o,us,ho,dc,rk⟩:=G.ob;have hS:(l==sysModules)=Y:=beq_eq_false_iff_ne.mpr G.fl.s;refine⟨"dict",_,MM,Ob,Oa,dc.ty ho,λb e=>by cases e;exact⟨o,ho,dc.2.1.2.1⟩,?_⟩
 refine Pk rfl (PP (Ke (L0 (I.load nk ek λu ru=>Ke (Nt (KV ?_))) nk.d)))
 have un:=I.un;have lt:=IJ ho;have hl':l≠s.heap.objs.size:=Ji lt;have ho1:(s.heap.push {cls:=.type "dict",data:=.dict #[]}).get? l=U o:=Iz _ ho
 have I1:Inv X M δ {s with heap:=s.heap.push {cls:=.type "dict",data:=.dict #[]}}:=I.push (t:=s.toks)
 have hlim:=aw (IM lim);refine Jx F.slot_dict_setdefault (dc.ty ho1) PU ?_ (PN _ _ _)
 refine Ix (Ix (Le (dc.ty ho1) (Iy ?_)))
 change wpAny _ _ (if(l==sysModules)=V then _ else(dictSetDefault l u (.ref s.heap.objs.size) >>= _)) _ _ _
 rw[if_neg (by rw[hS];exact KS)]
 have few:=G.few;have kl:(g.map (·.1)).length=g.length:=by simp
 refine Ix (Hx (s:={s with heap:=s.heap.push {cls:=.type "dict",data:=.dict #[]}}) (show X.A.units+1+30<cLine by lia) I1.heap ho1 dc rk hk (show R Y M k u from ru) (λ_=>by lia) (λx tk z=>?_) λh' tk o' z sb g' dc'=>?_)
 ·-- it is there
  have hm:k∈g.map (·.1):=KJ λhm=>by rw[dh hm]at z;cases z
  obtain⟨j,hj⟩:=List.mem_iff_getElem?.mp hm;rw[jI dc.2.2.1 hj,Ja]at z
  rw[Ja]at hj
  obtain⟨p,hp,rfl⟩:=Option.map_eq_some_iff.mp hj;obtain⟨a,ha,rfl⟩:=Option.map_eq_some_iff.mp z;refine Iy ⟨_,rfl,h a _ g as j p I1.tok ?_ ha hp rfl G.fews (λ_=>rfl) (λb hb=>.inl hb) λb o _ e=>Iz _ e⟩
  have G':=G.to (M':=M) (s':={s with heap:=s.heap.push {cls:=.type "dict",data:=.dict #[]},toks:=tk}) (λ_ _ h=>h) λb o _ f e=>⟨Iz _ e,f⟩
  exact⟨G'.fl,G'.ob,G'.len,G'.inn,G'.nd,LM G'.few,λq hq=>LM (G'.fews q hq)⟩
 ·-- a new one
  have hf:=I.fresh (IM _);have keep:∀b o,b≠l->s.heap.get? b=U o->h'.get? b=U o:=λb o hb e=>(sb.2 b hb).trans (Iz _ e)
  have hnew:h'.get? s.heap.objs.size=U {cls:=.type "dict",data:=.dict #[]}:=(sb.2 _ (Jb hl')).trans (IF _ rfl)
  have lts:∀b∈as,b<s.heap.objs.size:=λb hb=>by
   obtain⟨j,hj⟩:=List.mem_iff_getElem?.mp hb;have hjl:j<g.length:=by rw[<-G.len];exact(List.getElem?_eq_some_iff.mp hj).1
   obtain⟨_,_,o,_,e,_⟩:=G.inn j b g[j] hj (by simp[hjl])
   exact IJ e
  refine Iy ⟨_,rfl,h s.heap.objs.size _ (g++[(k,[])]) (as++[s.heap.objs.size]) as.length (k,[]) (I1.wr (s':={s with heap:=h',toks:=tk}) [l] (λb hb=>by rw[List.mem_singleton.mp hb];exact G.fl) λb o hb e=>(sb.2 b (λw=>hb (by simp[w]))).trans e) ⟨G.fl,⟨o',CB k u (g.map (·.1)) us,g',?_,?_⟩,by simp[G.len],λj a p e1 e2=>?_,?_,by simp;lia,λq hq=>?_⟩ (by simp) (by rw[G.len];simp) rfl (λq hq=>?_) (λe=>j6 z) (λb hb=>?_) keep⟩
  ·unfold bH kh at dc';rw[if_neg z,if_neg z]at dc'
   rw[Jd,Jd];exact dc'
  ·have:=qZ rk ((show R Y M k u from ru))
   unfold bH at this;rw[if_neg z]at this;rw[Jd];exact this
  ·rw[List.getElem?_append]at e1 e2
   split at e1
   ·rename_i hj
    rw[if_pos (by rw[<-G.len];exact hj)]at e2
    obtain⟨q1,q2,o,us,q3,q4⟩:=G.inn j a p e1 e2;exact⟨q1,q2,o,us,keep _ _ q1 q3,q4⟩
   ·rename_i hj
    rw[if_neg (by rw[<-G.len];exact hj)]at e2
    rw[List.getElem?_singleton]at e1 e2
    split at e1<;>cases e1
    split at e2<;>cases e2
    exact⟨Jb hl',hf,_,[],hnew,qI,rfl⟩
  ·rw[Lf]
   exact⟨G.nd,by simp,λb hb c hc w=>by rw[List.mem_singleton.mp hc]at w;exact absurd (lts b hb) (by rw[w];exact JV _)⟩
  ·rcases List.mem_append.mp hq with hq|hq
   ·exact LM (G.fews q hq)
   ·rw[List.mem_singleton.mp hq];exact Jf _
  ·rcases List.mem_append.mp hq with hq|hq
   ·exact G.fews q hq
   ·rw[List.mem_singleton.mp hq];exact Jf _
  ·rcases List.mem_append.mp hb with hb|hb
   ·exact .inl hb
   ·rw[List.mem_singleton.mp hb];exact .inr (IM _)
end
end L2
namespace L2
open PySem PySem.Spec PyProof.Rows Md
theorem rg:∀{g:List (D×List D)}{j:Nat}{p:D×List D},(g.map (·.1)).Nodup->g[j]?=U p->∀e,bK g p.1 e=g.set j (p.1,bH e p.2)
 |[],j,p,_,h,e=>by simp at h
 |q::g,0,p,nd,h,e=>by simp at h;subst h;unfold bK bH;rw[if_pos rfl];rfl
 |q::g,j+1,p,nd,h,e=>by
  simp at h;have nd':=List.nodup_cons.mp (show(q.1::g.map (·.1)).Nodup from nd)
  unfold bK;rw[if_neg λ(z:q.1=p.1)=>nd'.1 (by rw[z];exact K1 (Jq h)),rg nd'.2 h];rfl
theorem zX (e:D):∀l:List D,kh e (KA V) l (l.map λ_=>KA V)=(bH e l).map λ_=>KA V:=λl=>by
 have g:∀l:List D,fq e (KA V) l (l.map λ_=>KA V)=l.map λ_=>KA V:=λl=>by
  induction l with
  |nil=>rfl
  |cons x l ih=>simp only[IG,fq,ih,ite_self]
 unfold kh bH;split
 ·exact g l
 ·simp
variable[Md]
section
variable{X:Cx}{M M':Mp}{δ:DEnv}{s s':IB}{l:IZ}{n:Nat}{g:List (D×List D)}{as:List IZ}{ig ib ik ir:Nat}{xg xb xk xr:IX}{iter ke ve:Expr}{fi:DEnv->Option (List D)}{fk fe:DEnv->Option D}{p1 p2 p3 p4 p5 p6 p7 p8 p9 p10 p11 p12 p13 p14 p15 p16 p17 p18 ap cp:Ov}{kk:Nat}
theorem D8 {a:IZ}{j:Nat}{p:D×List D}{e:D}{u:IA}{Q:Unit->IB->Prop}(I:Inv X M δ s) (G:GI X M s l (n+1) g as) (fews:∀q∈g,q.2.length<=n) (hn:n<lim) (ha:as[j]?=U a) (hp:g[j]?=U p) (re:R Y M e u) (hk:kOk V e=V)
  (h:∀s',Inv X M δ s'->GI X M s' l (n+1) (bK g p.1 e) as->(∀b o,b≠a->s.heap.get? b=U o->s'.heap.get? b=U o)->Q () s'):WP X (setItem (.ref a) u (.bool V)) Q s:=by
 obtain⟨q1,q2,o,us,ho,dc,rk⟩:=G.inn j a p ha hp;obtain⟨ol,ul,hol,dl,rl⟩:=G.ob;have un:=I.un;have hl:=aw (IM lim);have hz:=fews p (Jq hp);have hj:=(List.getElem?_eq_some_iff.mp hp).1
 unfold setItem
 try with_reducible refine Jg ?_
 refine Ix (OC (dc.ty ho) (by decide) ?_)
 refine Ix (JR (name:=JM "__setitem__") (dc.ty ho) Nd (Jx Nd (dc.ty ho) entry_dict_setitem ?_ (args_dict_setitem _ _ _)))
 show wpAny _ _ (Oh "__setitem__" ⟨[.ref a,u,.bool V],[]⟩ >>= _) _ _ _;refine Ix (Le (dc.ty ho) ?_)
 show wpAny _ _ (dictSet a u (.bool V) >>= _) _ _ _;refine Ix (Hb (show X.A.units+1+30<cLine by lia) I.heap ho dc rk hk re (by lia) λh' tk o' sb g' dc'=>Iy ⟨.none,rfl,Iy ?_⟩)
 have keep:∀b o,b≠a->s.heap.get? b=U o->h'.get? b=U o:=λb o hb e=>(sb.2 b hb).trans e
 rw[zX]at dc';have eq:=rg dl.2.2.1 hp e;have km:(g.set j (p.1,bH e p.2)).map (·.1)=g.map (·.1):=by
  rw[List.map_set];refine LK λi=>?_
  by_cases z:i=j
  ·subst z;rw[Je (by simpa using hj),Ja,hp];rfl
  ·rw[Jh (Jb z)]
 refine h {s with heap:=h',toks:=tk} (I.wr [a] (λb hb=>by rw[List.mem_singleton.mp hb];exact q2) λb o hb e=>keep b o (λw=>hb (by simp[w])) e) ?_ keep
 rw[eq];refine⟨G.fl,⟨ol,ul,keep _ _ (Jb q1) hol,by rw[km];exact dl,by rw[km];exact rl⟩,by simp[G.len],λi b q e1 e2=>?_,G.nd,by simpa using G.few,by rw[<-eq];exact vC fews⟩
 by_cases z:i=j
 ·subst z
  rw[ha]at e1;cases e1;rw[Je hj]at e2;cases e2
  exact⟨q1,q2,o',_,g',dc',qZ rk re⟩
 ·rw[Jh (Jb z)]at e2
  obtain⟨w1,w2,o2,us2,w3,w4⟩:=G.inn i b q e1 e2;have ne:b≠a:=λw=>z ((List.getElem?_inj (List.getElem?_eq_some_iff.mp e1).1 G.nd).mp (by rw[e1,ha,w]))
  exact⟨w1,w2,o2,us2,keep _ _ ne w3,w4⟩
set_option tactic.hygienic true in
theorem xW (hN:X.N.length=n) (ng:Nm X ig xg) (lg:Lc X ig xg) (lb:Lc X ib xb) (nk:Nm X ik xk) (lk:Lc X ik xk) (nr:Nm X ir xr) (lr:Lc X ir xr) (h1:ig≠ib) (h2:ig≠ik) (h3:ig≠ir) (h4:ib≠ir) (h5:ik≠ir) (h6:ib≠ik)
  (di:Ind n ig ir fi) (dk:Ind n ig ir fk) (de:Ind n ig ir fe) (hi:DI X Y (.Name xb p4) iter fi) (hk:DE X Y ke fk) (he:DE X Y ve fe)
  (hsw1:swapsWith (.Dict [] [] p2) (U (.Name xg p1)) p3.line X.env=pure Y)
  (hsw2:swapsWith ke (U (.Name xk p5)) p6.line X.env=pure Y)
  (hsw3:swapsWith (.Call (.Attribute (.Name xg p8) "setdefault" ap) [.Name xk p9,.Dict [] [] p10] [] cp) (U (.Name xr p7)) p11.line X.env=pure Y)
  (hsw4:swapsWith (.Constant (.bool V) kk p14) (U (.Subscript (.Name xr p12) ve p13)) p15.line X.env=pure Y)
  (line:(ap.endLine==cp.line)=V):
  DSs X (.Assign [.Name xg p1] (.Dict [] [] p2) p3::
   .For (.Name xb p4) iter (.Assign [.Name xk p5] ke p6::
    .Assign [.Name xr p7] (.Call (.Attribute (.Name xg p8) "setdefault" ap) [.Name xk p9,.Dict [] [] p10] [] cp) p11::
    .Assign [.Subscript (.Name xr p12) ve p13] (.Constant (.bool V) kk p14) p15::[]) [] p16::
   .Return (U (.Name xg p17)) p18::[]) (Fg ig ib ik ir fi fk fe):=λ{M δ s o Q} I e k=>by
 obtain⟨⟨q1,q2,q3,q4⟩,ds,g,hds,hlim,hg,rfl⟩:=yr e;have hδ:δ.length=n:=by rw[I.len,hN]
 refine J5 (LR (Nt ?_) hsw1)
 have fl:=I.fresh (IM s.heap.objs.size);generalize hl:s.heap.objs.size=l at fl⊢;have hol:(s.heap.push {cls:=.type "dict",data:=.dict #[]}).get? l=U {cls:=.type "dict",data:=.dict #[]}:=by rw[<-hl];exact IF _ rfl
 refine(I.push (t:=s.toks)).storeF lg (d:=.ptr l) (by exact rfl) λs2 I2 kp2=>?_
 obtain⟨hol2,_⟩:=kp2 l _ fl hol;have ei:fi (δ.set ig (U (.ptr l,Y)))=U ds:=by rw[di _ (by simpa using hδ),Bo,<-Bo (x:=B),<-di _ (by simpa using hδ)];exact hds
 refine J5 (wpAny_For (hi.ev I2.pin ei λit fp tn s3 M3 x3 J3 T t0 f3=>?_) λx=>kK hi.pl)
 obtain⟨I3,sx3,sb3,nn3,_,kp3⟩:=I2.unp J3 x3.sx;obtain⟨hol3,fl3⟩:=kp3 l _ fl hol2;have nfp:∀b∈fp,b≠l:=λb hb z=>by
  have:pin X M s2.heap l=U (.p,{cls:=.type "dict",data:=.dict #[]}):=by unfold pin;rw[if_pos fl,hol2];rfl
  have w:=(f3 b hb).m;rw[z]at w
  rcases x3 l with y|y
  ·rw[w,this]at y;cases y
  ·rw[y.1]at this;cases this
 have gg:∀{z:Option (D×Bool)}{i:Nat}{δ':DEnv},ig≠i->δ'[ig]?=U (U (D.ptr l,Y))->(δ'.set i z)[ig]?=U (U (D.ptr l,Y)):=λh w=>by rw[Jh (Jb h)];exact w
 refine N8 (λm s'=>∃i δ' δm g' as' M',m=ds.length - i/\i<=ds.length/\Sub Y M3 Y M'/\Sx M M'/\Inv X M' δ' s'/\tn i s'.heap/\(∀b∈fp,Free X M' b/\b≠l/\b∉as')/\GI X M' s' l i g' as'/\δ'[ig]?=U (U (.ptr l,Y))/\er ig ir δ'=er ig ir δm/\δ'.length=n/\eW ib ik ir fk fe (ds.drop i) δm g'=U g) ?_ ds.length
  ⟨0,_,δ.set ig B,[],[],_,rfl,Jf _,sb3,sx3,I3,t0,λb hb=>⟨⟨nn3 b (f3 b hb).m,(f3 b hb).l,(f3 b hb).c,(f3 b hb).t,(f3 b hb).s⟩,nfp b hb,by simp⟩,⟨fl3,⟨_,[],hol3,qI,rfl⟩,rfl,λj a p z=>by simp at z,Kc,IM _,λq hq=>nomatch hq⟩,Je q1,by rw[Bo,Bo],by simpa using hδ,hg⟩
 rintro m s4 ⟨i,δ4,δm,g4,as4,M4,rfl,hi',sb4,sx4,I4,t4,f4,G4,eg4,er4,ln4,e4⟩
 have rd4:∀a o,Rd Y M3 a o->s4.heap.get? a=U o:=λa o q=>I4.heap _ _ _ (rdf.mp (sb4 _ _ q))
 by_cases hlt:i<ds.length
 ·rw[Jr hlt]at e4
  simp only[eW]at e4;split at e4<;>try cases e4
  rename_i k1 ek;split at e4<;>try cases e4
  rename_i e1 ee;split at e4<;>try cases e4
  rename_i h8;simp only[II]at h8;have ok1:kOk V k1=V:=lH (by rw[II];exact h8.1)
  have oe1:kOk V e1=V:=lH (by rw[II];exact h8.2)
  refine JF JD (thn (T.item t4 rd4 (d:=ds[i]) (by simp[hlt])) λr s5 hz=>?_)
  obtain⟨u,rfl,h5'⟩:=hz;refine JF JD (thn h5' λ_ s6 hz=>?_)
  obtain⟨c6,t6,g6⟩:=hz;obtain⟨M6,x6,I6,r6,f6'⟩:=I4.got sb4 g6 c6 λb hb=>(f4 b hb).1
  have ex4:=T.ex t4;have f6:∀b∈fp,Free X M6 b:=λb hb=>by obtain⟨o,e⟩:=ex4 b hb;exact f6' b o (f4 b hb).1 e
  have G6:GI X M6 s6 l i g4 as4:=G4.to x6.sub λa o ha f e=>⟨c6.2 a o (λz=>by rcases ha with rfl|ha;exact(f4 _ z).2.1 rfl;exact(f4 _ z).2.2 ha) e,f6' a o f e⟩
  have car:∀{M7 s7 M8 s8},(∀b∈fp,Free X M7 b)->tn (i+1) s7.heap->KpF X M7 s7 M8 s8->(∀b∈fp,Free X M8 b)/\tn (i+1) s8.heap:=λf t kp=>⟨λb hb=>by obtain⟨o,e⟩:=T.ex t b hb;exact(kp b o (f b hb) e).2,T.keep t λb hb o e=>(kp b o (f b hb) e).1⟩
  refine JF JD (OE (I6.storeF lb r6 λs7 I7 kp7=>?_))
  obtain⟨f7,t7⟩:=car f6 t6 kp7;have G7:=G6.to (λ_ _ h=>h) λa o _ f e=>kp7 a o f e
  have ek':fk (δ4.set ib (U (ds[i],Y)))=U k1:=by rw[dk _ (by simpa using ln4),gz h1 h4,er4,<-gz h1 h4,<-dk _ (by have:=congrArg Kk er4;simp[er]at this;simp;lia)];exact ek
  refine JF JD (J5 (LR (hk.evF I7 ek' λv s8 M8 x8 I8 r8 kp8=>I8.storeF lk r8 λs9 I9 kp9=>?_) hsw2))
  obtain⟨f8,t8⟩:=car f7 t7 kp8;obtain⟨f9,t9⟩:=car f8 t8 kp9;have G9:=(G7.to x8.sub λa o _ f e=>kp8 a o f e).to (λ_ _ h=>h) λa o _ f e=>kp9 a o f e
  have eg9:((δ4.set ib (U (ds[i],Y))).set ik (U (k1,Y)))[ig]?=U (U (.ptr l,Y)):=gg h2 (gg h1 eg4);have ek9:((δ4.set ib (U (ds[i],Y))).set ik (U (k1,Y)))[ik]?=U (U (k1,Y)):=Je (by rw[KM];lia)
  refine J5 (LR (grp_get ng nk line I9 G9 eg9 ek9 ok1 (by lia) λa s10 g10 as10 j p I10 G10 ha hp hpk fews eqg asub keep10=>I10.storeF lr (d:=.ptr a) (by exact rfl) λs11 I11 kp11=>?_) hsw3)
  have t10:tn (i+1) s10.heap:=T.keep t9 λb hb o e=>keep10 b o (f4 b hb).2.1 e
  obtain⟨f11,t11⟩:=car f9 t10 kp11;have G11:=G10.to (λ_ _ h=>h) λa o _ f e=>kp11 a o f e
  have lts:∀b∈fp,b∉as10:=λb hb z=>by
   rcases asub b z with z|z
   ·exact(f4 b hb).2.2 z
   ·obtain⟨o,e⟩:=T.ex t9 b hb;exact absurd (IJ e) (Nat.not_lt.mpr z)
  have ee':fe (((δ4.set ib (U (ds[i],Y))).set ik (U (k1,Y))).set ir (U (.ptr a,Y)))=U e1:=by
   rw[de _ (by simpa using ln4),By h3,gz h2 h5,gz h1 h4,er4,<-gz h1 h4,<-gz h2 h5,<-By h3 (x:=B),<-de _ (by have:=congrArg Kk er4;simp[er]at this;simp;lia)];exact ee
  refine J5 (wpAny_Assign_Subscript (Constant_bool (L0 (I11.load nr (Je (by simp;lia)) λv rv=>he.evF I11 ee' λw s12 M12 x12 I12 r12 kp12=>?_) nr.d)) hsw4)
  obtain rfl:v=.ref a:=rv;obtain⟨f12,t12⟩:=car f11 t11 kp12;have G12:=G11.to x12.sub λa o _ f e=>kp12 a o f e
  refine D8 I12 G12 fews (by lia) ha hp r12 oe1 λs13 I13 G13 keep13=>KC ?_
  refine⟨ds.length - (i+1),by lia,i+1,_,((δm.set ib (U (ds[i],Y))).set ik (U (k1,Y))).set ir B,bK g4 k1 e1,as10,M12,rfl,hlt,λa o q=>x12.sub _ _ (x8.sub _ _ (x6.sub _ _ (sb4 a o q))),((sx4.trans x6.sx).trans x8.sx).trans x12.sx,I13,T.keep t12 λb hb o e=>keep13 b o (λw=>lts b hb (by rw[w];exact Jq ha)) e,λb hb=>⟨f12 b hb,(f4 b hb).2.1,lts b hb⟩,?_,gg h3 eg9,?_,by simpa using ln4,e4⟩
  ·rw[hpk,eqg]at G13;exact G13
  ·rw[By h3,By h3,gz h2 h5,gz h1 h4,er4,<-gz h1 h4,<-gz h2 h5]
 ·obtain rfl:i=ds.length:=by lia
  rw[M0]at e4;cases e4;refine JF JD (thn (T.done t4 rd4) λr s5 hz=>?_)
  obtain⟨rfl,c5⟩:=hz;refine KC ?_
  have I5:=I4.ch c5 λb hb=>(f4 b hb).1
  have G5:GI X M4 s5 l _ g as4:=G4.to (λ_ _ h=>h) λa o ha f e=>⟨c5.2 a o (λz=>by rcases ha with rfl|ha;exact(f4 _ z).2.1 rfl;exact(f4 _ z).2.2 ha) e,f⟩
  refine J5 (Nc (L0 (I5.load ng eg4 λv r=>?_) ng.d))
  obtain rfl:v=.ref l:=r;obtain⟨M6,x6,I6,n6,r6⟩:=GI.done I5 G5.len G5.nd λj a p e1 e2=>(G5.inn j a p e1 e2).2
  obtain⟨o,us,ho,dc,rk⟩:=G5.ob;have nl:l∉as4:=λz=>by
   obtain⟨j,hj⟩:=List.mem_iff_getElem?.mp z;have hjl:j<g.length:=by rw[<-G5.len];exact(List.getElem?_eq_some_iff.mp hj).1
   exact(G5.inn j l g[j] hj (by simp[hjl])).1 rfl
  exact k _ _ _ _ (sx4.trans x6.sx) I6 ⟨l,o,rfl,ho,⟨us,_,dc,rk.up x6,r6⟩,.inl (G5.fl.to (by rw[n6 l nl];exact G5.fl.m))⟩
end
end L2
namespace L2
open PySem PySem.Spec PyProof.Rows Md
noncomputable def Hy:Option L3->Bool
 |some .local=>V|some .cell=>V|some .free=>V|_=>Y
noncomputable def Hz:Option L3->Bool
 |some .local=>V|some .cell=>V|_=>Y
noncomputable def nmB (N:List IX) (sc:Lh) (i:Nat) (x:IX):Bool:=decide (N[i]?=U x)&&Hy (sc.names.lookup x)&&!(x==("__debug__":IX))&&!(x==("__classdict__":IX))
noncomputable def lcB (N:List IX) (sc:Lh) (i:Nat) (x:IX):Bool:=decide (N[i]?=U x)&&Hz (sc.names.lookup x)
noncomputable def H7 (N:List IX) (sc:Lh) (i:Nat) (x:IX):Bool:=decide (N[i]?=U x)&&decide (sc.names.lookup x=U .local)
noncomputable def gbB (sc:Lh) (x:IX):Bool:=decide (sc.names.lookup x=U .globalImplicit)&&!(x==("__debug__":IX))
set_option tactic.hygienic true in
theorem BC {sc:Lh}{x:IX}(h:Hy (sc.names.lookup x)=V):Vis sc x:=by
 unfold Hy at h;split at h
 ·rename_i e;exact .inl e
 ·rename_i e;exact .inr (.inl e)
 ·rename_i e;exact .inr (.inr e)
 ·cases h
set_option tactic.hygienic true in
theorem Bq {sc:Lh}{x:IX}(h:Hz (sc.names.lookup x)=V):Loc sc x:=by
 unfold Hz at h;split at h
 ·rename_i e;exact .inl e
 ·rename_i e;exact .inr e
 ·cases h
noncomputable def Ik (scope sc:Lh):Lh:=
 {scope with names:=scope.names.map λ(n,k)=>if(k==.free&&sc.kind==.function&&sc.names.lookup n==U .cell) then(n,.cell) else(n,k)}
theorem CM {scope sc:Lh}{env:Env}(h:env.scope=sc):relabel scope env=Ik scope sc:=by subst h;rfl
noncomputable def swB (sc scope:Lh) (t:IX) (l1 l2:Nat):Bool:=
 ((if sc.kind.isAnnotationScope then ScopeKind.function else sc.kind)==.function)&&sc.names.lookup t==U .local&&l1==l2&&!(scope.names.any λ(n,k)=>n==t&&(k==.local||k==.cell))
noncomputable def yX (osc:Lh) (scope:Lh) (N:List IX) (bs:List Bool):Bool:=
 decide (scope.kind=.function)&&scope.names.all (λy=>!decide (y.2=.cell))&&scope.names.all (λy=>!decide (y.2=.local)||decide (scope.names.lookup y.1=U .local))&&
 scope.names.all (λy=>!decide (y.2=.free)||(decide (scope.names.lookup y.1=U .free)&&(decide (osc.names.lookup y.1=U .cell)||decide (osc.names.lookup y.1=U .free))))&&
 decide (bs.length=N.length)&&(N.zip bs).all (λp=>!p.2||decide (scope.names.lookup p.1=U .free))
variable[Md]
structure Has (X:Cx) (N:List IX) (sc:Lh):Prop where
 n:X.N=N
 sc:X.env.scope=sc
 nd:X.N.Nodup
section
variable{X:Cx}{N:List IX}{sc scope:Lh}{i:Nat}{x:IX}
theorem Has.nm (h:Has X N sc) (b:nmB N sc i x=V):Nm X i x:=by
 unfold nmB at b;simp only[II,decide_eq_true_eq,LL]at b;exact⟨by rw[h.n];exact b.1.1.1,by rw[h.sc];exact BC b.1.1.2,b.1.2,b.2⟩
theorem Has.nmI (h:Has X N sc) (b:nmB N sc i (N.getD i "")=V):∃x,Nm X i x:=⟨_,h.nm b⟩
theorem Has.lc (h:Has X N sc) (hf:X.fn=V) (b:lcB N sc i x=V):Lc X i x:=by
 unfold lcB at b;simp only[II,decide_eq_true_eq]at b;exact⟨by rw[h.n];exact b.1,h.nd,by rw[h.sc];exact(Bq b.2).imp id λz=>⟨z,hf⟩⟩
theorem Has.lcl (h:Has X N sc) (b:H7 N sc i x=V):Lc X i x:=by
 unfold H7 at b;simp only[II,decide_eq_true_eq]at b;exact⟨by rw[h.n];exact b.1,h.nd,.inl (by rw[h.sc];exact b.2)⟩
theorem Has.gb (h:Has X N sc) (b:gbB sc x=V):Gb X x:=by
 unfold gbB at b;simp only[II,decide_eq_true_eq,LL]at b;refine⟨?_,b.2⟩
 unfold Env.kindOf;rw[h.sc];exact b.1
theorem Has.comp (h:Has X N sc) (scope:Lh) (cl:List (IX×IZ)) (C:IZ):Has (cxC X scope cl C) N (Ik scope sc):=⟨h.n,CM h.sc,h.nd⟩
theorem CompScope.of' {bs:List Bool}(h:Has X N sc) (b:yX sc scope N bs=V):CompScope X scope bs:=by
 obtain⟨h2,h1,_⟩:=h;unfold yX at b;simp only[II,decide_eq_true_eq]at b;obtain⟨⟨⟨⟨⟨a,b⟩,c⟩,d⟩,e⟩,f⟩:=b;refine⟨a,λy hy z=>?_,λy hy z=>?_,λy hy z=>?_,by rw[h2];exact e,λi x hx hb=>?_⟩
 ·grind
 ·grind
 ·have:=List.all_eq_true.mp d y hy
  rw[decide_eq_true z]at this;simp only[KG,Bool.false_or,II,Oz,decide_eq_true_eq]at this;refine⟨this.1,?_⟩
  unfold Env.kindOf;rw[h1];exact this.2
 ·rw[h2]at hx
  have hz:(N.zip bs)[i]?=U (x,V):=by rw[List.getElem?_zip_eq_some];exact⟨hx,hb⟩
  have:=List.all_eq_true.mp f _ (Jq hz)
  simpa using this
theorem wq {c:Bool}{elt:Expr}{gens:List Comprehension}{pos pos':Ov}{l:Nat}(h:Has X N sc) (q:swB sc scope x pos'.line pos.line=c):swapsWith (.ListComp elt gens scope pos) (U (.Name x pos')) l X.env=pure c:=by
 subst q;rw[<-h.sc];rfl
end
noncomputable def Txb (bl:List IX):Prop:=∀x∈bl,mg x=B
theorem Txb.bn {X:Cx}{bl:List IX}{N:List IX}{sc:Lh}{x:IX}(T:Txb bl) (h:Has X N sc) (b:(gbB sc x&&decide (x∈bl)&&decide (x≠"__name__"))=V):Bn X x:=by
 simp only[II,decide_eq_true_eq]at b;exact⟨h.gb b.1.1,T x b.1.2,b.2⟩
theorem us0 {P:List IA->Prop}(h:P []):∀us:List IA,us.length=0->P us
 |[],_=>h
theorem usS {n:Nat}{P:List IA->Prop}(h:∀a us,us.length=n->P (a::us)):∀us:List IA,us.length=n+1->P us
 |a::us,e=>h a us (OQ e)
noncomputable def Df (x:IX) (st:J6):Prop:=∃f fd,Fun K x x st f fd/\mg x=U (.ref f)
noncomputable def DfC (x:IX) (st:J6) (c:IZ):Prop:=∃f fd,Fun K x x st f fd/\mg x=U (.ref f)/\fd.code=.ref c
section
variable{x:IX}{st:J6}{f:IZ}
noncomputable abbrev HB (x:IX) (st:J6) (N:List IX) (n:Nat):Prop:=∀(kV doc pm:IA) (an:Option IZ) (cdv ct:IA) (us:List IA),us.length=(N.take n).length->bindArgs (PySem.W.fnOf x x (defArgs st) (defBody st) (defScope st) .none kV doc pm an cdv ct) ⟨us,[]⟩=pure ((N.take n).zip us)
noncomputable abbrev HY (N:List IX) (st:J6) (k:Nat) (J:Cx->Prop):Prop:=∀X:Cx,Has X N (defScope st)->X.fn=V->Room k X.A->J X
theorem Fun.binds {fd:PM}(F:Fun K x x st f fd) (hb:HB x st N n):Gd fd (N.take n):=by
 obtain⟨oc,od,kV,doc,pm,an,cdv,ct,osl,rfl,_⟩:=F.ex;exact λs us hl=>.of_eq (hb kV doc pm an cdv ct us hl)
theorem mk {k:Nat}(n:Nat) (N:List IX) (g:DEnv->Option Out) (D:Df x st) (S:FnScope N (N.take n) (defScope st):=by walk_at "sc")
  (hb:HB x st N n:=by walk_at "bi") (body:HY N st k (λX=>DSs X (defBody st) g):=by walk_at "mk"):FnM (k+1) x (bv N.length (N.take n).length g):=by
 obtain⟨f,fd,F,hm⟩:=D;exact CA F S (F.binds hb) hm λA L hr=>body (cxF N x (defScope st) f fd.code A L) ⟨rfl,rfl,S.nd⟩ rfl hr
theorem mkC {k:Nat}{c:IZ}{lq:IX}(n:Nat) (N:List IX) (g:DEnv->Option Out) (D:DfC x st c) (hq:∀L f cd,(envOfC x (defScope st) L f cd).qual++"<lambda>"=lq) (S:FnScope N (N.take n) (defScope st)) (hb:HB x st N n) (body:∀X:Cx,Has X N (defScope st)->X.fn=V->Room k X.A->X.env.qual++"<lambda>"=lq->X.env.code=.ref c->DSs X (defBody st) g):FnM (k+1) x (bv N.length (N.take n).length g):=by
 obtain⟨f,fd,F,hm,hc⟩:=D;exact CA F S (F.binds hb) hm λA L hr=>body (cxF N x (defScope st) f fd.code A L) ⟨rfl,rfl,S.nd⟩ rfl hr (hq L f fd.code) hc
end
theorem tH {X:Cx}{a lbody:Expr}{fa fb:DEnv->Option D}{params:Nx}{lscope:Lh}{lpos kp pos p:Ov}{c P:IZ}{lq x:IX}(hx:params.args.map (·.arg)=[x]) (hr:Room 3 X.A) (g:Bn X "sorted") (hP:(P,lq)∈tb) (hTu:∀q∈tb,q.1=P->q=(P,lq)) (hq:X.env.qual++"<lambda>"=lq) (hC:Nl base c P) (hcd:X.env.code=.ref c) (hcl:closureFor lscope X.env=pure []) (hdef:defaultsOf params X.env=([],[]))
  (S:FnScope [x] [x] lscope) (hbind:∀(s:IB) (u pm ctv:IA) (c':IZ),BindsTo s (Nk "<lambda>" lq params lbody lscope [] pm (.ref c') ctv) ⟨[u],[]⟩ [(x,u)]) (hb:∀X':Cx,Has X' [x] lscope->DE X' Y lbody fb) (ha:DE X Y a fa):
  DF X (.Call (.Name "sorted" p) [a] [⟨U "key",.Lambda params lbody lscope lpos,kp⟩] pos) (λδ=>jO (fa δ) λd=>fb [U (d,Y)]):=
 se (k:=0) hr g hP hTu hq hC hcd hcl hdef S hbind (λf c' A L _=>hb _ ⟨rfl,rfl,by simp⟩) ha
end L2
namespace L2
open PySem PySem.Spec PyProof.Rows Md
section
open PySem.SeqAt
open PySem.AutoSeq1 (wpAny_loadPart')
open PySem.MeetsSeq PySem.MeetsSeq2 PySem.MeetsSeq3
theorem xF (l b:IZ) (v w:IA) (vs ws:List IA) (n n2:Nat) (dd dd2:Option IZ) (sl sl2:Array (Option IA)):
  Meets (L5.«tuple.__eq__» ⟨[.ref l,.ref b],[]⟩)
   (λA R s=>s.heap.get? l=U {cls:=.type "tuple",dict:=dd,data:=.seq (v::vs).toArray n,slots:=sl}/\s.heap.get? b=U {cls:=.type "tuple",dict:=dd2,data:=.seq (w::ws).toArray n2,slots:=sl2}/\
    EqAt A.in1 s v w Y/\R (.ok (.ret (.bool Y))) s):=
 .of_wp λprog w' A R s h=>by
  obtain⟨hp,g,d,tk,os⟩:=s;obtain⟨hl,hb,he,h⟩:=h;have f2:=OB
  wp_walk using Me hl,Me hb,K9 _ (λrest b s'=>b.1=B/\s'=⟨hp,g,d,tk,os⟩/\rest=(v::vs).zip (w::ws)) _
  case turn=>
   rintro⟨y,x⟩ rest b s' ⟨hb',rfl,hz⟩
   injection hz with hyx hrest
   injection hyx with hy hx'
   subst hy hx';refine Ix (he prog w' _ _ ?_)
   wp_walk
   exact⟨_,rfl,by simpa using h⟩
  case fin=>
   simp
  case h=>exact⟨rfl,rfl,rfl⟩
end
theorem EqAt.firsts {A:Jj}{s:IB}{l b:IZ}{v w:IA}{vs ws:List IA}(hne:l≠b) (hl:s.heap.IsTuple l (v::vs).toArray) (hb:s.heap.IsTuple b (w::ws).toArray) (hu:A.units<cLine) (he:KW A.in1 s v w Y):KW A s (.ref l) (.ref b) Y:=by
 refine O7 hne λprog w' E Q h=>?_
 obtain⟨⟨cls,dd,data,sl⟩,ho,hc,n,hd⟩:=id hl;obtain⟨⟨cls2,dd2,data2,sl2⟩,ho2,hc2,n2,hd2⟩:=id hb;subst hc hd hc2 hd2;exact richCompare_meets_room (op:=.Eq) ⟨_,ho,rfl⟩ ⟨_,ho2,rfl⟩ PySem.F.slot_tuple_eq PySem.F.entry_tuple_eq (PySem.F.args_tuple_eq_2 _ _) (xF l b v w vs ws n n2 dd dd2 sl sl2)
  ⟨ho,ho2,he,show KA Y≠PA/\Q (.bool Y) s from⟨(λx=>nomatch x),h⟩⟩ hu
noncomputable def eA {α:Type}:List α->List Bool->List α
 |x::xs,b::bs=>if b=V then x::eA xs bs else eA xs bs
 |_,_=>[]
noncomputable def cy (f:D->Option Bool):List D->Option (List Bool)
 |[]=>U []
 |d::ds=>match f d,cy f ds with|some b,U bl=>U (b::bl)|_,_=>B
set_option tactic.hygienic true in
theorem mZ {f:D->Option Bool}:∀{ds:List D}{bl:List Bool},cy f ds=U bl->bl.length=ds.length
 |[],bl,h=>by simp_all [cy,Jk]
 |d::ds,bl,h=>by
  simp only[cy]at h;split at h
  ·rename_i b l q1 q2;obtain rfl:=J7 h;simp[mZ q2]
  ·contradiction
noncomputable def bi (bl:List Bool):Nat:=if V∈bl then bl.idxOf V else 0
theorem qJ {α:Type}:∀{xs:List α}{bl:List Bool},bl.length=xs.length->(V∈bl->(eA xs bl)[0]?=xs[bi bl]?)/\(V∉bl->eA xs bl=[])
 |[],bl,h=>by cases bl with
  |nil=>exact⟨λh=>(by rfl),λ_=>rfl⟩
  |cons _ _=>simp at h
 |x::xs,bl,h=>by
  cases bl with
  |nil=>simp at h
  |cons b bl=>
   have ih:=qJ (xs:=xs) (bl:=bl) (by simpa using h)
   cases b with
   |true=>exact⟨λ_=>by rfl,λn=>absurd (IN ..) n⟩
   |false=>
    refine⟨λm=>?_,λn=>?_⟩
    ·have m':V∈bl:=by simpa using m
     have:=ih.1 m';unfold eA;simp only[IT,if_false];rw[this];unfold bi
     simp_all [Oy]
    ·unfold eA
     simp_all
theorem vr {α:Type}{xs:List α}{x:α}(h:xs[0]?=U x):atI xs 0=U x:=by
 have hl:=(List.getElem?_eq_some_iff.mp h).1
 simp_all [atI,ixN,hl]
noncomputable def EM:D->Bool
 |.tup [x,.lst _]=>okD 15 x
 |_=>Y
noncomputable def cR (d e:D):Bool:=match d,e with|.tup (a::_),.tup (b::_)=>okD 15 a&&okD 15 b&&decide (a≠b)|_,_=>Y
noncomputable def yO (r iL iT j:Nat) (bs:List Bool) (ft:DEnv->Option Bool) (δ:DEnv) (gr:DEnv->Option Out):Option Out:=match δ[r]? with
 |some (U (.lst ds,V))=>(match cy (λd=>ft ((aG Y bs δ).set j (U (d,Y)))) ds,ds[0]? with
  |some bl,U _=>if(iL<δ.length/\iT<δ.length/\j<δ.length/\ds.length<=lim)/\(ds.all EM&&(ds.take (bi bl)).all λd=>cR d (ds.getD (bi bl) .non))=V then
    gr (((δ.set iL (U (.lst (eA ds bl),V))).set iT (U (ds.getD (bi bl) .non,Y))).set r (U (.lst (ds.eraseIdx (bi bl)),V))) else B
  |_,_=>B)
 |_=>B
set_option tactic.hygienic true in
theorem wI {r iL iT j:Nat}{bs:List Bool}{ft:DEnv->Option Bool}{gr:DEnv->Option Out}{δ:DEnv}{o:Out}(h:yO r iL iT j bs ft δ gr=U o):∃ds bl,δ[r]?=U (U (.lst ds,V))/\cy (λd=>ft ((aG Y bs δ).set j (U (d,Y)))) ds=U bl/\0<ds.length/\(iL<δ.length/\iT<δ.length/\j<δ.length/\ds.length<=lim)/\
  ds.all EM=V/\((ds.take (bi bl)).all λd=>cR d (ds.getD (bi bl) .non))=V/\
  gr (((δ.set iL (U (.lst (eA ds bl),V))).set iT (U (ds.getD (bi bl) .non,Y))).set r (U (.lst (ds.eraseIdx (bi bl)),V)))=U o:=by
 unfold yO at h;split at h
 ·rename_i ds e
  split at h
  ·rename_i bl x eb ex
   split at h
   ·rename_i c
    rw[II]at c;exact⟨ds,bl,e,eb,(List.getElem?_eq_some_iff.mp ex).1,c.1,c.2.1,c.2.2,h⟩
   ·contradiction
  ·contradiction
 ·contradiction
noncomputable def be (b:Nat->IZ):Nat->List D->List D
 |_,[]=>[]
 |i,d::ds=>(match d with|.tup [x,_]=>.tup [x,.ptr (b i)]|d=>d)::be b (i+1) ds
theorem qY {b:Nat->IZ}:∀{ds:List D}{i m:Nat},(be b i ds)[m]?=(ds[m]?).map λd=>(match d with|.tup [x,_]=>.tup [x,.ptr (b (i+m))]|d=>d)
 |[],_,_=>rfl
 |d::ds,i,0=>rfl
 |d::ds,i,m+1=>by
  have:=qY (b:=b) (ds:=ds) (i:=i+1) (m:=m);simp only[be,L8,this]
  rw[show i+1+m=i+(m+1) by lia]
theorem jT {b:Nat->IZ}:∀{ds:List D}{i:Nat},(be b i ds).length=ds.length
 |[],_=>rfl
 |d::ds,i=>by simp[be,jT]
theorem oH {d:D}(h:EM d=V):∃x y,d=.tup [x,.lst y]/\okD 15 x=V:=by
 unfold EM at h;split at h
 ·exact⟨_,_,rfl,h⟩
 ·cases h
variable[Md]
noncomputable def GP (i:Nat) (x:Option D) (δ:DEnv):Option Out:=match aV i δ,x with
 |some (.lst ds),U (.tup [p,.ptr b])=>if(okD 15 p&&decide (ds[(ds.idxOf (.tup [p,.ptr b]))]?=U (.tup [p,.ptr b]))&&(ds.take (ds.idxOf (.tup [p,.ptr b]))).all (λd=>cR d (.tup [p,.ptr b]))&&decide (ds.length<=lim))=V then U (.next (δ.set i (U (.lst (ds.eraseIdx (ds.idxOf (.tup [p,.ptr b]))),V)))) else B
 |_,_=>B
section
variable{X:Cx}{M:Mp}{δ:DEnv}{s:IB}{a b:Expr}{fa fb:DEnv->Option D}{m m':Bool}{pos px apos cpos:Ov}
set_option tactic.hygienic true in
theorem yS {A:Jj}{u v:IA}{d e:D}(H:Hm M s.heap) (hu:A.units+18<cLine) (h:cR d e=V) (r:R m M d u) (q:R m' M e v):KW A s u v Y:=by
 unfold cR at h;split at h
 ·rename_i x ds y es
  simp only[II,decide_eq_true_eq]at h;obtain⟨⟨h1,h2⟩,h3⟩:=h;obtain⟨l,o,vs,rfl,r1,t1,v1,vs,rfl,r2,_⟩:=r;obtain⟨l',o',ws,rfl,q1,t2,w1,ws,rfl,q2,_⟩:=q;refine EqAt.firsts (λz=>?_) (t1.is H r1) (t2.is H q1) (by lia) ?_
  ·subst z
   obtain⟨k,e1,_⟩:=r1;obtain⟨k',e2,_⟩:=q1;rw[e1]at e2;cases e2;obtain⟨_,_,n,e1⟩:=t1;obtain⟨_,_,n',e2⟩:=t2;rw[e1]at e2;injection e2 with e2
   have:=congrArg Pl e2;simp at this;exact h3 (R.inj h1 h2 r2 (this.1▸q2))
  ·have:=(zV H 15 A.in1 h1 h2 (show A.units+1+15+1<cLine by lia) r2 q2).2.1
   rwa[decide_eq_false h3]at this
 ·cases h
theorem Dg {A:Jj}{u v:IA}{p:D}{c:IZ}(H:Hm M s.heap) (hu:A.units+18<cLine) (hp:okD 15 p=V) (r:R m M (.tup [p,.ptr c]) u) (q:R m' M (.tup [p,.ptr c]) v):KW A s u v V:=by
 obtain⟨l,o,vs,rfl,r1,t1,v1,vs,rfl,r2,v2,vs,rfl,r3,rfl⟩:=r;obtain⟨l',o',ws,rfl,q1,t2,w1,ws,rfl,q2,w2,ws,rfl,q3,rfl⟩:=q
 by_cases z:l=l'
 ·subst z;exact PC _
 ·refine O7 z ?_
  have:=SeqAt.RcAt.tuples (e:=λ_=>V) (t1.is H r1) (t2.is H q1) (show A.units<cLine by lia) λi h1 h2=>by
   match i with
   |0=>
    have:=(zV H 15 A.in1 hp hp (show A.units+1+15+1<cLine by lia) r2 q2).2.1
    rwa[decide_eq_true rfl]at this
   |1=>cases r3;cases q3;exact PC _
   |i+2=>simp at h1;lia
  simp at this;exact this
set_option tactic.hygienic true in
theorem CT (h:Nm X i x) (nd:X.N.Nodup) (ha:DE X m a fa) (l:(apos.endLine==cpos.line)=V):DS X (.Expr (.Call (.Attribute (.Name x px) "remove" apos) [a] [] cpos) pos) (λδ=>GP i (fa δ) δ):=λ{M δ s o Q} I e k=>by
 unfold GP at e;dsimp only at e;split at e<;>try cases e
 split at e<;>cases e
 rename_i ds p b e1 e2 hc;simp only[II,decide_eq_true_eq]at hc;obtain⟨⟨⟨od,hm⟩,oa⟩,hl⟩:=hc;generalize hj':ds.idxOf (.tup [p,.ptr b])=j at*;have hj:=(List.getElem?_eq_some_iff.mp hm).1
 refine Py (Bz L4 OK PySem.F.type_list_remove l h (aT ha cL) (by decide) I (aO e1) (ds:=[.tup [p,.ptr b]]) (by rw[e2];rfl) rV λa o us s1 M1 x1 I1 q c r=>?_) I.quiet rfl
 obtain⟨u,rfl,r1⟩:=r.is1;obtain⟨vs,⟨z,n,rfl⟩,rs⟩:=c;have hq:=I1.heap _ _ _ q;have hlen:=rs.length;have un:=I1.un;have at':∀(m:Nat) (hm:m<vs.toArray.size),R Y M1 (ds[m]'(by simp at hm;lia)) vs.toArray[m]:=λm hm=>by
  simp at hm;obtain⟨v,h1,h2⟩:=rs.get (i:=m) (d:=ds[m]'(by lia)) (by simp)
  have h3:vs[m]=v:=by simpa[hm]using h1
  rw[NA,h3];exact h2
 obtain⟨M2,I2,x2⟩:=I1.lset (f:=λxs=>xs.eraseIdxIfInBounds j) (us:=vs.eraseIdx j) (t:=s1.toks) h nd (aO e1) q (by simp) (rs.erase j) (by have:=List.length_eraseIdx_le ds j;lia)
 refine sS (j:=j) (items:=vs.toArray) (n:=n) (by simp;lia) (by simpa using z) hq ?_ (λm hm hmj=>?_) (k _ _ (x1.sx.trans x2) I2)
 ·have:=at' j (by simp;lia)
  rw[(List.getElem?_eq_some_iff.mp hm).2]at this
  exact Dg I1.heap (show X.A.units+1+18<cLine by lia) od this r1
 ·have hm':m<ds.length:=by simp at hm;lia
  have q:=List.all_eq_true.mp oa (ds[m]) (List.mem_take_iff_getElem.mpr ⟨m,by lia,rfl⟩)
  exact yS I1.heap (show X.A.units+1+18<cLine by lia) q (at' m hm) r1
end
theorem Inv.view {X:Cx}{M:Mp}{δ δ2:DEnv}{s:IB}(I:Inv X M δ s) (hl:δ2.length=δ.length) (h:∀(i:Nat) d ow,δ2[i]?=U (U (d,ow))->∃d',δ[i]?=U (U (d',ow))/\(∀v,R Y M d' v->R Y M d v)/\∀o,C M d' o->C M d o):Inv X M δ2 s:=by
 refine⟨I.ok,I.og,I.heap,I.base,?_,I.free,I.cell,I.tabs,I.own,I.uni,hl.trans I.len,I.sys⟩
 obtain⟨m,hn,hv⟩:=I.loc;refine⟨m,hn,λi x d b e1 e2 e3=>?_⟩
 obtain⟨d',e4,h1,h2⟩:=h i d b e2;obtain⟨u,l,v⟩:=hv i x d' b e1 e4 e3;refine⟨u,l,?_⟩
 cases b with
 |false=>exact h1 u v
 |true=>obtain⟨a,o,e,q,c⟩:=v;exact⟨a,o,e,q,h2 o c⟩
theorem Ca {M:Mp}:∀{ds:List D}{vs:List IA}(i:Nat),ds.all EM=V->Rs Y M ds vs->∃b:Nat->IZ,Rs Y M (be b i ds) vs/\∀m x y,ds[m]?=U (.tup [x,y])->R Y M y (.ref (b (i+m)))
 |[],_,i,_,r=>⟨λ_=>0,r,λm x y e=>by simp at e⟩
 |d::ds,_,i,h,⟨v,r,rfl,h1,h2⟩=>by
  rw[JC,II]at h;obtain⟨x,y,rfl,_⟩:=oH h.1;obtain⟨b,hb,hc⟩:=Ca (i+1) h.2 h2;obtain⟨a,o,us,rfl,q,t,u1,us,rfl,r1,u2,us,rfl,r2,rfl⟩:=h1;obtain⟨c,_,_,rfl,_⟩:=id r2;have cg:∀{ds:List D}{k:Nat},i<k->be (λn=>if n=i then c else b n) k ds=be b k ds:=λ{ds k} hk=>by
   induction ds generalizing k with
   |nil=>rfl
   |cons e ds ih=>simp only[be,if_neg (show k≠i by lia),ih (show i<k+1 by lia)]
  refine⟨λn=>if n=i then c else b n,⟨_,_,rfl,⟨a,o,_,rfl,q,t,u1,_,rfl,r1,_,_,rfl,by simp[R],rfl⟩,?_⟩,λm x' y' e=>?_⟩
  ·rw[cg (by lia)];exact hb
  ·cases m with
   |zero=>simp at e;obtain⟨_,rfl⟩:=e;simpa using r2
   |succ m=>
    have:=hc m x' y' (by simpa using e)
    dsimp only;rw[if_neg (show i+(m+1)≠i by lia),show i+(m+1)=i+1+m by lia];exact this
theorem pu {M:Mp}{b:IZ}{x y:D}(h:R Y M y (.ref b)) {v:IA}(r:R Y M (.tup [x,.ptr b]) v):R Y M (.tup [x,y]) v:=by
 obtain⟨a,o,us,rfl,q,t,u1,us,rfl,r1,u2,us,rfl,r2,rfl⟩:=r;cases r2;exact⟨a,o,_,rfl,q,t,u1,_,rfl,r1,_,_,rfl,h,rfl⟩
theorem Rs.of_get {M:Mp}{m:Bool}:∀{ds ds':List D}{vs:List IA},ds.length=ds'.length->(∀(i:Nat) d d' v,ds[i]?=U d->ds'[i]?=U d'->R m M d' v->R m M d v)->Rs m M ds' vs->Rs m M ds vs
 |[],[],vs,_,_,r=>r
 |d::ds,d'::ds',_,hl,h,⟨v,r,rfl,h1,h2⟩=>⟨v,r,rfl,h 0 d d' v rfl rfl h1,Rs.of_get (by simpa using hl) (λi d d' v a b=>h (i+1) d d' v (by simpa using a) (by simpa using b)) h2⟩
theorem uT {P:D->D->Prop}:∀{ds ds':List D}{bl:List Bool},ds.length=ds'.length->(∀(i:Nat) d d',ds[i]?=U d->ds'[i]?=U d'->P d d')->(eA ds bl).length=(eA ds' bl).length/\∀(i:Nat) d d',(eA ds bl)[i]?=U d->(eA ds' bl)[i]?=U d'->P d d'
 |[],[],bl,_,_=>⟨rfl,λi d d' e=>by simp[eA]at e⟩
 |x::ds,y::ds',[],_,_=>⟨rfl,λi d d' e=>by simp[eA]at e⟩
 |x::ds,y::ds',b::bl,hl,h=>by
  obtain⟨h1,h2⟩:=uT (P:=P) (bl:=bl) (ds:=ds) (ds':=ds') (by simpa using hl) λi d d' a b=>h (i+1) d d' (by simpa using a) (by simpa using b)
  cases b with
  |false=>simpa[eA]using⟨h1,h2⟩
  |true=>
   simp only[eA,if_true,IU,h1,true_and];intro i d d' a b;cases i with
   |zero=>simp at a b;exact h 0 d d' (by simpa using a) (by simpa using b)
   |succ i=>exact h2 i d d' (by simpa using a) (by simpa using b)
theorem AY {bs:List Bool}{δ:DEnv}{r:Nat}{d d':D}(h:δ[r]?=U (U (d,V))):aG Y bs (δ.set r (U (d',V)))=aG Y bs δ:=by
 apply LK;intro i;unfold aG;simp only[PK]
 by_cases q:r=i
 ·subst q
  rw[Je (List.getElem?_eq_some_iff.mp h).1,h]
  cases bs[r]?<;>simp
 ·rw[Jh q]
set_option tactic.hygienic true in
theorem tU {ft:DEnv->Option Bool}{μ:DEnv}{j:Nat}(hj:j<μ.length):∀{ds:List D}{bl:List Bool},cy (λd=>ft (μ.set j (U (d,Y)))) ds=U bl->aJ (au (af j) ft (λδ=>rd Y j δ) μ) ds=U (eA ds bl)
 |[],bl,h=>by simp[cy]at h;subst h;rfl
 |d::ds,bl,h=>by
  simp only[cy]at h;split at h
  ·rename_i b l q1 q2
   cases h;have ih:=tU hj q2;have e:au (af j) ft (λδ=>rd Y j δ) μ d=U (if b=V then U d else B):=by
    simp only[au,af,if_pos hj,ae,q1];cases b with
    |false=>rfl
    |true=>simp[rd,hj]
   simp only[aJ,e,ih];cases b<;>rfl
  ·cases h
theorem pT {f:D->Option Bool}{b:Nat->IZ}(hf:∀x y y',f (.tup [x,y])=f (.tup [x,y'])):∀{ds:List D}{i:Nat},cy f (be b i ds)=cy f ds
 |[],_=>rfl
 |d::ds,i=>by
  have e:f (match d with|.tup [x,_]=>.tup [x,.ptr (b i)]|d=>d)=f d:=by
   split
   ·exact hf _ _ _
   ·rfl
  simp only[be,cy,e,pT hf]
theorem v3 {b:Nat->IZ}{ds:List D}{k:Nat}{d:D}(hp:ds.all EM=V) (e:ds[k]?=U (.tup [x,y])) (h:((ds.take k).all λd=>cR d (.tup [x,y]))=V):
  (be b 0 ds).idxOf (.tup [x,.ptr (b k)])=k/\(((be b 0 ds).take k).all λd=>cR d (.tup [x,.ptr (b k)]))=V:=by
 have at':∀{m d},m<k->(be b 0 ds)[m]?=U d->cR d (.tup [x,.ptr (b k)])=V:=λ{m d} hm e=>by
  rw[qY]at e;obtain⟨d0,e0,rfl⟩:=Option.map_eq_some_iff.mp e;have q:=List.all_eq_true.mp h d0 (List.mem_iff_getElem?.mpr ⟨m,by rw[NT,if_pos hm];exact e0⟩)
  obtain⟨x',y',rfl,_⟩:=oH (List.all_eq_true.mp hp d0 (List.mem_iff_getElem?.mpr ⟨m,e0⟩));exact q
 have ek:(be b 0 ds)[k]?=U (.tup [x,.ptr (b k)]):=by rw[qY,e];simp
 refine⟨?_,List.all_eq_true.mpr λd hd=>?_⟩
 ·obtain⟨hk,ek⟩:=List.getElem?_eq_some_iff.mp ek
  refine List.findIdx_eq hk |>.mpr ⟨by simp[ek],λm hm=>?_⟩
  have:=at' hm (J8 (by lia))
  refine beq_eq_false_iff_ne.mpr λz=>?_
  rw[z]at this;simp[cR]at this
 ·obtain⟨m,hm⟩:=List.mem_iff_getElem?.mp hd
  rw[NT]at hm
  split at hm
  ·exact at' (by assumption) hm
  ·cases hm
set_option tactic.hygienic true in
theorem zI {X:Cx}{s1 s2 s3:J6}{rest:List J6}{r iL iT j n:Nat}{bs:List Bool}{ft:DEnv->Option Bool}{gr:DEnv->Option Out}{x:IX}(hN:X.N.length=n) (hb:bs.length=n) (hr:Nm X r x) (hrL:r≠iL) (hrT:r≠iT) (hLT:iL≠iT)
  (hf:∀δ:DEnv,δ.length=n->∀x y y',ft (δ.set j (U (.tup [x,y],Y)))=ft (δ.set j (U (.tup [x,y'],Y))))
  (h1:DS X s1 λδ=>eC iL (aj (ae (bA (aV r δ)) (bj Y bs (af j) ft (λδ=>rd Y j δ) δ))) δ)
  (h2:DS X s2 λδ=>aH iT (ifV (zw (rd V iL δ)) (ixO (aV iL δ) (U (.int 0))) (ixO (aV r δ) (U (.int 0)))) δ)
  (h3:DS X s3 λδ=>GP r (rd Y iT δ) δ) (h4:DSs X rest gr):DSs X (s1::s2::s3::rest) (λδ=>yO r iL iT j bs ft δ gr):=λ{M δ s o Q} I e k=>by
 obtain⟨ds,bl,e1,e2,e3,⟨l1,l2,l3,l4⟩,e4,e5,e6⟩:=wI e;have hlen:δ.length=n:=I.len.trans hN;obtain⟨m,hn,hv⟩:=id I.loc;obtain⟨u,_,a,ob,rfl,q,vs,t,rs⟩:=hv r x _ V hr.n e1 hr.v;obtain⟨b,rb,hb'⟩:=Ca 0 e4 rs;simp only[K4]at hb';have hrl:r<δ.length:=(List.getElem?_eq_some_iff.mp e1).1
 have hlb:=mZ e2;have hfk:bi bl<ds.length:=by
  unfold bi;split
  ·rename_i z;rw[<-hlb];exact Ko z
  ·exact e3
 generalize hK:bi bl=K at*;obtain⟨px,py,hpr,hok⟩:=oH (List.all_eq_true.mp e4 _ (Kh hfk));have hK0:ds[K]?=U (.tup [px,.lst py]):=by rw[J8 hfk,hpr]
 have hgD:ds.getD K .non=.tup [px,.lst py]:=by rw[KI,hK0];rfl
 rw[hgD]at e5 e6;have hKt:(be b 0 ds)[K]?=U (.tup [px,.ptr (b K)]):=by rw[qY,hK0];simp
 obtain⟨u1,u2⟩:=v3 (b:=b) (d:=.non) e4 hK0 e5;have I0:Inv X M (δ.set r (U (.lst (be b 0 ds),V))) s:=by
  refine⟨I.ok,I.og,I.heap,I.base,⟨m,hn,λi y d bb z1 z2 z3=>?_⟩,I.free,I.cell,I.tabs,I.own,I.uni,by simpa using I.len,I.sys⟩
  by_cases hi:r=i
  ·subst hi
   rw[Je hrl]at z2;cases z2
   obtain⟨u,hl,a',ob',rfl,q',_⟩:=hv r y _ V z1 e1 z3;obtain rfl:=I.uni _ _ _ _ _ q q';rw[q]at q';cases q';exact⟨_,hl,a,ob,rfl,q,vs,t,rb⟩
  ·rw[Jh hi]at z2;exact hv i y d bb z1 z2 z3
 have g1:eC iL (aj (ae (bA (aV r (δ.set r (U (.lst (be b 0 ds),V))))) (bj Y bs (af j) ft (λδ=>rd Y j δ) (δ.set r (U (.lst (be b 0 ds),V)))))) (δ.set r (U (.lst (be b 0 ds),V)))=U (.next ((δ.set r (U (.lst (be b 0 ds),V))).set iL (U (.lst (eA (be b 0 ds) bl),V)))):=by
  have hml:(aG Y bs δ).length=n:=by simp[aG,hb,hlen]
  have z1:aV r (δ.set r (U (.lst (be b 0 ds),V)))=U (.lst (be b 0 ds)):=by simp[aV,hrl]
  have z2:bj Y bs (af j) ft (λδ=>rd Y j δ) (δ.set r (U (.lst (be b 0 ds),V))) (be b 0 ds)=U (eA (be b 0 ds) bl):=by
   unfold bj;rw[if_pos (by rw[jT];exact l4),AY e1]
   exact tU (by lia) ((pT λx y y'=>hf _ hml x y y').trans e2)
  rw[z1];simp only[bA,ae,z2,aj,eC,KM,if_pos l1]
 have hph:=qJ (xs:=be b 0 ds) (bl:=bl) (by rw[jT];exact hlb)
 have g2:aH iT (ifV (zw (rd V iL ((δ.set r (U (.lst (be b 0 ds),V))).set iL (U (.lst (eA (be b 0 ds) bl),V))))) (ixO (aV iL ((δ.set r (U (.lst (be b 0 ds),V))).set iL (U (.lst (eA (be b 0 ds) bl),V)))) (U (.int 0))) (ixO (aV r ((δ.set r (U (.lst (be b 0 ds),V))).set iL (U (.lst (eA (be b 0 ds) bl),V)))) (U (.int 0)))) ((δ.set r (U (.lst (be b 0 ds),V))).set iL (U (.lst (eA (be b 0 ds) bl),V)))=U (.next (((δ.set r (U (.lst (be b 0 ds),V))).set iL (U (.lst (eA (be b 0 ds) bl),V))).set iT (U (.tup [px,.ptr (b K)],Y)))):=by
  have z1:rd V iL ((δ.set r (U (.lst (be b 0 ds),V))).set iL (U (.lst (eA (be b 0 ds) bl),V)))=U (.lst (eA (be b 0 ds) bl)):=by simp[rd,l1]
  have z2:aV iL ((δ.set r (U (.lst (be b 0 ds),V))).set iL (U (.lst (eA (be b 0 ds) bl),V)))=U (.lst (eA (be b 0 ds) bl)):=by simp[aV,l1]
  have z3:aV r ((δ.set r (U (.lst (be b 0 ds),V))).set iL (U (.lst (eA (be b 0 ds) bl),V)))=U (.lst (be b 0 ds)):=by unfold aV;rw[Jh (Jb hrL),Je hrl]
  have z4:ifV (zw (U (.lst (eA (be b 0 ds) bl)))) (ixO (U (.lst (eA (be b 0 ds) bl))) (U (.int 0))) (ixO (U (.lst (be b 0 ds))) (U (.int 0)))=U (.tup [px,.ptr (b K)]):=by
   by_cases ht:V∈bl
   ·have w:=hph.1 ht
    rw[hK,hKt]at w;cases hp:eA (be b 0 ds) bl with
    |nil=>rw[hp]at w;cases w
    |cons d0 dr=>rw[hp]at w;simp at w;subst w;exact(show atI (_::dr) 0=_ from vr rfl)
   ·have w:=hph.2 ht
    have:K=0:=by rw[<-hK];unfold bi;rw[if_neg ht]
    subst this;rw[w];cases hp:be b 0 ds with
    |nil=>rw[hp]at hKt;cases hKt
    |cons d0 dr=>rw[hp]at hKt;simp at hKt;subst hKt;exact(show atI (_::dr) 0=_ from vr rfl)
  rw[z1,z2,z3,z4];simp only[aH,KM,if_pos l2]
 have g3:GP r (rd Y iT (((δ.set r (U (.lst (be b 0 ds),V))).set iL (U (.lst (eA (be b 0 ds) bl),V))).set iT (U (.tup [px,.ptr (b K)],Y)))) (((δ.set r (U (.lst (be b 0 ds),V))).set iL (U (.lst (eA (be b 0 ds) bl),V))).set iT (U (.tup [px,.ptr (b K)],Y)))=U (.next ((((δ.set r (U (.lst (be b 0 ds),V))).set iL (U (.lst (eA (be b 0 ds) bl),V))).set iT (U (.tup [px,.ptr (b K)],Y))).set r (U (.lst ((be b 0 ds).eraseIdx K),V)))):=by
  have z1:rd Y iT (((δ.set r (U (.lst (be b 0 ds),V))).set iL (U (.lst (eA (be b 0 ds) bl),V))).set iT (U (.tup [px,.ptr (b K)],Y)))=U (.tup [px,.ptr (b K)]):=by simp[rd,l2]
  have z2:aV r (((δ.set r (U (.lst (be b 0 ds),V))).set iL (U (.lst (eA (be b 0 ds) bl),V))).set iT (U (.tup [px,.ptr (b K)],Y)))=U (.lst (be b 0 ds)):=by unfold aV;rw[Jh (Jb hrT),Jh (Jb hrL),Je hrl]
  unfold GP;rw[z1,z2];simp only[u1,hKt,hok,u2,jT,l4,decide_true,Li,if_true]
 refine J5 (h1 I0 g1 λs1 M1 x1 I1=>J5 (h2 I1 g2 λs2 M2 x2 I2=>J5 (h3 I2 g3 λs3 M3 x3 I3=>?_)))
 have xx:=x1.trans (x2.trans x3);have un1:∀m d d' v,ds[m]?=U d->(be b 0 ds)[m]?=U d'->R Y M3 d' v->R Y M3 d v:=λm d d' v w1 w2 w3=>by
  obtain⟨x',y',rfl,_⟩:=oH (List.all_eq_true.mp e4 d (List.mem_iff_getElem?.mpr ⟨m,w1⟩));rw[qY,w1]at w2;simp at w2;subst w2;exact pu ((hb' m _ _ w1).to xx.f) w3
 have hle:(be b 0 ds).length=ds.length:=jT;refine h4 (I3.view (by simp) λi d ow w=>?_) e6 (k.to xx)
 by_cases hir:r=i
 ·subst hir
  rw[Je (by simpa using hrl)]at w;cases w
  refine⟨_,Je (by simpa using hrl),λv z=>?_,λo z=>?_⟩
  ·obtain⟨a,o,vs,rfl,z1,z2,z3⟩:=z
   exact⟨a,o,vs,rfl,z1,z2,z3.of_get (by simp[PQ,hle]) λi d d' v w1 w2=>by
    rw[Po]at w1 w2
    split at w1
    ·rw[if_pos (by assumption)]at w2;exact un1 _ _ _ _ w1 w2
    ·rw[if_neg (by assumption)]at w2;exact un1 _ _ _ _ w1 w2⟩
  ·obtain⟨vs,z2,z3⟩:=z
   exact⟨vs,z2,z3.of_get (by simp[PQ,hle]) λi d d' v w1 w2=>by
    rw[Po]at w1 w2
    split at w1
    ·rw[if_pos (by assumption)]at w2;exact un1 _ _ _ _ w1 w2
    ·rw[if_neg (by assumption)]at w2;exact un1 _ _ _ _ w1 w2⟩
 ·rw[Jh hir]at w
  rw[Jh hir]
  by_cases hiT:iT=i
  ·subst hiT
   rw[Je (by simpa using l2)]at w;cases w
   refine⟨_,Je (by simpa using l2),λv z=>pu ((hb' K _ _ hK0).to xx.f) z,λo z=>z⟩
  ·rw[Jh hiT]at w
   rw[Jh hiT]
   by_cases hiL:iL=i
   ·subst hiL
    rw[Je (by simpa using l1)]at w;cases w
    obtain⟨p1,p2⟩:=uT (P:=λd d'=>∀v,R Y M3 d' v->R Y M3 d v) (bl:=bl) hle.symm λm d d' w1 w2 v=>un1 m d d' v w1 w2
    refine⟨_,Je (by simpa using l1),λv z=>?_,λo z=>?_⟩
    ·obtain⟨a,o,vs,rfl,z1,z2,z3⟩:=z
     exact⟨a,o,vs,rfl,z1,z2,z3.of_get p1 λi d d' v w1 w2=>p2 i d d' w1 w2 v⟩
    ·obtain⟨vs,z2,z3⟩:=z
     exact⟨vs,z2,z3.of_get p1 λi d d' v w1 w2=>p2 i d d' w1 w2 v⟩
   ·rw[Jh hiL]at w
    rw[Jh hiL,Jh hir]
    exact⟨d,w,λ_ z=>z,λ_ z=>z⟩
end L2
namespace L2
open PySem PySem.Spec PyProof.Rows Md
noncomputable def Ic:Option D->Option D->Option D:=b2 (bI (λ_ _=>V) λi j=>.int (i - j))
noncomputable def GF (x y:Option D):Option (List D):=match x,y with|some (.int i),U (.int j)=>if(decide (-(2 ^ 62)<=i/\i<2 ^ 62/\ -(2 ^ 62)<=j/\j<2 ^ 62))=V then U (iK i (j - i).toNat) else B|_,_=>B
noncomputable def D7 (x:Option D):Option D:=ae x λd=>match d with|.str _=>U (.bl V)|_=>B
variable[Md]
section
variable{X:Cx}{M:Mp}{δ:DEnv}{s:IB}{tg a b:Expr}{fa fb:DEnv->Option D}{m m' mm:Bool}{p pos:Ov}
theorem Gk (ha:DE X m a fa) (hb:DE X m' b fb):DE X mm (.BinOp a .Sub b pos) (λδ=>Ic (fa δ) (fb δ)):=wB (opI λ_ _ _ _ _ _ _ q=>sub_int q) ha hb
theorem DP {pc:Ov}(g:Bn X "isinstance") (gc:Bn X "str") (ha:DE X m a fa):DE X mm (.Call (.Name "isinstance" p) [a,.Name "str" pc] [] pos) (λδ=>D7 (fa δ)):=⟨rfl,λ{M δ s d Q} I e k=>by
 obtain⟨d,e1,e2⟩:=ag e;split at e2<;>cases e2
 refine Kg (I.bltn g (by rfl:bootBuiltins "isinstance"=U (.builtin "isinstance")) (KH ?_ (bB ha.pl) rfl))
 rw[bB ha.pl];refine Ke (ha.ev I e1 λv s1 M1 x1 I1 r=>Ke (I1.bltn gc (by rfl:bootBuiltins "str"=U (.type "str")) (KV ?_)))
 obtain⟨t,rfl⟩:=r;exact N9 PySem.W.kitx_str I1.kIn trivial (by rfl) (λz=>nomatch z) λtk=>k (.bool V) {s1 with toks:=tk} M1 x1 I1.tok rfl⟩
set_option tactic.hygienic true in
theorem C3 (g:Bn X "range") (h:DE X m a fa) (h':DE X m b fb):DI X mm tg (.Call (.Name "range" p) [a,b] [] pos) (λδ=>GF (fa δ) (fb δ)):=⟨rfl,λ{M δ s ds Q} I e k=>by
 unfold GF at e;split at e<;>try cases e
 split at e<;>cases e
 rename_i i j q1 q2 hj;have hj:=of_decide_eq_true hj;refine xM g boot_range (aT h (aT h' cL)) I (ds:=[.int i,.int j]) (by rw[q1,q2];rfl) λvs s1 M1 x1 I1 r=>?_
 obtain⟨_,_,rfl,⟨t,rfl⟩,_,_,rfl,⟨u,rfl⟩,rfl⟩:=r;refine call_range_2 (wpAny_pyIter_range (Pi ..) (small_one (by lia) (by lia) (by lia) (by lia)) ?_)
 refine k _ _ _ _ _ x1 (I1.push.push (t:=s1.toks+1)) (mC I.ok.room.hd i (j - i).toNat) ?_ λb hb=>?_
 ·rw[show i+((0:Nat):Int)*1=i by simp,show(((j - i).toNat:Nat):Int) - ((0:Nat):Int)=N7 i j 1 by rw[rangeSize_one];split<;>lia]
  exact IF _ rfl
 ·rw[List.mem_singleton.mp hb];exact I1.fresh (by rw[JG];exact LQ _)⟩
end
end L2
namespace K61
open PySem L2 Md
variable[Md]
local macro_rules| `(tactic|walk_at "z")=>do
  let zz:=λs:String=>(s.splitOn " ").toArray.mapM λx=>(do let i:=Lean.mkIdent x.toName;`(Lean.Parser.Tactic.tacticSeq|refine' @$i ..):Lean.MacroM (Lean.TSyntax `Lean.Parser.Tactic.tacticSeq))
  let a<-zz "nv F2 Ff Bm HA Ak EC ES F4 Bl Dp Bc F3 E4 Ex EX FJ GA Dh Et Fu BJ Hs FT HG EU Gn Hl EE EY HH EW FM C7 Da EB DF.share"
  let b<-zz "vT AP BH CE yW Al tN BD AB Ek wO df_sortedSet DY xj Fm FQ zB CS BM tH"
  let c<-zz "Dv GH GM FY HJ BN HD Hk xC GR Fa Ep"
  let d<-zz "Ew Bf Dc Br AU wi Gx vL ds_remove A6 Ds E6 HM xR GD uN Fd"
  let e<-zz "Do Gv CN FX CV D5 Go"
  let f<-zz "DH DZ ii ED"
  `(tactic|first
 |fail_if_success refine(?_:(_:Prop))
 |rfl
 |assumption
 |(((with_reducible first|(refine'(?_:DE ..);first $[|$a]*)|(refine'(?_:DF ..);first $[|$b]*)|(refine'(?_:DT ..);first $[|$c]*)|(refine'(?_:DS ..);first $[|$d]*)|refine' @cL .. |refine' @aT .. |(refine'(?_:DI2 ..);first $[|$e]*)|refine' @ET .. |refine' @A5 .. |refine' @AT .. |refine' @Eh .. |refine' @DV .. |refine' @Er .. |refine' @CR .. |refine' @D9 .. |refine' @xw .. |refine' @CW .. |(refine'(?_:DW ..);first|refine' @Hg .. |refine' @E9 .. |refine' @Fp ..)|(refine'(?_:DSs ..);first $[|$f]*))<;>walk_at "z");all_goals exact Y)
 |(have h:=(by assumption:Has _ _ _);first|exact Has.nm h (by decide +kernel)|exact Has.nm (Has.comp h ..) (by decide +kernel)|exact Has.nm (Has.comp (Has.comp h ..) ..) (by decide +kernel))
 |(have h:=(by assumption:Has _ _ _);exact Has.nmI h (by decide +kernel))
 |(have h:=(by assumption:Has _ _ _);first|exact Has.lc h (by assumption) (by decide +kernel)|exact Has.lcl (Has.comp h ..) (by decide +kernel)|exact Has.lcl (Has.comp (Has.comp h ..) ..) (by decide +kernel))
 |(have T:=(by assumption:Txb _);have h:=(by assumption:Has _ _ _);first|exact Txb.bn T h (by decide +kernel)|exact Txb.bn T (Has.comp h ..) (by decide +kernel)|exact Txb.bn T (Has.comp (Has.comp h ..) ..) (by decide +kernel))
 |(have h:=(by assumption:Has _ _ _);first|exact Has.gb h (by decide +kernel)|exact Has.gb (Has.comp h ..) (by decide +kernel)|exact Has.gb (Has.comp (Has.comp h ..) ..) (by decide +kernel))
 |(have h:=(by assumption:Room _ _);exact Room.mono h (by decide))
 |(have h:=(by assumption:Has _ _ _);first|exact Has.nd h|exact Has.nd (Has.comp h ..)|exact Has.nd (Has.comp (Has.comp h ..) ..))
 |(have h:=(by assumption:Has _ _ _);first|exact CompScope.of' h (by decide +kernel)|exact CompScope.of' (Has.comp h ..) (by decide +kernel))
 |exact xZ _
 |exact yb _ _ (by decide)
 |exact HF
 |exact λ_ _ _ _ _=>.of_eq rfl
 |exact⟨rfl,rfl,rfl,by decide +kernel,rfl,by decide +kernel,by decide +kernel⟩
 |exact HQ
 |exact Hw
 |exact .inl rfl
 |exact .inr rfl
 |exact aI (aI iC)
 |exact aI (aI (aI (aI (aI (aI iC)))))
 |exact aI iC
 |exact aI (aI (aI iC))
 |(have h:=(by assumption:Has _ _ _);exact wq h (by decide +kernel))
 |decide +kernel
 |decide
 |(simp;done)
 |(intros;rfl)
 |(intro _;walk_at "z"))
local macro_rules| `(tactic|walk_at "sc")=> `(tactic|first
 |exact⟨rfl,rfl,rfl,by decide +kernel,rfl,by decide +kernel,by decide +kernel⟩)
local macro_rules| `(tactic|walk_at "bi")=> `(tactic|first
 |exact λ_ _ _ _ _ _=>usS λ_=>us0 rfl
 |exact λ_ _ _ _ _ _=>usS λ_=>usS λ_=>us0 rfl
 |exact λ_ _ _ _ _ _=>usS λ_=>usS λ_=>usS λ_=>us0 rfl
 |exact λ_ _ _ _ _ _=>usS λ_=>usS λ_=>usS λ_=>usS λ_=>us0 rfl
 |exact λ_ _ _ _ _ _=>usS λ_=>usS λ_=>usS λ_=>usS λ_=>usS λ_=>us0 rfl
 |exact λ_ _ _ _ _ _=>usS λ_=>usS λ_=>usS λ_=>usS λ_=>usS λ_=>usS λ_=>us0 rfl)
local macro_rules| `(tactic|walk_at "mk")=> `(tactic|first
 |(intro X h f r;(conv in defBody _=>whnf);walk_at "z"))
local macro_rules| `(tactic|walk_at "z")=> `(tactic|first
 |(((with_reducible first|refine' @DP .. |refine' @Gk .. |refine' @C3 ..)<;>walk_at "z");all_goals exact Y))
noncomputable abbrev rY:=rd Y
noncomputable abbrev wN:List IX:=["rows"]
noncomputable abbrev mM (δ:DEnv):Option Out:=c9 (sortSetO .ts Y (rY 0 δ))
noncomputable def f_stand_of:List D->Option (D×Bool):=bv 1 1 mM
noncomputable abbrev sd:List IX:=["rows","numbers","table","cells","cell"]
noncomputable abbrev dE (δ:DEnv):Option D:=ixO (rY 4 δ) (U (.int 1))
noncomputable abbrev hX (δ:DEnv):Option Out:=Cw 1 (aj (ae (rB (rY 3 δ)) (bj Y [Y,Y,Y,Y,Y] (af 4) (λδ=>eqO (ixO (rY 4 δ) (U (.int 0))) (U (.str "blank"))) dE δ))) δ
noncomputable abbrev nY (δ:DEnv):Option Out:=c9 (sortSetO .it V (rY 1 δ))
noncomputable abbrev kj (δ:DEnv):Option Out:=ak (eC 1 (cX (U [])) δ) (λδ=>ak (ae (bA (rY 0 δ)) λds=>am (λd δ=>ae ((aL (ah (af 2) (ah (af 3) (toNil)))) d δ) hX) ds δ) (λδ=>nY (iE 1 δ)))
noncomputable def f_blanks_of:List D->Option (D×Bool):=bv 5 1 kj
noncomputable abbrev tS:List IX:=["row","cell_for","cell"]
noncomputable abbrev dx (δ:DEnv):Option D:=cO (rY 1 δ) (rY 2 δ) (rY 2 δ)
noncomputable abbrev gE (δ:DEnv):Option Out:=aW (bF (aa (ixO (rY 0 δ) (U (.int 0))) (aa (cK (aj (ae (rB (ixO (rY 0 δ) (U (.int 1)))) (bj Y [Y,V,Y] (af 2) (λδ=>U V) dx δ)))) (U []))))
noncomputable def f_exchanged:List D->Option (D×Bool):=bv 3 2 gE
noncomputable abbrev CK:List IX:=["rows","moves","cell_for","cell","number","row"]
noncomputable abbrev yl (δ:DEnv):Option D:=bF (aa (bF (aa (U (.str "blank")) (aa (rY 4 δ) (U [])))) (aa (rY 3 δ) (U [])))
noncomputable abbrev oZ (δ:DEnv):Option D:=shO (ae (aa (rY 5 δ) (aa (rY 2 δ) (U []))) f_exchanged)
noncomputable abbrev su (δ:DEnv):Option Out:=ak (aH 2 (jR (aj (ae (bA (rY 1 δ)) (bj Y [Y,Y,Y,Y,Y,Y] (aL (ah (af 4) (ah (af 3) (toNil)))) (λδ=>U V) yl δ)))) δ) (λδ=>c9 (frO (ae (aa (aj (ae (bA (rY 0 δ)) (bj Y [Y,Y,V,Y,Y,Y] (af 5) (λδ=>U V) oZ δ))) (U [])) f_stand_of)))
noncomputable def f_moved:List D->Option (D×Bool):=bv 6 2 su
noncomputable abbrev zD:List IX:=["patterns","fit","cell_for","pattern","cell","letter"]
noncomputable abbrev wh (δ:DEnv):Option D:=bF (aa (bF (aa (U (.str "any")) (aa (rY 5 δ) (U [])))) (aa (rY 4 δ) (U [])))
noncomputable abbrev mE (δ:DEnv):Option D:=shO (ae (aa (rY 3 δ) (aa (rY 2 δ) (U []))) f_exchanged)
noncomputable abbrev ni (δ:DEnv):Option Out:=ak (aH 2 (jR (aj (ae (bA (rY 1 δ)) (bj Y [Y,Y,Y,Y,Y,Y] (aL (ah (af 5) (ah (af 4) (toNil)))) (λδ=>U V) wh δ)))) δ) (λδ=>c9 (aj (ae (bA (rY 0 δ)) (bj Y [Y,Y,V,Y,Y,Y] (af 3) (λδ=>U V) mE δ))))
noncomputable def f_filled:List D->Option (D×Bool):=bv 6 2 ni
noncomputable abbrev qb:List IX:=["patterns","letters","table","terms","term"]
noncomputable abbrev fZ (δ:DEnv):Option D:=ixO (rY 4 δ) (U (.int 1))
noncomputable abbrev gf (δ:DEnv):Option Out:=Cw 1 (aj (ae (rB (rY 3 δ)) (bj Y [Y,Y,Y,Y,Y] (af 4) (λδ=>eqO (ixO (rY 4 δ) (U (.int 0))) (U (.str "any"))) fZ δ))) δ
noncomputable abbrev lR (δ:DEnv):Option Out:=c9 (sortSetO .st V (rY 1 δ))
noncomputable abbrev jt (δ:DEnv):Option Out:=ak (eC 1 (cX (U [])) δ) (λδ=>ak (ae (bA (rY 0 δ)) λds=>am (λd δ=>ae ((aL (ah (af 2) (ah (af 3) (toNil)))) d δ) gf) ds δ) (λδ=>lR (iE 1 δ)))
noncomputable def f_letters_of:List D->Option (D×Bool):=bv 5 1 jt
noncomputable abbrev qA:List IX:=["terms","cells","binding","term","cell"]
noncomputable abbrev gC (δ:DEnv):Option (Bool×DEnv):=neX (sdO 2 (ixO (rY 3 δ) (U (.int 1))) (rY 4 δ) δ) (λδ=>rY 4 δ)
noncomputable abbrev bh (δ:DEnv):Option Out:=ifO (eqO (ixO (rY 3 δ) (U (.int 0))) (U (.str "any"))) (ifX (gC δ) (λδ=>aW (U .non)) (λδ=>nextO δ)) (ifO (neO (rY 3 δ) (rY 4 δ)) (aW (U .non)) (nextO δ))
noncomputable abbrev fj (δ:DEnv):Option Out:=ak (eC 2 (U (.dK [] [])) δ) (λδ=>ak (ae (xI V V (rY 0 δ) (rY 1 δ)) λds=>am (λd δ=>ae ((aL (ah (af 3) (ah (af 4) (toNil)))) d δ) bh) ds δ) (λδ=>c9 (aV 2 δ)))
noncomputable def f_binding_of:List D->Option (D×Bool):=bv 5 2 fj
noncomputable abbrev wK:List IX:=["rows","pattern","found","table","cells","binding"]
noncomputable abbrev jm (δ:DEnv):Option Out:=ifO (mN (eqO (rY 3 δ) (ixO (rY 1 δ) (U (.int 0)))) (eqO (cE (rY 4 δ)) (cE (ixO (rY 1 δ) (U (.int 1)))))) (ak (aH 5 (shO (ae (aa (ixO (rY 1 δ) (U (.int 1))) (aa (rY 4 δ) (U []))) f_binding_of)) δ) (λδ=>ifO (fM (wP (rY 5 δ))) (jA 2 (rY 5 δ) δ) (nextO δ))) (nextO δ)
noncomputable abbrev nh (δ:DEnv):Option Out:=ak (eC 2 (cX (U [])) δ) (λδ=>ak (ae (bA (rY 0 δ)) λds=>am (λd δ=>ae ((aL (ah (af 3) (ah (af 4) (toNil)))) d δ) jm) ds δ) (λδ=>c9 (aV 2 δ)))
noncomputable def f_bindings:List D->Option (D×Bool):=bv 6 2 nh
noncomputable abbrev r9:List IX:=["pattern","known","letter"]
noncomputable abbrev dy (δ:DEnv):Option D:=ofB (inO (rY 2 δ) (rY 1 δ))
noncomputable abbrev gK (δ:DEnv):Option Out:=aW (GV (aj (ae (bA (frO (ae (aa (cX (aa (rY 0 δ) (U []))) (U [])) f_letters_of))) (bj Y [Y,V,Y] (af 2) (λδ=>U V) dy δ))))
noncomputable def f_is_linked:List D->Option (D×Bool):=bv 3 2 gK
noncomputable abbrev lQ:List IX:=["rows","body","known","rest","placed","bound","linked","taken","pattern","pair"]
noncomputable abbrev aR (δ:DEnv):Option D:=bF (aa (rY 8 δ) (aa (frO (ae (aa (rY 0 δ) (aa (rY 8 δ) (U []))) f_bindings)) (U [])))
noncomputable abbrev aQ (δ:DEnv):Option D:=cE (ixO (rY 0 δ) (U (.int 1)))
noncomputable abbrev bu (δ:DEnv):Option D:=ixO (rY 9 δ) (U (.int 0))
noncomputable abbrev bZ (δ:DEnv):Option Bool:=tyB (shO (ae (aa (ixO (rY 9 δ) (U (.int 0))) (aa (rY 5 δ) (U []))) f_is_linked))
noncomputable abbrev dX (δ:DEnv):Option Out:=jA 4 (rY 7 δ) δ
noncomputable abbrev br (δ:DEnv):Option Bool:=zw (rd V 3 δ)
noncomputable abbrev bq (δ:DEnv):Option Out:=ak (aH 5 (pY (eQ (rY 2 δ)) (flO (ae (aa (aj (mh (ae (bA (rd V 4 δ)) (bj V [Y,Y,Y,Y,Y,Y,Y,Y,Y,Y] (af 9) (λδ=>U V) bu δ)))) (U [])) f_letters_of))) δ) (λδ=>yO 3 6 7 9 [Y,Y,Y,Y,Y,V,Y,Y,Y,Y] bZ δ dX)
noncomputable abbrev cU (δ:DEnv):Option Out:=ak (eC 3 (jO (aj (ae (bA (rY 1 δ)) (bj Y [V,Y,Y,Y,Y,Y,Y,Y,Y,Y] (af 8) (λδ=>U V) aR δ))) (λd=>aQ [U (d,Y)])) δ) (λδ=>ak (eC 4 (cX (U [])) δ) (λδ=>ak (aP br bq 1000 δ) (λδ=>c9 (aV 4 δ))))
noncomputable def f_search_order:List D->Option (D×Bool):=bv 10 3 cU
noncomputable abbrev sO:List IX:=["letters","known","letter"]
noncomputable abbrev nF (δ:DEnv):Option D:=G3 (rY 1 δ) (rY 2 δ)
noncomputable abbrev jS (δ:DEnv):Option Out:=c9 (aj (ae (bA (rY 0 δ)) (bj Y [Y,V,Y] (af 2) (λδ=>U V) nF δ)))
noncomputable def f_places_of:List D->Option (D×Bool):=bv 3 2 jS
noncomputable abbrev xS:List IX:=["found","shared","added","groups","binding","key","group","letter"]
noncomputable abbrev lD (δ:DEnv):Option D:=EP (rY 4 δ) (rY 7 δ)
noncomputable abbrev tB (δ:DEnv):Option D:=EP (rY 4 δ) (rY 7 δ)
noncomputable abbrev lK (δ:DEnv):Option (List D):=bA (rY 0 δ)
noncomputable abbrev dF (δ:DEnv):Option D:=cK (aj (ae (bA (rY 1 δ)) (bj Y [Y,Y,Y,Y,V,Y,Y,Y] (af 7) (λδ=>U V) lD δ)))
noncomputable abbrev dw (δ:DEnv):Option D:=cK (aj (ae (bA (rY 2 δ)) (bj Y [Y,Y,Y,Y,V,Y,Y,Y] (af 7) (λδ=>U V) tB δ)))
noncomputable abbrev lw (δ:DEnv):Option Out:=Fg 3 4 5 6 lK dF dw δ
noncomputable def f_grouped:List D->Option (D×Bool):=bv 8 3 lw
noncomputable abbrev AS:List IX:=["cells","places","place"]
noncomputable abbrev wd (δ:DEnv):Option D:=ixO (rY 0 δ) (rY 2 δ)
noncomputable abbrev uM (δ:DEnv):Option Out:=aW (cK (aj (ae (bA (rY 1 δ)) (bj Y [V,Y,Y] (af 2) (λδ=>U V) wd δ))))
noncomputable def f_picked:List D->Option (D×Bool):=bv 3 2 uM
noncomputable abbrev wj:List IX:=["found","shared_places","kept_places","groups","longer","cells","kept","added"]
noncomputable abbrev eY (δ:DEnv):Option Out:=Ar 4 (Bp (rY 6 δ) (rY 7 δ)) (U (.bl V)) δ
noncomputable abbrev i7 (δ:DEnv):Option Out:=ak (aH 6 (shO (ae (aa (rY 5 δ) (aa (rY 2 δ) (U []))) f_picked)) δ) (λδ=>ae (yA (cO (rY 3 δ) (shO (ae (aa (rY 5 δ) (aa (rY 1 δ) (U []))) f_picked)) (U (.dD [] [])))) λds=>am (λd δ=>ae ((af 7) d δ) eY) ds δ)
noncomputable abbrev rj (δ:DEnv):Option Out:=c9 (yp (rY 4 δ))
noncomputable abbrev m7 (δ:DEnv):Option Out:=ak (eC 4 (U (.dD [] [])) δ) (λδ=>ak (ae (bA (rY 0 δ)) λds=>am (λd δ=>ae ((af 5) d δ) i7) ds δ) (λδ=>rj (iE 4 δ)))
noncomputable def f_extended:List D->Option (D×Bool):=bv 8 4 m7
noncomputable abbrev oS:List IX:=["rows","body","wanted","known","found","pairs","place","pair","later","own","shared","added","kept","groups","wanted_places","letter","cells","behind"]
noncomputable abbrev kC (δ:DEnv):Option D:=ixO (rY 17 δ) (U (.int 0))
noncomputable abbrev jW (δ:DEnv):Option D:=rY 15 δ
noncomputable abbrev kX (δ:DEnv):Option D:=rY 15 δ
noncomputable abbrev kO (δ:DEnv):Option D:=rY 15 δ
noncomputable abbrev lC (δ:DEnv):Option Out:=ak (aH 13 (frO (ae (aa (ixO (rY 7 δ) (U (.int 1))) (aa (rY 10 δ) (aa (rY 11 δ) (U [])))) f_grouped)) δ) (λδ=>ak (aH 4 (frO (ae (aa (rY 4 δ) (aa (frO (ae (aa (rY 10 δ) (aa (rY 3 δ) (U []))) f_places_of)) (aa (frO (ae (aa (rY 12 δ) (aa (rY 3 δ) (U []))) f_places_of)) (aa (rY 13 δ) (U []))))) f_extended)) δ) (λδ=>aH 3 (pY (rY 12 δ) (rY 11 δ)) δ))
noncomputable abbrev kz (δ:DEnv):Option Out:=ak (eC 12 (aj (ae (bA (rY 3 δ)) (bj Y [Y,Y,Y,Y,Y,Y,Y,Y,V,Y,Y,Y,Y,Y,Y,Y,Y,Y] (af 15) (λδ=>inO (rY 15 δ) (rY 8 δ)) kO δ))) δ) (λδ=>lC (iE 12 δ))
noncomputable abbrev kg (δ:DEnv):Option Out:=ak (eC 11 (aj (ae (bA (rY 9 δ)) (bj Y [Y,Y,Y,V,Y,Y,Y,Y,V,Y,Y,Y,Y,Y,Y,Y,Y,Y] (af 15) (λδ=>mN (inO (rY 15 δ) (rY 8 δ)) (bC (rY 15 δ) (rY 3 δ))) kX δ))) δ) (λδ=>kz (iE 11 δ))
noncomputable abbrev cu (δ:DEnv):Option Out:=ak (aH 8 (pY (eQ (rY 2 δ)) (frO (ae (aa (aj (ae (bA (wC (rY 5 δ) (cx (bY (rY 6 δ) (U (.int 1)))) (U B))) (bj Y [Y,Y,Y,Y,Y,Y,Y,Y,Y,Y,Y,Y,Y,Y,Y,Y,Y,Y] (af 17) (λδ=>U V) kC δ))) (U [])) f_letters_of))) δ) (λδ=>ak (aH 9 (frO (ae (aa (cX (aa (ixO (rY 7 δ) (U (.int 0))) (U []))) (U [])) f_letters_of)) δ) (λδ=>ak (eC 10 (aj (ae (bA (rY 9 δ)) (bj Y [Y,Y,Y,V,Y,Y,Y,Y,Y,Y,Y,Y,Y,Y,Y,Y,Y,Y] (af 15) (λδ=>inO (rY 15 δ) (rY 3 δ)) jW δ))) δ) (λδ=>kg (iE 10 δ))))
noncomputable abbrev j3 (δ:DEnv):Option D:=shO (ae (aa (rY 16 δ) (aa (rY 14 δ) (U []))) f_picked)
noncomputable abbrev il (δ:DEnv):Option Out:=ak (aH 5 (frO (ae (aa (rY 0 δ) (aa (rY 1 δ) (aa (rY 3 δ) (U [])))) f_search_order)) δ) (λδ=>ak (ae (pf (rY 5 δ)) λds=>am (λd δ=>ae ((aL (ah (af 6) (ah (af 7) (toNil)))) d δ) cu) ds δ) (λδ=>ak (aH 14 (frO (ae (aa (rY 2 δ) (aa (rY 3 δ) (U []))) f_places_of)) δ) (λδ=>c9 (eB .tt (aj (ae (bA (rY 4 δ)) (bj Y [Y,Y,Y,Y,Y,Y,Y,Y,Y,Y,Y,Y,Y,Y,V,Y,Y,Y] (af 16) (λδ=>U V) j3 δ)))))))
noncomputable def f_joined_from:List D->Option (D×Bool):=bv 18 5 il
noncomputable abbrev Be:List IX:=["rows","body","wanted"]
noncomputable abbrev jM (δ:DEnv):Option Out:=c9 (frO (ae (aa (rY 0 δ) (aa (rY 1 δ) (aa (rY 2 δ) (aa (cX (U [])) (aa (cX (aa (bF (U [])) (U []))) (U [])))))) f_joined_from))
noncomputable def f_joined:List D->Option (D×Bool):=bv 3 3 jM
noncomputable abbrev yw:List IX:=["rows","question"]
noncomputable abbrev lM (δ:DEnv):Option Out:=c9 (frO (ae (aa (rY 0 δ) (aa (ixO (rY 1 δ) (U (.int 1))) (aa (ixO (rY 1 δ) (U (.int 0))) (U [])))) f_joined))
noncomputable def f_answers:List D->Option (D×Bool):=bv 2 2 lM
noncomputable abbrev v0:List IX:=["rows","body","known","cells","letter"]
noncomputable abbrev cN (δ:DEnv):Option Out:=ifO (bC (rY 4 δ) (rd V 2 δ)) (ak (aH 3 (ixO (flO (ae (aa (rd V 0 δ) (aa (rd V 1 δ) (aa (Aw (rd V 2 δ) (cX (aa (rY 4 δ) (U [])))) (aa (rd V 2 δ) (aa (cX (aa (rY 3 δ) (U []))) (U [])))))) f_joined_from)) (U (.int 0))) δ) (λδ=>jA 2 (rY 4 δ) δ)) (nextO δ)
noncomputable abbrev jk (δ:DEnv):Option Out:=c9 (eB .ts (qB Y V (rY 2 δ) (rY 3 δ)))
noncomputable abbrev iJ (δ:DEnv):Option Out:=ak (eC 2 (eQ (rY 2 δ)) δ) (λδ=>ak (ae (bA (frO (ae (aa (rY 1 δ) (U [])) f_letters_of))) λds=>am (λd δ=>ae ((af 4) d δ) cN) ds δ) (λδ=>jk (iE 2 δ)))
noncomputable def f_fit_with:List D->Option (D×Bool):=bv 5 4 iJ
noncomputable abbrev DL:List IX:=["rule","known","letter"]
noncomputable abbrev rp (δ:DEnv):Option D:=rY 2 δ
noncomputable abbrev rU (δ:DEnv):Option Out:=ak (aH 1 (frO (ae (aa (ixO (rY 0 δ) (U (.int 1))) (U [])) f_letters_of)) δ) (λδ=>c9 (aj (ae (bA (frO (ae (aa (ixO (rY 0 δ) (U (.int 2))) (U [])) f_letters_of))) (bj Y [Y,V,Y] (af 2) (λδ=>bC (rY 2 δ) (rY 1 δ)) rp δ))))
noncomputable def f_fresh:List D->Option (D×Bool):=bv 3 1 rU
noncomputable abbrev rX:List IX:=["rule"]
noncomputable abbrev lB (δ:DEnv):Option Out:=aW (bF (aa (U (.str "same")) (aa (bF (aa (ixO (rY 0 δ) (U (.int 2))) (aa (ixO (rY 0 δ) (U (.int 3))) (U [])))) (U []))))
noncomputable def f_two_terms:List D->Option (D×Bool):=bv 1 1 lB
noncomputable abbrev hU:List IX:=["rule","known","letter"]
noncomputable abbrev b8 (δ:DEnv):Option D:=rY 2 δ
noncomputable abbrev aU (δ:DEnv):Option Out:=ak (ifO (eqO (ixO (rY 0 δ) (U (.int 0))) (U (.str "same"))) (c9 (frO (ae (aa (cX (aa (shO (ae (aa (rY 0 δ) (U [])) f_two_terms)) (U []))) (U [])) f_letters_of))) (nextO δ)) (λδ=>ak (aH 1 (frO (ae (aa (ixO (rY 0 δ) (U (.int 1))) (U [])) f_letters_of)) δ) (λδ=>c9 (aj (ae (bA (frO (ae (aa (ixO (rY 0 δ) (U (.int 2))) (U [])) f_letters_of))) (bj Y [Y,V,Y] (af 2) (λδ=>inO (rY 2 δ) (rY 1 δ)) b8 δ)))))
noncomputable def f_deciding_letters:List D->Option (D×Bool):=bv 3 1 aU
noncomputable abbrev tm:List IX:=["cells"]
noncomputable abbrev gI (δ:DEnv):Option Out:=aW (ofB (neO (ixO (rY 0 δ) (U (.int 0))) (ixO (rY 0 δ) (U (.int 1)))))
noncomputable def f_is_unlike:List D->Option (D×Bool):=bv 1 1 gI
noncomputable abbrev tv:List IX:=["rule","fit"]
noncomputable abbrev dG (δ:DEnv):Option Out:=aW (ixO (ixO (frO (ae (aa (cX (aa (shO (ae (aa (rY 0 δ) (U [])) f_two_terms)) (U []))) (aa (rY 1 δ) (U []))) f_filled)) (U (.int 0))) (U (.int 1)))
noncomputable def f_two_cells:List D->Option (D×Bool):=bv 2 2 dG
noncomputable abbrev lP:List IX:=["rows","rule","letters","found","kept","cells"]
noncomputable abbrev dT (δ:DEnv):Option D:=rY 5 δ
noncomputable abbrev jx (δ:DEnv):Option D:=bF (aa (rY 5 δ) (aa (U (.bl V)) (U [])))
noncomputable abbrev d6 (δ:DEnv):Option D:=rY 5 δ
noncomputable abbrev bT (δ:DEnv):Option Out:=ak (aH 2 (frO (ae (aa (rY 1 δ) (U [])) f_deciding_letters)) δ) (λδ=>ak (aH 3 (frO (ae (aa (rY 0 δ) (aa (ixO (rY 1 δ) (U (.int 1))) (aa (rY 2 δ) (U [])))) f_joined)) δ) (λδ=>ak (ifO (eqO (ixO (rY 1 δ) (U (.int 0))) (U (.str "same"))) (c9 (aj (ae (bA (rY 3 δ)) (bj Y [Y,V,V,Y,Y,Y] (af 5) (λδ=>tyB (shO (ae (aa (shO (ae (aa (rY 1 δ) (aa (qB Y V (rY 2 δ) (rY 5 δ)) (U []))) f_two_cells)) (U [])) f_is_unlike))) dT δ)))) (nextO δ)) (λδ=>ak (aH 4 (jR (aj (ae (bA (frO (ae (aa (rY 0 δ) (aa (ixO (rY 1 δ) (U (.int 2))) (aa (rY 2 δ) (U [])))) f_joined))) (bj Y [Y,Y,Y,Y,Y,Y] (af 5) (λδ=>U V) jx δ)))) δ) (λδ=>c9 (aj (ae (bA (rY 3 δ)) (bj Y [Y,Y,Y,Y,V,Y] (af 5) (λδ=>fM (F8 (rY 5 δ) (rY 4 δ))) d6 δ)))))))
noncomputable def f_broken_cells:List D->Option (D×Bool):=bv 6 2 bT
noncomputable abbrev o0:List IX:=["rule"]
noncomputable abbrev eZ (δ:DEnv):Option Out:=ak (ifO (eqO (ixO (rY 0 δ) (U (.int 0))) (U (.str "same"))) (aW (U (.int 0))) (nextO δ)) (λδ=>aW (ifV (zw (frO (ae (aa (rY 0 δ) (U [])) f_fresh))) (U (.int 2)) (U (.int 1))))
noncomputable def f_urgency_of:List D->Option (D×Bool):=bv 1 1 eZ
noncomputable abbrev Ht:List IX:=["cells","cell"]
noncomputable abbrev sA (δ:DEnv):Option D:=ixO (rY 1 δ) (U (.int 1))
noncomputable abbrev CF (δ:DEnv):Option Out:=aW (qm (aj (ae (rB (rY 0 δ)) (bj Y [Y,Y] (af 1) (λδ=>eqO (ixO (rY 1 δ) (U (.int 0))) (U (.str "blank"))) sA δ))) (zF (U (.int 1))))
noncomputable def f_age:List D->Option (D×Bool):=bv 2 1 CF
noncomputable abbrev n9:List IX:=["stand","rules","urgency","found","k","rule","oldest","cells"]
noncomputable abbrev fH (δ:DEnv):Option D:=bF (aa (shO (ae (aa (rY 7 δ) (U [])) f_age)) (aa (rY 4 δ) (aa (rY 7 δ) (U []))))
noncomputable abbrev cr (δ:DEnv):Option Out:=ifO (eqO (shO (ae (aa (rY 5 δ) (U [])) f_urgency_of)) (rY 2 δ)) (Cw 3 (aj (ae (bA (frO (ae (aa (rY 0 δ) (aa (rY 5 δ) (U []))) f_broken_cells))) (bj Y [Y,Y,Y,Y,V,Y,Y,Y] (af 7) (λδ=>U V) fH δ))) δ) (nextO δ)
noncomputable abbrev eU (δ:DEnv):Option Out:=ak (aH 6 (Gg (rY 3 δ)) δ) (λδ=>ak (aH 5 (ixO (rY 1 δ) (ixO (rY 6 δ) (U (.int 1)))) δ) (λδ=>aW (bF (aa (ixO (rY 6 δ) (U (.int 1))) (aa (frO (ae (aa (rY 0 δ) (aa (ixO (rY 5 δ) (U (.int 1))) (aa (frO (ae (aa (rY 5 δ) (U [])) f_deciding_letters)) (aa (ixO (rY 6 δ) (U (.int 2))) (U []))))) f_fit_with)) (U []))))))
noncomputable abbrev aN (δ:DEnv):Option Out:=ak (eC 3 (cX (U [])) δ) (λδ=>ak (ae (pf (rY 1 δ)) λds=>am (λd δ=>ae ((aL (ah (af 4) (ah (af 5) (toNil)))) d δ) cr) ds δ) (λδ=>ifO (zw (rd V 3 δ)) (eU (iE 3 δ)) (nextO δ)))
noncomputable abbrev dH (δ:DEnv):Option Out:=ak (ae (rD (U (.int 3))) λds=>am (λd δ=>ae ((af 2) d δ) aN) ds δ) (λδ=>aW (U .non))
noncomputable def f_next_broken:List D->Option (D×Bool):=bv 8 2 dH
noncomputable abbrev vY:List IX:=["rule","fit","cells"]
noncomputable abbrev iX (δ:DEnv):Option Out:=ak (ifO (neO (ixO (rY 0 δ) (U (.int 0))) (U (.str "same"))) (aW (U (.bl Y))) (nextO δ)) (λδ=>ak (aH 2 (shO (ae (aa (rY 0 δ) (aa (rY 1 δ) (U []))) f_two_cells)) δ) (λδ=>aW (GZ (ofB (eqO (ixO (ixO (rY 2 δ) (U (.int 0))) (U (.int 0))) (U (.str "name")))) (ofB (eqO (ixO (ixO (rY 2 δ) (U (.int 1))) (U (.int 0))) (U (.str "name")))))))
noncomputable def f_is_clash:List D->Option (D×Bool):=bv 3 2 iX
noncomputable abbrev qf:List IX:=["rule","fit","cells"]
noncomputable abbrev fN (δ:DEnv):Option Out:=ak (aH 2 (kB .ts (shO (ae (aa (rY 0 δ) (aa (rY 1 δ) (U []))) f_two_cells))) δ) (λδ=>ak (ifO (eqO (ixO (ixO (rY 2 δ) (U (.int 1))) (U (.int 0))) (U (.str "name"))) (c9 (cX (aa (bF (aa (ixO (ixO (rY 2 δ) (U (.int 0))) (U (.int 1))) (aa (ixO (rY 2 δ) (U (.int 1))) (U [])))) (U [])))) (nextO δ)) (λδ=>c9 (cX (aa (bF (aa (ixO (ixO (rY 2 δ) (U (.int 1))) (U (.int 1))) (aa (ixO (rY 2 δ) (U (.int 0))) (U [])))) (U [])))))
noncomputable def f_same_moves:List D->Option (D×Bool):=bv 3 2 fN
noncomputable abbrev nP:List IX:=["rule","unused","letter","place"]
noncomputable abbrev bG (δ:DEnv):Option D:=bF (aa (rY 2 δ) (aa (bF (aa (U (.str "blank")) (aa (bY (rY 1 δ) (rY 3 δ)) (U [])))) (U [])))
noncomputable abbrev dJ (δ:DEnv):Option Out:=c9 (aj (ae (pf (frO (ae (aa (rY 0 δ) (U [])) f_fresh))) (bj Y [Y,V,Y,Y] (aL (ah (af 3) (ah (af 2) (toNil)))) (λδ=>U V) bG δ)))
noncomputable def f_fresh_moves:List D->Option (D×Bool):=bv 4 2 dJ
noncomputable abbrev GN:List IX:=["rows","rules","most","stand","steps","unused","chosen","fit","rule","moves"]
noncomputable abbrev A8 (δ:DEnv):Option Out:=aW (bF (aa (U (.str "full")) (aa (rY 3 δ) (aa (rY 4 δ) (U [])))))
noncomputable abbrev u8 (δ:DEnv):Option Out:=aW (bF (aa (U (.str "clash")) (aa (rY 4 δ) (aa (ixO (rY 6 δ) (U (.int 0))) (aa (rY 7 δ) (U []))))))
noncomputable abbrev Av (δ:DEnv):Option Out:=aW (bF (aa (U (.str "open")) (aa (rY 3 δ) (aa (rY 4 δ) (U [])))))
noncomputable abbrev bR (δ:DEnv):Option Bool:=tyB (U (.bl V))
noncomputable abbrev ax (δ:DEnv):Option Out:=ak (aH 6 (shO (ae (aa (rY 3 δ) (aa (rY 1 δ) (U []))) f_next_broken)) δ) (λδ=>ak (ifO (wP (rY 6 δ)) (A8 (iE 4 δ)) (nextO δ)) (λδ=>ak (aH 7 (ixO (rY 6 δ) (U (.int 1))) δ) (λδ=>ak (aH 8 (ixO (rY 1 δ) (ixO (rY 6 δ) (U (.int 0)))) δ) (λδ=>ak (ifO (tyB (shO (ae (aa (rY 8 δ) (aa (rY 7 δ) (U []))) f_is_clash))) (u8 (iE 4 δ)) (nextO δ)) (λδ=>ak (ifO (cI gGe (cE (rd V 4 δ)) (rY 2 δ)) (Av (iE 4 δ)) (nextO δ)) (λδ=>ak (ifO (eqO (ixO (rY 8 δ) (U (.int 0))) (U (.str "same"))) (ak (aH 9 (frO (ae (aa (rY 8 δ) (aa (rY 7 δ) (U []))) f_same_moves)) δ) (λδ=>aH 3 (frO (ae (aa (rY 3 δ) (aa (rY 9 δ) (U []))) f_moved)) δ)) (ak (aH 9 (frO (ae (aa (rY 8 δ) (aa (rY 5 δ) (U []))) f_fresh_moves)) δ) (λδ=>ak (aH 3 (frO (ae (aa (pY (rY 3 δ) (frO (ae (aa (ixO (rY 8 δ) (U (.int 2))) (aa (pY (rY 7 δ) (rY 9 δ)) (U []))) f_filled))) (U [])) f_stand_of)) δ) (λδ=>aH 5 (bY (rY 5 δ) (cE (rY 9 δ))) δ)))) (λδ=>jA 4 (bF (aa (ixO (rY 6 δ) (U (.int 0))) (aa (rY 7 δ) (aa (rY 9 δ) (U []))))) δ)))))))
noncomputable abbrev xz (δ:DEnv):Option Out:=ak (aH 3 (eQ (rY 0 δ)) δ) (λδ=>ak (eC 4 (cX (U [])) δ) (λδ=>ak (aH 5 (bY (qm (frO (ae (aa (rY 3 δ) (U [])) f_blanks_of)) (zF (U (.int 1)))) (U (.int 1))) δ) (λδ=>aP bR ax 1000 δ)))
noncomputable def f_full:List D->Option (D×Bool):=bv 10 3 xz
noncomputable abbrev Fj:List IX:=["rows","rules","question","most","told","found","cells","cell"]
noncomputable abbrev jL (δ:DEnv):Option D:=ofB (eqO (ixO (rY 7 δ) (U (.int 0))) (U (.str "name")))
noncomputable abbrev Bu (δ:DEnv):Option D:=rY 6 δ
noncomputable abbrev vG (δ:DEnv):Option Out:=aW (bF (aa (ifV (eqO (ixO (rY 4 δ) (U (.int 0))) (U (.str "full"))) (U (.str "sure")) (U (.str "open"))) (aa (rY 5 δ) (U []))))
noncomputable abbrev uG (δ:DEnv):Option Out:=ak (aH 4 (shO (ae (aa (rY 0 δ) (aa (rY 1 δ) (aa (rY 3 δ) (U [])))) f_full)) δ) (λδ=>ak (ifO (eqO (ixO (rY 4 δ) (U (.int 0))) (U (.str "clash"))) (aW (bF (aa (U (.str "clash")) (U [])))) (nextO δ)) (λδ=>ak (eC 5 (aj (ae (bA (frO (ae (aa (ixO (rY 4 δ) (U (.int 1))) (aa (rY 2 δ) (U []))) f_answers))) (bj Y [Y,Y,Y,Y,Y,Y,Y,Y] (af 6) (λδ=>tyB (Gf (aj (ae (rB (rY 6 δ)) (bj Y [Y,Y,Y,Y,Y,Y,Y,Y] (af 7) (λδ=>U V) jL δ))))) Bu δ))) δ) (λδ=>vG (iE 5 δ))))
noncomputable def f_sure:List D->Option (D×Bool):=bv 8 4 uG
noncomputable abbrev rf:List IX:=["_law_cell","_law_k","_law_one"]
noncomputable abbrev eK (δ:DEnv):Option Out:=ak (aH 2 (bW (uP (bY (bY (bW (rY 0 δ) (U (.int 2147483647))) (uP (uP (U (.int 40503)) (rY 1 δ)) (rY 1 δ))) (uP (U (.int 17)) (rY 1 δ))) (U (.int 48271))) (U (.int 2147483647))) δ) (λδ=>aW (bW (uP (rY 2 δ) (bY (bY (bW (rY 2 δ) (U (.int 65537))) (uP (U (.int 3)) (rY 1 δ))) (U (.int 1)))) (U (.int 2147483629))))
noncomputable def f__law_mixed:List D->Option (D×Bool):=bv 3 2 eK
noncomputable abbrev qk:List IX:=["_law_cell","_law_many","_law_letters_here","_law_word","_law_at","_law_first","_law_k"]
noncomputable abbrev cS (δ:DEnv):Option D:=AN (rY 2 δ) (bW (shO (ae (aa (rY 0 δ) (aa (rY 6 δ) (U []))) f__law_mixed)) (U (.int 26)))
noncomputable abbrev cQ (δ:DEnv):Option D:=Gu (Gu (iZ (rY 3 δ) (U B) (cx (rY 4 δ))) (AN (rY 2 δ) (bW (bY (rY 5 δ) (rY 6 δ)) (U (.int 26))))) (iZ (rY 3 δ) (cx (bY (rY 4 δ) (U (.int 1)))) (U B))
noncomputable abbrev fI (δ:DEnv):Option Out:=ak (aH 2 (U (.str "abcdefghijklmnopqrstuvwxyz")) δ) (λδ=>ak (aH 3 (AL (U (.str "")) (aj (ae (rD (bY (U (.int 1)) (bW (rY 0 δ) (U (.int 8))))) (bj Y [V,Y,V,Y,Y,Y,Y] (af 6) (λδ=>U V) cS δ)))) δ) (λδ=>ak (aH 4 (bW (shO (ae (aa (rY 0 δ) (aa (U (.int 19)) (U []))) f__law_mixed)) (EL (rY 3 δ))) δ) (λδ=>ak (aH 5 (shO (ae (aa (rY 0 δ) (aa (U (.int 20)) (U []))) f__law_mixed)) δ) (λδ=>c9 (aj (ae (rD (rY 1 δ)) (bj Y [Y,Y,V,V,V,V,Y] (af 6) (λδ=>U V) cQ δ)))))))
noncomputable def f__law_words:List D->Option (D×Bool):=bv 7 2 fI
noncomputable abbrev lT:List IX:=["_law_cell","_law_many","_law_k"]
noncomputable abbrev dZ (δ:DEnv):Option D:=bW (bY (bW (shO (ae (aa (rY 0 δ) (aa (U (.int 30)) (U []))) f__law_mixed)) (U (.int 999900))) (uP (U (.int 7)) (rY 2 δ))) (U (.int 1000000))
noncomputable abbrev cV (δ:DEnv):Option Out:=ak (ifO (eqO (bW (rY 0 δ) (U (.int 3))) (U (.int 0))) (c9 (xn (rY 1 δ))) (nextO δ)) (λδ=>c9 (aj (ae (rD (rY 1 δ)) (bj Y [V,Y,Y] (af 2) (λδ=>U V) dZ δ))))
noncomputable def f__law_numbers:List D->Option (D×Bool):=bv 3 2 cV
noncomputable abbrev o8:List IX:=["_law_number","_law_names","_law_numbers_here"]
noncomputable abbrev fz (δ:DEnv):Option Out:=ak (ifO (eqO (bW (rY 0 δ) (U (.int 2))) (U (.int 1))) (aW (bF (aa (U (.str "blank")) (aa (ixO (rY 2 δ) (bW (gO (rY 0 δ) (U (.int 2))) (cE (rY 2 δ)))) (U []))))) (nextO δ)) (λδ=>aW (bF (aa (U (.str "name")) (aa (ixO (rY 1 δ) (bW (gO (rY 0 δ) (U (.int 2))) (cE (rY 1 δ)))) (U [])))))
noncomputable def f__law_drawn:List D->Option (D×Bool):=bv 3 3 fz
noncomputable abbrev we:List IX:=["_law_cell","_law_tables_here","_law_names","_law_numbers_here","_law_kind","_law_many","_law_cells","_law_j"]
noncomputable abbrev ja (δ:DEnv):Option D:=shO (ae (aa (shO (ae (aa (rY 0 δ) (aa (bY (U (.int 2)) (rY 7 δ)) (U []))) f__law_mixed)) (aa (rY 2 δ) (aa (rY 3 δ) (U [])))) f__law_drawn)
noncomputable abbrev ro (δ:DEnv):Option Out:=aW (bF (aa (ixO (ixO (rY 1 δ) (rY 4 δ)) (U (.int 0))) (aa (cK (rY 6 δ)) (U []))))
noncomputable abbrev mR (δ:DEnv):Option Out:=ak (aH 4 (bW (shO (ae (aa (rY 0 δ) (aa (U (.int 1)) (U []))) f__law_mixed)) (cE (rY 1 δ))) δ) (λδ=>ak (aH 5 (ixO (ixO (rY 1 δ) (rY 4 δ)) (U (.int 1))) δ) (λδ=>ak (eC 6 (aj (ae (rD (rY 5 δ)) (bj Y [V,Y,V,V,Y,Y,Y,Y] (af 7) (λδ=>U V) ja δ))) δ) (λδ=>ro (iE 6 δ))))
noncomputable def f__law_row:List D->Option (D×Bool):=bv 8 4 mR
noncomputable abbrev n5:List IX:=["_law_cell","_law_most","_law_words_here","_law_k"]
noncomputable abbrev fJ (δ:DEnv):Option D:=bF (aa (ixO (rY 2 δ) (rY 3 δ)) (aa (bY (U (.int 1)) (bW (shO (ae (aa (rY 0 δ) (aa (bY (U (.int 40)) (rY 3 δ)) (U []))) f__law_mixed)) (rY 1 δ))) (U [])))
noncomputable abbrev gR (δ:DEnv):Option Out:=ak (aH 2 (frO (ae (aa (rY 0 δ) (aa (U (.int 3)) (U []))) f__law_words)) δ) (λδ=>c9 (aj (ae (rD (bY (U (.int 1)) (bW (gO (rY 0 δ) (U (.int 8))) (U (.int 3))))) (bj Y [V,V,V,Y] (af 3) (λδ=>U V) fJ δ))))
noncomputable def f__law_tables:List D->Option (D×Bool):=bv 4 2 gR
noncomputable abbrev qQ:List IX:=["_law_rows","_law_told","_law_row_here"]
noncomputable abbrev aK (δ:DEnv):Option Out:=ifO (orO (eqO (cE (rd V 1 δ)) (U (.int 0))) (neO (ixO (rd V 1 δ) (zF (U (.int 1)))) (rY 2 δ))) (jA 1 (rY 2 δ) δ) (nextO δ)
noncomputable abbrev eI (δ:DEnv):Option Out:=ak (eC 1 (cX (U [])) δ) (λδ=>ak (ae (bA (eB .ts (rY 0 δ))) λds=>am (λd δ=>ae ((af 2) d δ) aK) ds δ) (λδ=>c9 (aV 1 δ)))
noncomputable def f__law_stand:List D->Option (D×Bool):=bv 3 1 eI
noncomputable abbrev rM:List IX:=["_law_number","_law_letters_here","_law_names"]
noncomputable abbrev gN (δ:DEnv):Option Out:=ak (ifO (eqO (bW (rY 0 δ) (U (.int 4))) (U (.int 0))) (aW (bF (aa (U (.str "name")) (aa (ixO (rY 2 δ) (bW (gO (rY 0 δ) (U (.int 4))) (cE (rY 2 δ)))) (U []))))) (nextO δ)) (λδ=>aW (bF (aa (U (.str "any")) (aa (AN (rY 1 δ) (bW (gO (rY 0 δ) (U (.int 4))) (EL (rY 1 δ)))) (U [])))))
noncomputable def f__law_term:List D->Option (D×Bool):=bv 3 3 gN
noncomputable abbrev jX:List IX:=["_law_cell","_law_start","_law_many","_law_tables_here","_law_letters_here","_law_names","_law_told","_law_k","_law_kind","_law_terms","_law_j"]
noncomputable abbrev dt (δ:DEnv):Option Out:=jA 9 (shO (ae (aa (shO (ae (aa (rY 0 δ) (aa (bY (bY (bY (rY 1 δ) (uP (U (.int 10)) (rY 7 δ))) (U (.int 1))) (rY 10 δ)) (U []))) f__law_mixed)) (aa (rY 4 δ) (aa (rY 5 δ) (U [])))) f__law_term)) δ
noncomputable abbrev iU (δ:DEnv):Option Out:=jA 6 (bF (aa (ixO (ixO (rY 3 δ) (rY 8 δ)) (U (.int 0))) (aa (cK (rY 9 δ)) (U [])))) δ
noncomputable abbrev dn (δ:DEnv):Option Out:=ak (aH 8 (bW (shO (ae (aa (rY 0 δ) (aa (bY (rY 1 δ) (uP (U (.int 10)) (rY 7 δ))) (U []))) f__law_mixed)) (cE (rY 3 δ))) δ) (λδ=>ak (eC 9 (cX (U [])) δ) (λδ=>ak (ae (rD (ixO (ixO (rY 3 δ) (rY 8 δ)) (U (.int 1)))) λds=>am (λd δ=>ae ((af 10) d δ) dt) ds δ) (λδ=>iU (iE 9 δ))))
noncomputable abbrev fG (δ:DEnv):Option Out:=ak (eC 6 (cX (U [])) δ) (λδ=>ak (ae (rD (rY 2 δ)) λds=>am (λd δ=>ae ((af 7) d δ) dn) ds δ) (λδ=>c9 (aV 6 δ)))
noncomputable def f__law_patterns:List D->Option (D×Bool):=bv 11 6 fG
noncomputable abbrev lZ:List IX:=["_law_patterns_here","_law_told","_law_table","_law_terms","_law_term_here"]
noncomputable abbrev aS (δ:DEnv):Option Out:=ifO (mN (eqO (ixO (rY 4 δ) (U (.int 0))) (U (.str "any"))) (bC (ixO (rY 4 δ) (U (.int 1))) (rd V 1 δ))) (jA 1 (ixO (rY 4 δ) (U (.int 1))) δ) (nextO δ)
noncomputable abbrev b7 (δ:DEnv):Option Out:=ae (rB (rY 3 δ)) λds=>am (λd δ=>ae ((af 4) d δ) aS) ds δ
noncomputable abbrev jv (δ:DEnv):Option Out:=c9 (eB .st (rY 1 δ))
noncomputable abbrev gv (δ:DEnv):Option Out:=ak (eC 1 (cX (U [])) δ) (λδ=>ak (ae (bA (rY 0 δ)) λds=>am (λd δ=>ae ((aL (ah (af 2) (ah (af 3) (toNil)))) d δ) b7) ds δ) (λδ=>jv (iE 1 δ)))
noncomputable def f__law_letters:List D->Option (D×Bool):=bv 5 1 gv
noncomputable abbrev sT:List IX:=["_law_cell","_law_tables_here","_law_names","_law_first","_law_letters_here","_law_body","_law_known","_law_two","_law_letter"]
noncomputable abbrev ic (δ:DEnv):Option D:=bF (aa (U (.str "any")) (aa (rY 8 δ) (U [])))
noncomputable abbrev oI (δ:DEnv):Option Out:=ak (aH 7 (pY (rY 7 δ) (cX (aa (bF (aa (U (.str "name")) (aa (ixO (rY 2 δ) (bW (gO (rY 0 δ) (U (.int 6))) (U (.int 3)))) (U [])))) (aa (bF (aa (U (.str "name")) (aa (ixO (rY 2 δ) (bW (bY (gO (rY 0 δ) (U (.int 6))) (U (.int 1))) (U (.int 3)))) (U [])))) (U []))))) δ) (λδ=>aW (bF (aa (U (.str "same")) (aa (rY 5 δ) (aa (ixO (rY 7 δ) (bW (gO (rY 0 δ) (U (.int 24))) (cE (rY 7 δ)))) (aa (ixO (rY 7 δ) (bW (bY (bY (gO (rY 0 δ) (U (.int 24))) (U (.int 1))) (bW (gO (rY 0 δ) (U (.int 120))) (U (.int 3)))) (cE (rY 7 δ)))) (U [])))))))
noncomputable abbrev j8 (δ:DEnv):Option Out:=ak (aH 3 (bW (shO (ae (aa (rY 0 δ) (aa (U (.int 99)) (U []))) f__law_mixed)) (U (.int 21))) δ) (λδ=>ak (aH 4 (iZ (U (.str "ABCDEFGHIJKLMNOPQRSTUVWXYZ")) (cx (rY 3 δ)) (cx (bY (rY 3 δ) (U (.int 5))))) δ) (λδ=>ak (aH 5 (frO (ae (aa (rY 0 δ) (aa (U (.int 100)) (aa (bY (U (.int 1)) (bW (rY 0 δ) (U (.int 2)))) (aa (rY 1 δ) (aa (iZ (rY 4 δ) (cx (U (.int 2))) (U B)) (aa (rY 2 δ) (U []))))))) f__law_patterns)) δ) (λδ=>ak (aH 6 (frO (ae (aa (rY 5 δ) (U [])) f__law_letters)) δ) (λδ=>ak (ifO (eqO (bW (gO (rY 0 δ) (U (.int 2))) (U (.int 3))) (U (.int 0))) (ak (eC 7 (aj (ae (bA (rY 6 δ)) (bj Y [Y,Y,Y,Y,Y,Y,Y,Y,Y] (af 8) (λδ=>U V) ic δ))) δ) (λδ=>oI (iE 7 δ))) (nextO δ)) (λδ=>aW (bF (aa (U (.str "must")) (aa (rY 5 δ) (aa (frO (ae (aa (rY 0 δ) (aa (U (.int 140)) (aa (bY (U (.int 1)) (bW (gO (rY 0 δ) (U (.int 6))) (U (.int 2)))) (aa (rY 1 δ) (aa (rY 4 δ) (aa (rY 2 δ) (U []))))))) f__law_patterns)) (U []))))))))))
noncomputable def f__law_rule:List D->Option (D×Bool):=bv 9 3 j8
noncomputable abbrev oW:List IX:=["_law_terms","_law_cells","_law_fit","_law_told","_law_term_here","_law_cell","_law_there","_law_letter","_law_other"]
noncomputable abbrev bJ (δ:DEnv):Option Bool:=eqO (rY 7 δ) (ixO (rY 4 δ) (U (.int 1)))
noncomputable abbrev cw (δ:DEnv):Option D:=rY 8 δ
noncomputable abbrev ba (δ:DEnv):Option Out:=ak (aH 6 (rY 4 δ) δ) (λδ=>ak (ifO (eqO (ixO (rY 4 δ) (U (.int 0))) (U (.str "any"))) (ak (aH 6 (rY 5 δ) δ) (λδ=>ak (BA 6 (aL (ah (af 7) (ah (af 8) (toNil)))) bJ cw (bA (rd V 3 δ)) δ) (λδ=>ifO (bC (bF (aa (ixO (rY 4 δ) (U (.int 1))) (aa (rY 6 δ) (U [])))) (rd V 3 δ)) (jA 3 (bF (aa (ixO (rY 4 δ) (U (.int 1))) (aa (rY 6 δ) (U [])))) δ) (nextO δ)))) (nextO δ)) (λδ=>ifO (neO (rY 6 δ) (rY 5 δ)) (aW (U .non)) (nextO δ)))
noncomputable abbrev ie (δ:DEnv):Option Out:=ak (eC 3 (eQ (rY 2 δ)) δ) (λδ=>ak (ae (xI V V (rY 0 δ) (rY 1 δ)) λds=>am (λd δ=>ae ((aL (ah (af 4) (ah (af 5) (toNil)))) d δ) ba) ds δ) (λδ=>c9 (aV 3 δ)))
noncomputable def f__law_fitted:List D->Option (D×Bool):=bv 9 3 ie
noncomputable abbrev sR:List IX:=["_law_rows","_law_patterns_here","_law_fit","_law_some","_law_table","_law_terms","_law_more","_law_one","_law_row_here","_law_told"]
noncomputable abbrev dz (δ:DEnv):Option Out:=ifO (mN (eqO (ixO (rY 8 δ) (U (.int 0))) (rY 4 δ)) (eqO (cE (ixO (rY 8 δ) (U (.int 1)))) (cE (rY 5 δ)))) (ak (aH 9 (shO (ae (aa (rY 5 δ) (aa (ixO (rY 8 δ) (U (.int 1))) (aa (rY 7 δ) (U [])))) f__law_fitted)) δ) (λδ=>ifO (fM (wP (rY 9 δ))) (jA 6 (rY 9 δ) δ) (nextO δ))) (nextO δ)
noncomputable abbrev dP (δ:DEnv):Option Out:=ae (bA (rY 0 δ)) λds=>am (λd δ=>ae ((af 8) d δ) dz) ds δ
noncomputable abbrev oK (δ:DEnv):Option Out:=aH 3 (rY 6 δ) δ
noncomputable abbrev dQ (δ:DEnv):Option Out:=ak (eC 6 (cX (U [])) δ) (λδ=>ak (ae (bA (rY 3 δ)) λds=>am (λd δ=>ae ((af 7) d δ) dP) ds δ) (λδ=>oK (iE 6 δ)))
noncomputable abbrev hV (δ:DEnv):Option D:=eB .ts (rY 7 δ)
noncomputable abbrev kv (δ:DEnv):Option Out:=ak (aH 3 (cX (aa (eQ (rY 2 δ)) (U []))) δ) (λδ=>ak (ae (bA (rY 1 δ)) λds=>am (λd δ=>ae ((aL (ah (af 4) (ah (af 5) (toNil)))) d δ) dQ) ds δ) (λδ=>c9 (aj (ae (bA (rY 3 δ)) (bj Y [Y,Y,Y,Y,Y,Y,Y,Y,Y,Y] (af 7) (λδ=>U V) hV δ)))))
noncomputable def f__law_fits:List D->Option (D×Bool):=bv 10 3 kv
noncomputable abbrev ma:List IX:=["_law_term_here","_law_fit","_law_letter","_law_cell"]
noncomputable abbrev bp (δ:DEnv):Option Out:=ifO (eqO (rY 0 δ) (bF (aa (U (.str "any")) (aa (rY 2 δ) (U []))))) (aW (rY 3 δ)) (nextO δ)
noncomputable abbrev gB (δ:DEnv):Option Out:=ak (ae (bA (rY 1 δ)) λds=>am (λd δ=>ae ((aL (ah (af 2) (ah (af 3) (toNil)))) d δ) bp) ds δ) (λδ=>aW (rY 0 δ))
noncomputable def f__law_cell_of:List D->Option (D×Bool):=bv 4 2 gB
noncomputable abbrev jz:List IX:=["_law_rows","_law_rule_here","_law_fit"]
noncomputable abbrev d8 (δ:DEnv):Option Out:=ak (ifO (eqO (ixO (rY 1 δ) (U (.int 0))) (U (.str "same"))) (aW (ofB (neO (shO (ae (aa (ixO (rY 1 δ) (U (.int 2))) (aa (rY 2 δ) (U []))) f__law_cell_of)) (shO (ae (aa (ixO (rY 1 δ) (U (.int 3))) (aa (rY 2 δ) (U []))) f__law_cell_of))))) (nextO δ)) (λδ=>aW (ofB (eqO (cE (frO (ae (aa (rY 0 δ) (aa (ixO (rY 1 δ) (U (.int 2))) (aa (rY 2 δ) (U [])))) f__law_fits))) (U (.int 0)))))
noncomputable def f__law_is_broken:List D->Option (D×Bool):=bv 3 3 d8
noncomputable abbrev oR:List IX:=["_law_rows","_law_rule_here","_law_fit"]
noncomputable abbrev j4 (δ:DEnv):Option D:=rY 2 δ
noncomputable abbrev io (δ:DEnv):Option Out:=c9 (aj (ae (bA (frO (ae (aa (rY 0 δ) (aa (ixO (rY 1 δ) (U (.int 1))) (aa (cX (U [])) (U [])))) f__law_fits))) (bj Y [V,V,Y] (af 2) (λδ=>tyB (shO (ae (aa (rY 0 δ) (aa (rY 1 δ) (aa (rY 2 δ) (U [])))) f__law_is_broken))) j4 δ)))
noncomputable def f__law_broken:List D->Option (D×Bool):=bv 3 2 io
noncomputable abbrev qE:List IX:=["_law_rows","_law_rules","_law_rule_here"]
noncomputable abbrev bP (δ:DEnv):Option Out:=ifO (cI gGt (cE (frO (ae (aa (rY 0 δ) (aa (rY 2 δ) (U []))) f__law_broken))) (U (.int 0))) (aW (U (.bl Y))) (nextO δ)
noncomputable abbrev jg (δ:DEnv):Option Out:=ak (ae (bA (rY 1 δ)) λds=>am (λd δ=>ae ((af 2) d δ) bP) ds δ) (λδ=>aW (U (.bl V)))
noncomputable def f__law_keeps:List D->Option (D×Bool):=bv 3 2 jg
noncomputable abbrev tM:List IX:=["_law_rule_here"]
noncomputable abbrev lm (δ:DEnv):Option Out:=ak (ifO (eqO (ixO (rY 0 δ) (U (.int 0))) (U (.str "must"))) (aW (bF (aa (U (.str "must")) (aa (eQ (ixO (rY 0 δ) (U (.int 1)))) (aa (eQ (ixO (rY 0 δ) (U (.int 2)))) (U [])))))) (nextO δ)) (λδ=>aW (bF (aa (U (.str "same")) (aa (eQ (ixO (rY 0 δ) (U (.int 1)))) (aa (ixO (rY 0 δ) (U (.int 2))) (aa (ixO (rY 0 δ) (U (.int 3))) (U [])))))))
noncomputable def f__law_copy:List D->Option (D×Bool):=bv 1 1 lm
noncomputable abbrev rJ:List IX:=["_law_cells","_law_at","_law_head","_law_tables_here","_law_names","_law_numbers_here","_law_middle","_law_end","_law_rules","_law_rows","_law_cell"]
noncomputable abbrev gZ (δ:DEnv):Option D:=shO (ae (aa (rY 10 δ) (aa (rY 3 δ) (aa (rY 4 δ) (U [])))) f__law_rule)
noncomputable abbrev gW (δ:DEnv):Option D:=shO (ae (aa (rY 10 δ) (aa (rY 3 δ) (aa (rY 4 δ) (aa (rY 5 δ) (U []))))) f__law_row)
noncomputable abbrev oA (δ:DEnv):Option Out:=ak (aH 9 (frO (ae (aa (aj (ae (bA (wC (rY 0 δ) (cx (rY 6 δ)) (cx (rY 7 δ)))) (bj Y [Y,Y,Y,V,V,V,Y,Y,Y,Y,Y] (af 10) (λδ=>U V) gW δ))) (U [])) f__law_stand)) δ) (λδ=>aW (bF (aa (rY 9 δ) (aa (rY 8 δ) (aa (rY 3 δ) (aa (rY 4 δ) (aa (rY 5 δ) (aa (rY 7 δ) (U [])))))))))
noncomputable abbrev lI (δ:DEnv):Option Out:=ak (aH 2 (ixO (rY 0 δ) (rY 1 δ)) δ) (λδ=>ak (aH 3 (frO (ae (aa (rY 2 δ) (aa (U (.int 3)) (U []))) f__law_tables)) δ) (λδ=>ak (aH 4 (frO (ae (aa (gO (rY 2 δ) (U (.int 7))) (aa (U (.int 3)) (U []))) f__law_words)) δ) (λδ=>ak (aH 5 (frO (ae (aa (gO (rY 2 δ) (U (.int 5))) (aa (U (.int 3)) (U []))) f__law_numbers)) δ) (λδ=>ak (aH 6 (bY (bY (bY (rY 1 δ) (U (.int 1))) (U (.int 1))) (bW (gO (rY 2 δ) (U (.int 11))) (U (.int 3)))) δ) (λδ=>ak (aH 7 (bY (rY 6 δ) (bW (gO (rY 2 δ) (U (.int 33))) (U (.int 5)))) δ) (λδ=>ak (eC 8 (aj (ae (bA (wC (rY 0 δ) (cx (bY (rY 1 δ) (U (.int 1)))) (cx (rY 6 δ)))) (bj Y [Y,Y,Y,V,V,Y,Y,Y,Y,Y,Y] (af 10) (λδ=>U V) gZ δ))) δ) (λδ=>oA (iE 8 δ))))))))
noncomputable def f__law_made:List D->Option (D×Bool):=bv 11 2 lI
noncomputable abbrev k7:List IX:=["_law_cell","_law_tables_here","_law_names","_law_first","_law_letters_here","_law_body","_law_known","_law_asked","_law_k"]
noncomputable abbrev cY (δ:DEnv):Option Out:=ifO (cI gGt (cE (rY 6 δ)) (U (.int 0))) (jA 7 (ixO (rY 6 δ) (bW (shO (ae (aa (rY 0 δ) (aa (bY (U (.int 190)) (rY 8 δ)) (U []))) f__law_mixed)) (cE (rY 6 δ)))) δ) (nextO δ)
noncomputable abbrev iF (δ:DEnv):Option Out:=aW (bF (aa (rY 7 δ) (aa (rY 5 δ) (U []))))
noncomputable abbrev fw (δ:DEnv):Option Out:=ak (aH 3 (bW (shO (ae (aa (rY 0 δ) (aa (U (.int 98)) (U []))) f__law_mixed)) (U (.int 24))) δ) (λδ=>ak (aH 4 (iZ (U (.str "ABCDEFGHIJKLMNOPQRSTUVWXYZ")) (cx (rY 3 δ)) (cx (bY (rY 3 δ) (U (.int 3))))) δ) (λδ=>ak (aH 5 (frO (ae (aa (rY 0 δ) (aa (U (.int 160)) (aa (bY (U (.int 1)) (bW (rY 0 δ) (U (.int 2)))) (aa (rY 1 δ) (aa (rY 4 δ) (aa (rY 2 δ) (U []))))))) f__law_patterns)) δ) (λδ=>ak (aH 6 (frO (ae (aa (rY 5 δ) (U [])) f__law_letters)) δ) (λδ=>ak (eC 7 (cX (U [])) δ) (λδ=>ak (ae (rD (bW (gO (rY 0 δ) (U (.int 2))) (U (.int 4)))) λds=>am (λd δ=>ae ((af 8) d δ) cY) ds δ) (λδ=>iF (iE 7 δ)))))))
noncomputable def f__law_question:List D->Option (D×Bool):=bv 9 3 fw
noncomputable abbrev tw:List IX:=["_law_rows","_law_question_here","_law_told","_law_fit","_law_answer","_law_letter","_law_cell"]
noncomputable abbrev gT (δ:DEnv):Option D:=shO (ae (aa (bF (aa (U (.str "any")) (aa (rY 5 δ) (U [])))) (aa (rY 3 δ) (U []))) f__law_cell_of)
noncomputable abbrev dM (δ:DEnv):Option D:=rY 6 δ
noncomputable abbrev ix (δ:DEnv):Option Out:=ak (aH 4 (cK (aj (ae (bA (ixO (rY 1 δ) (U (.int 0)))) (bj Y [Y,Y,Y,V,Y,Y,Y] (af 5) (λδ=>U V) gT δ)))) δ) (λδ=>ifO (mN (bC (rY 4 δ) (rd V 2 δ)) (eqO (cE (aj (ae (rB (rY 4 δ)) (bj Y [Y,Y,Y,Y,Y,Y,Y] (af 6) (λδ=>eqO (ixO (rY 6 δ) (U (.int 0))) (U (.str "blank"))) dM δ)))) (U (.int 0)))) (jA 2 (rY 4 δ) δ) (nextO δ))
noncomputable abbrev nM (δ:DEnv):Option Out:=c9 (eB .tt (rY 2 δ))
noncomputable abbrev kJ (δ:DEnv):Option Out:=ak (eC 2 (cX (U [])) δ) (λδ=>ak (ae (bA (frO (ae (aa (rY 0 δ) (aa (ixO (rY 1 δ) (U (.int 1))) (aa (cX (U [])) (U [])))) f__law_fits))) λds=>am (λd δ=>ae ((af 3) d δ) ix) ds δ) (λδ=>nM (iE 2 δ)))
noncomputable def f__law_sure:List D->Option (D×Bool):=bv 7 2 kJ
noncomputable abbrev me:List IX:=["_law_found","_law_answer","_law_cell","_law_k"]
noncomputable abbrev dY (δ:DEnv):Option Out:=ifO (orO (fM (tyB (EO "tuple" (rY 2 δ)))) (orO (neO (cE (rY 2 δ)) (U (.int 2))) (orO (neO (ixO (rY 2 δ) (U (.int 0))) (U (.str "name"))) (fM (tyB (D7 (ixO (rY 2 δ) (U (.int 1))))))))) (aW (U (.bl Y))) (nextO δ)
noncomputable abbrev d7 (δ:DEnv):Option Out:=ak (ifO (fM (tyB (EO "tuple" (rY 1 δ)))) (aW (U (.bl Y))) (nextO δ)) (λδ=>ae (rB (rY 1 δ)) λds=>am (λd δ=>ae ((af 2) d δ) dY) ds δ)
noncomputable abbrev dW (δ:DEnv):Option Out:=ifO (eqO (ixO (ixO (rY 0 δ) (U (.int 1))) (Ic (rY 3 δ) (U (.int 1)))) (ixO (ixO (rY 0 δ) (U (.int 1))) (rY 3 δ))) (aW (U (.bl Y))) (nextO δ)
noncomputable abbrev gx (δ:DEnv):Option Out:=ak (ifO (orO (fM (tyB (EO "tuple" (rY 0 δ)))) (orO (cI gLt (cE (rY 0 δ)) (U (.int 1))) (fM (tyB (D7 (ixO (rY 0 δ) (U (.int 0)))))))) (aW (U (.bl Y))) (nextO δ)) (λδ=>ak (ifO (eqO (ixO (rY 0 δ) (U (.int 0))) (U (.str "clash"))) (aW (ofB (eqO (cE (rY 0 δ)) (U (.int 1))))) (nextO δ)) (λδ=>ak (ifO (orO (bC (ixO (rY 0 δ) (U (.int 0))) (cX (aa (U (.str "sure")) (aa (U (.str "open")) (U []))))) (orO (neO (cE (rY 0 δ)) (U (.int 2))) (fM (tyB (EO "list" (ixO (rY 0 δ) (U (.int 1)))))))) (aW (U (.bl Y))) (nextO δ)) (λδ=>ak (ae (bA (ixO (rY 0 δ) (U (.int 1)))) λds=>am (λd δ=>ae ((af 1) d δ) d7) ds δ) (λδ=>ak (ae (GF (U (.int 1)) (cE (ixO (rY 0 δ) (U (.int 1))))) λds=>am (λd δ=>ae ((af 3) d δ) dW) ds δ) (λδ=>aW (ofB (eqO (ixO (rY 0 δ) (U (.int 1))) (eB .tt (ixO (rY 0 δ) (U (.int 1)))))))))))
noncomputable def f__law_is_told:List D->Option (D×Bool):=bv 4 1 gx
noncomputable abbrev pZ:List IX:=["_law_rows","_law_rules","_law_question_here","_law_most","_law_handed","_law_found","_law_first","_law_made_here","_law_due","_law_rule_here","_law_answer"]
noncomputable abbrev l8 (δ:DEnv):Option D:=shO (ae (aa (rY 9 δ) (U [])) f__law_copy)
noncomputable abbrev l9 (δ:DEnv):Option D:=rY 10 δ
noncomputable abbrev l5 (δ:DEnv):Option D:=rY 10 δ
noncomputable abbrev lY (δ:DEnv):Option D:=rY 10 δ
noncomputable abbrev jc (δ:DEnv):Option Out:=ak (aH 4 (cX (aa (eQ (rY 0 δ)) (aa (aj (ae (bA (rY 1 δ)) (bj Y [Y,Y,Y,Y,Y,Y,Y,Y,Y,Y,Y] (af 9) (λδ=>U V) l8 δ))) (aa (bF (aa (eQ (ixO (rY 2 δ) (U (.int 0)))) (aa (eQ (ixO (rY 2 δ) (U (.int 1)))) (U [])))) (U []))))) δ) (λδ=>ak (aH 5 (shO (ae (aa (ixO (rY 4 δ) (U (.int 0))) (aa (ixO (rY 4 δ) (U (.int 1))) (aa (ixO (rY 4 δ) (U (.int 2))) (aa (rY 3 δ) (U []))))) f_sure)) δ) (λδ=>ak (ifO (orO (fM (tyB (shO (ae (aa (rY 5 δ) (U [])) f__law_is_told)))) (neO (rY 4 δ) (cX (aa (rY 0 δ) (aa (rY 1 δ) (aa (rY 2 δ) (U []))))))) (aW (U (.bl Y))) (nextO δ)) (λδ=>ak (aH 6 (frO (ae (aa (rY 0 δ) (aa (rY 2 δ) (U []))) f__law_sure)) δ) (λδ=>ak (ifO (tyB (shO (ae (aa (rY 0 δ) (aa (rY 1 δ) (U []))) f__law_keeps))) (aW (ofB (eqO (rY 5 δ) (bF (aa (U (.str "sure")) (aa (rY 6 δ) (U []))))))) (nextO δ)) (λδ=>ak (ifO (eqO (ixO (rY 5 δ) (U (.int 0))) (U (.str "open"))) (ak (ifO (cI gGt (cE (aj (ae (bA (rY 6 δ)) (bj Y [Y,Y,Y,Y,Y,V,Y,Y,Y,Y,Y] (af 10) (λδ=>bC (rY 10 δ) (ixO (rY 5 δ) (U (.int 1)))) l9 δ)))) (U (.int 0))) (aW (U (.bl Y))) (nextO δ)) (λδ=>ifO (mN (eqO (rY 3 δ) (U (.int 0))) (neO (ixO (rY 5 δ) (U (.int 1))) (rY 6 δ))) (aW (U (.bl Y))) (nextO δ))) (nextO δ)) (λδ=>ak (ifO (mN (eqO (ixO (rY 5 δ) (U (.int 0))) (U (.str "sure"))) (eqO (rY 3 δ) (U (.int 0)))) (aW (U (.bl Y))) (nextO δ)) (λδ=>ak (aH 7 (shO (ae (aa (rY 0 δ) (aa (rY 1 δ) (aa (U (.int 4)) (U [])))) f_full)) δ) (λδ=>ak (ifO (orO (fM (tyB (EO "tuple" (rY 7 δ)))) (cI gLt (cE (rY 7 δ)) (U (.int 3)))) (aW (U (.bl Y))) (nextO δ)) (λδ=>ak (ifO (eqO (ixO (rY 7 δ) (U (.int 0))) (U (.str "clash"))) (aW (ofB (neO (ixO (rY 5 δ) (U (.int 0))) (U (.str "sure"))))) (nextO δ)) (λδ=>ak (aH 8 (frO (ae (aa (ixO (rY 7 δ) (U (.int 1))) (aa (rY 2 δ) (U []))) f__law_sure)) δ) (λδ=>ak (ifO (mN (eqO (ixO (rY 7 δ) (U (.int 0))) (U (.str "full"))) (eqO (ixO (rY 5 δ) (U (.int 0))) (U (.str "sure")))) (aW (ofB (eqO (ixO (rY 5 δ) (U (.int 1))) (rY 8 δ)))) (nextO δ)) (λδ=>ak (ifO (mN (eqO (ixO (rY 7 δ) (U (.int 0))) (U (.str "full"))) (eqO (ixO (rY 5 δ) (U (.int 0))) (U (.str "open")))) (aW (ofB (eqO (cE (aj (ae (bA (ixO (rY 5 δ) (U (.int 1)))) (bj Y [Y,Y,Y,Y,Y,Y,Y,Y,V,Y,Y] (af 10) (λδ=>bC (rY 10 δ) (rY 8 δ)) l5 δ)))) (U (.int 0))))) (nextO δ)) (λδ=>ak (ifO (eqO (ixO (rY 5 δ) (U (.int 0))) (U (.str "sure"))) (aW (ofB (eqO (cE (aj (ae (bA (rY 8 δ)) (bj Y [Y,Y,Y,Y,Y,V,Y,Y,Y,Y,Y] (af 10) (λδ=>bC (rY 10 δ) (ixO (rY 5 δ) (U (.int 1)))) lY δ)))) (U (.int 0))))) (nextO δ)) (λδ=>aW (ofB (eqO (ixO (rY 7 δ) (U (.int 0))) (U (.str "open"))))))))))))))))))
noncomputable def f__law_right:List D->Option (D×Bool):=bv 11 4 jc
noncomputable abbrev Hn:List IX:=["_law_script","_law_cells","_law_at","_law_rows","_law_rules","_law_tables_here","_law_names","_law_numbers_here","_law_end","_law_question_here"]
noncomputable abbrev sD (δ:DEnv):Option Bool:=cI gLt (rY 2 δ) (cE (rY 1 δ))
noncomputable abbrev rS (δ:DEnv):Option Out:=ak (GX (shO (ae (aa (rY 1 δ) (aa (rY 2 δ) (U []))) f__law_made)) (aL (ah (af 3) (ah (af 4) (ah (af 5) (ah (af 6) (ah (af 7) (ah (af 8) (toNil)))))))) δ) (λδ=>ak (aH 9 (shO (ae (aa (gO (ixO (rY 1 δ) (rY 2 δ)) (U (.int 165))) (aa (rY 5 δ) (aa (rY 6 δ) (U [])))) f__law_question)) δ) (λδ=>ak (ifO (fM (tyB (shO (ae (aa (rY 3 δ) (aa (rY 4 δ) (aa (rY 9 δ) (aa (bW (gO (ixO (rY 1 δ) (rY 2 δ)) (U (.int 13))) (U (.int 5))) (U []))))) f__law_right)))) (aW (U (.bl Y))) (nextO δ)) (λδ=>aH 2 (rY 8 δ) δ)))
noncomputable abbrev F0 (δ:DEnv):Option Out:=ak (aH 1 (pY (wC (rY 0 δ) (U B) (cx (U (.int 30)))) (cX (aa (U (.int 0)) (aa (U (.int 0)) (U []))))) δ) (λδ=>ak (aH 2 (U (.int 0)) δ) (λδ=>ak (aP sD rS 1000 δ) (λδ=>aW (U (.bl V)))))
noncomputable def f_law:List D->Option (D×Bool):=bv 10 1 F0
section
variable(T:Txb blK)
include T
theorem v4 (D:Df "stand_of" mJ):FnM 1 "stand_of" f_stand_of:=
 mk 1 wN mM D
theorem rL (D:Df "blanks_of" lG):FnM 1 "blanks_of" f_blanks_of:=
 mk 1 sd kj D
theorem sH (D:Df "exchanged" kU):FnM 1 "exchanged" f_exchanged:=
 mk 2 tS gE D
theorem Dw (D:Df "moved" yJ) (_:FnM 1 "stand_of" f_stand_of) (_:FnM 1 "exchanged" f_exchanged):FnM 2 "moved" f_moved:=
 mk 2 CK su D
theorem zG (D:Df "filled" vp) (_:FnM 1 "exchanged" f_exchanged):FnM 2 "filled" f_filled:=
 mk 2 zD ni D
theorem qH (D:Df "letters_of" jq):FnM 1 "letters_of" f_letters_of:=
 mk 1 qb jt D
theorem qn (D:Df "binding_of" ji):FnM 1 "binding_of" f_binding_of:=
 mk 2 qA fj D
theorem vX (D:Df "bindings" mw) (_:FnM 1 "binding_of" f_binding_of):FnM 2 "bindings" f_bindings:=
 mk 2 wK nh D
theorem rH (D:Df "is_linked" kR) (_:FnM 1 "letters_of" f_letters_of):FnM 2 "is_linked" f_is_linked:=
 mk 2 r9 gK D
theorem l7 {c_ P_:IZ}(D:DfC "search_order" gh c_) (hLP:((P_,("search_order.<locals>.<lambda>":IX)):IZ×IX)∈tb) (hTu:∀q∈tb,q.1=P_->q=(P_,("search_order.<locals>.<lambda>":IX))) (hLC:Nl base c_ P_) (F_letters_of:FnM 1 "letters_of" f_letters_of) (F_bindings:FnM 2 "bindings" f_bindings) (F_is_linked:FnM 2 "is_linked" f_is_linked):FnM 4 "search_order" f_search_order:=
 mkC (lq:="search_order.<locals>.<lambda>") 3 lQ cU D (λ_ _ _=>rfl) (by walk_at "sc") (by walk_at "bi") λX h f r hq hc=>by
  (conv in defBody _=>whnf)
  refine' @ii _ _ _ _ _ _ ?a ?b
  case a=>walk_at "z"
  case b=>
   refine' @ii _ _ _ _ _ _ ?a ?b
   case a=>walk_at "z"
   case b=>
    refine' @ii _ _ _ _ _ _ ?a ?b
    case b=>walk_at "z"
    case a=>
     refine' @uN _ _ _ _ _ _ _ _ ?c ?d
     case c=>walk_at "z"
     case d=>
      refine' @ii _ _ _ _ _ _ ?a ?b
      case a=>walk_at "z"
      case b=>exact zI (n:=10) (x:="rest") (by rw[h.n];rfl) rfl (by walk_at "z") (by decide) (by decide) (by decide) (λδ h=>by match δ,h with|[_,_,_,_,_,_,_,_,_,_],_=>intros;rfl) (by walk_at "z") (by walk_at "z") (CT (by walk_at "z") h.nd (by walk_at "z") rfl) (by walk_at "z")
theorem rN (D:Df "places_of" jN):FnM 1 "places_of" f_places_of:=
 mk 2 sO jS D
theorem zf (D:Df "grouped" o7):FnM 1 "grouped" f_grouped:=
 mk 3 xS lw D (body:=by
  intro X h f r
  (conv in defBody _=>whnf)
  refine xW (n:=8) (by rw[h.n];rfl) (by walk_at "z") (by walk_at "z") (by walk_at "z") (by walk_at "z") (by walk_at "z") (by walk_at "z") (by walk_at "z") (by decide) (by decide) (by decide) (by decide) (by decide) (by decide) (λδ h=>by match δ,h with|[_,_,_,_,_,_,_,_],_=>rfl) (λδ h=>by match δ,h with|[_,_,_,_,_,_,_,_],_=>rfl) (λδ h=>by match δ,h with|[_,_,_,_,_,_,_,_],_=>rfl) (by walk_at "z") (by walk_at "z") (by walk_at "z") rfl rfl rfl rfl rfl)
theorem Ba (D:Df "picked" tZ):FnM 1 "picked" f_picked:=
 mk 2 AS uM D
theorem vS (D:Df "extended" m3) (_:FnM 1 "picked" f_picked):FnM 2 "extended" f_extended:=
 mk 4 wj m7 D
theorem nD (D:Df "joined_from" hY) (_:FnM 1 "letters_of" f_letters_of) (_:FnM 4 "search_order" f_search_order) (_:FnM 1 "places_of" f_places_of) (_:FnM 1 "grouped" f_grouped) (_:FnM 1 "picked" f_picked) (_:FnM 2 "extended" f_extended):FnM 5 "joined_from" f_joined_from:=
 mk 5 oS il D
theorem Bw (D:Df "joined" tW) (_:FnM 5 "joined_from" f_joined_from):FnM 6 "joined" f_joined:=
 mk 3 Be jM D
theorem xK (D:Df "answers" rh) (_:FnM 6 "joined" f_joined):FnM 7 "answers" f_answers:=
 mk 2 yw lM D
theorem v9 (D:Df "fit_with" mB) (_:FnM 1 "letters_of" f_letters_of) (_:FnM 5 "joined_from" f_joined_from):FnM 6 "fit_with" f_fit_with:=
 mk 4 v0 iJ D
theorem EJ (D:Df "fresh" yg) (_:FnM 1 "letters_of" f_letters_of):FnM 2 "fresh" f_fresh:=
 mk 1 DL rU D
theorem tQ (D:Df "two_terms" kW):FnM 1 "two_terms" f_two_terms:=
 mk 1 rX lB D
theorem iz (D:Df "deciding_letters" cP) (_:FnM 1 "letters_of" f_letters_of) (_:FnM 1 "two_terms" f_two_terms):FnM 2 "deciding_letters" f_deciding_letters:=
 mk 1 hU aU D
theorem tO (D:Df "is_unlike" k6):FnM 1 "is_unlike" f_is_unlike:=
 mk 1 tm gI D
theorem tJ (D:Df "two_cells" ki) (_:FnM 2 "filled" f_filled) (_:FnM 1 "two_terms" f_two_terms):FnM 3 "two_cells" f_two_cells:=
 mk 2 tv dG D
theorem lX (D:Df "broken_cells" fX) (_:FnM 6 "joined" f_joined) (_:FnM 2 "deciding_letters" f_deciding_letters) (_:FnM 1 "is_unlike" f_is_unlike) (_:FnM 3 "two_cells" f_two_cells):FnM 7 "broken_cells" f_broken_cells:=
 mk 2 lP bT D
theorem qF (D:Df "urgency_of" jr) (_:FnM 2 "fresh" f_fresh):FnM 3 "urgency_of" f_urgency_of:=
 mk 1 o0 eZ D
theorem HC (D:Df "age" Gz):FnM 1 "age" f_age:=
 mk 1 Ht CF D
theorem ov (D:Df "next_broken" im) (_:FnM 6 "fit_with" f_fit_with) (_:FnM 2 "deciding_letters" f_deciding_letters) (_:FnM 7 "broken_cells" f_broken_cells) (_:FnM 3 "urgency_of" f_urgency_of) (_:FnM 1 "age" f_age):FnM 8 "next_broken" f_next_broken:=
 mk 2 n9 dH D
theorem wy (D:Df "is_clash" m6) (_:FnM 3 "two_cells" f_two_cells):FnM 4 "is_clash" f_is_clash:=
 mk 2 vY iX D
theorem pN (D:Df "same_moves" jh) (_:FnM 3 "two_cells" f_two_cells):FnM 4 "same_moves" f_same_moves:=
 mk 2 qf fN D
theorem nI (D:Df "fresh_moves" ij) (_:FnM 2 "fresh" f_fresh):FnM 3 "fresh_moves" f_fresh_moves:=
 mk 2 nP dJ D
theorem Fb (D:Df "full" BS) (_:FnM 1 "stand_of" f_stand_of) (_:FnM 1 "blanks_of" f_blanks_of) (_:FnM 2 "moved" f_moved) (_:FnM 2 "filled" f_filled) (_:FnM 8 "next_broken" f_next_broken) (_:FnM 4 "is_clash" f_is_clash) (_:FnM 4 "same_moves" f_same_moves) (_:FnM 3 "fresh_moves" f_fresh_moves):FnM 9 "full" f_full:=
 mk 3 GN xz D
theorem FA (D:Df "sure" Ck) (_:FnM 7 "answers" f_answers) (_:FnM 9 "full" f_full):FnM 10 "sure" f_sure:=
 mk 4 Fj uG D
theorem qD (D:Df "_law_mixed" jo):FnM 1 "_law_mixed" f__law_mixed:=
 mk 2 rf eK D
theorem ri (D:Df "_law_words" jp) (_:FnM 1 "_law_mixed" f__law_mixed):FnM 2 "_law_words" f__law_words:=
 mk 2 qk fI D
theorem lS (D:Df "_law_numbers" gj) (_:FnM 1 "_law_mixed" f__law_mixed):FnM 2 "_law_numbers" f__law_numbers:=
 mk 2 lT cV D
theorem o4 (D:Df "_law_drawn" jf):FnM 1 "_law_drawn" f__law_drawn:=
 mk 3 o8 fz D
theorem wo (D:Df "_law_row" mn) (_:FnM 1 "_law_mixed" f__law_mixed) (_:FnM 1 "_law_drawn" f__law_drawn):FnM 2 "_law_row" f__law_row:=
 mk 4 we mR D
theorem oQ (D:Df "_law_tables" gY) (_:FnM 1 "_law_mixed" f__law_mixed) (_:FnM 2 "_law_words" f__law_words):FnM 3 "_law_tables" f__law_tables:=
 mk 2 n5 gR D
theorem pX (D:Df "_law_stand" i6):FnM 1 "_law_stand" f__law_stand:=
 mk 1 qQ eI D
theorem rP (D:Df "_law_term" kG):FnM 1 "_law_term" f__law_term:=
 mk 3 rM gN D
theorem kP (D:Df "_law_patterns" fE) (_:FnM 1 "_law_mixed" f__law_mixed) (_:FnM 1 "_law_term" f__law_term):FnM 2 "_law_patterns" f__law_patterns:=
 mk 6 jX fG D
theorem l6 (D:Df "_law_letters" gA):FnM 1 "_law_letters" f__law_letters:=
 mk 1 lZ gv D
theorem rT (D:Df "_law_rule" jZ) (_:FnM 1 "_law_mixed" f__law_mixed) (_:FnM 2 "_law_patterns" f__law_patterns) (_:FnM 1 "_law_letters" f__law_letters):FnM 3 "_law_rule" f__law_rule:=
 mk 3 sT j8 D
theorem oD (D:Df "_law_fitted" iA):FnM 1 "_law_fitted" f__law_fitted:=
 mk 3 oW ie D
theorem sk (D:Df "_law_fits" kr) (_:FnM 1 "_law_fitted" f__law_fitted):FnM 2 "_law_fits" f__law_fits:=
 mk 3 sR kv D
theorem lV (D:Df "_law_cell_of" gy):FnM 1 "_law_cell_of" f__law_cell_of:=
 mk 2 ma gB D
theorem jw (D:Df "_law_is_broken" dU) (_:FnM 2 "_law_fits" f__law_fits) (_:FnM 1 "_law_cell_of" f__law_cell_of):FnM 3 "_law_is_broken" f__law_is_broken:=
 mk 3 jz d8 D
theorem oO (D:Df "_law_broken" iw) (_:FnM 2 "_law_fits" f__law_fits) (_:FnM 3 "_law_is_broken" f__law_is_broken):FnM 4 "_law_broken" f__law_broken:=
 mk 2 oR io D
theorem pD (D:Df "_law_keeps" jd) (_:FnM 4 "_law_broken" f__law_broken):FnM 5 "_law_keeps" f__law_keeps:=
 mk 2 qE jg D
theorem sC (D:Df "_law_copy" jV):FnM 1 "_law_copy" f__law_copy:=
 mk 1 tM lm D
theorem sB (D:Df "_law_made" kN) (_:FnM 2 "_law_words" f__law_words) (_:FnM 2 "_law_numbers" f__law_numbers) (_:FnM 2 "_law_row" f__law_row) (_:FnM 3 "_law_tables" f__law_tables) (_:FnM 1 "_law_stand" f__law_stand) (_:FnM 3 "_law_rule" f__law_rule):FnM 4 "_law_made" f__law_made:=
 mk 2 rJ lI D
theorem k8 (D:Df "_law_question" fy) (_:FnM 1 "_law_mixed" f__law_mixed) (_:FnM 2 "_law_patterns" f__law_patterns) (_:FnM 1 "_law_letters" f__law_letters):FnM 3 "_law_question" f__law_question:=
 mk 3 k7 fw D
theorem tC (D:Df "_law_sure" jQ) (_:FnM 2 "_law_fits" f__law_fits) (_:FnM 1 "_law_cell_of" f__law_cell_of):FnM 3 "_law_sure" f__law_sure:=
 mk 2 tw kJ D
theorem md (D:Df "_law_is_told" gn):FnM 1 "_law_is_told" f__law_is_told:=
 mk 1 me gx D
theorem qG (D:Df "_law_right" jl) (_:FnM 9 "full" f_full) (_:FnM 10 "sure" f_sure) (_:FnM 5 "_law_keeps" f__law_keeps) (_:FnM 1 "_law_copy" f__law_copy) (_:FnM 3 "_law_sure" f__law_sure) (_:FnM 1 "_law_is_told" f__law_is_told):FnM 11 "_law_right" f__law_right:=
 mk 4 pZ jc D
theorem Ho (D:Df "law" s_law) (_:FnM 4 "_law_made" f__law_made) (_:FnM 3 "_law_question" f__law_question) (_:FnM 11 "_law_right" f__law_right):FnM 12 "law" f_law:=
 mk 1 Hn F0 D
end
end K61
namespace L2
open PySem
variable[Md]
theorem xf (ns:List IX):wg (ns.map D.str)=U ns:=by
 induction ns with
 |nil=>rfl
 |cons n ns ih=>simp only[IG,wg,ih]
@[simp] theorem lim_eq:lim=1000000:=by decide
@[simp] theorem bindO_s {α β:Type}(a:α) (f:α->Option β):ae (U a) f=f a:=(rfl)
@[simp] theorem shO_s (d:D) (b:Bool):shO (U (d,b))=U d:=(rfl)
@[simp] theorem frO_s (ds:List D):frO (U (.lst ds,V))=U (.lst ds):=(rfl)
@[simp] theorem consO_s (a:D) (l:List D):aa (U a) (U l)=U (a::l):=(rfl)
@[simp] theorem seqO_n (δ:DEnv) (k:DEnv->Option Out):ak (U (.next δ)) k=k δ:=(rfl)
@[simp] theorem seqO_r (d:D) (b:Bool) (k:DEnv->Option Out):ak (U (.ret d b)) k=U (.ret d b):=(rfl)
@[simp] theorem ifO_t (x y:Option Out):ifO (U V) x y=x:=(rfl)
@[simp] theorem ifO_f (x y:Option Out):ifO (U Y) x y=y:=(rfl)
@[simp] theorem retO_s (d:D):aW (U d)=U (.ret d Y):=(rfl)
@[simp] theorem retF_s (d:D):c9 (U d)=U (.ret d V):=(rfl)
@[simp] theorem outF_r (d:D) (b:Bool):jC (U (.ret d b))=U (d,b):=(rfl)
@[simp] theorem nextO_s (δ:DEnv):nextO δ=U (.next δ):=(rfl)
@[simp] theorem setO_s (i:Nat) (d:D) (δ:DEnv) (h:i<δ.length):aH i (U d) δ=U (.next (δ.set i (U (d,Y)))):=by unfold aH;simp only[if_pos h]
@[simp] theorem setF_s (i:Nat) (d:D) (δ:DEnv) (h:i<δ.length):eC i (U d) δ=U (.next (δ.set i (U (d,V)))):=by unfold eC;simp only[if_pos h]
@[simp] theorem toName_s (i:Nat) (d:D) (δ:DEnv) (h:i<δ.length):af i d δ=U (δ.set i (U (d,Y))):=by unfold af;simp only[if_pos h]
@[simp] theorem toTup_s (υ:List D->DEnv->Option DEnv) (ds:List D) (δ:DEnv):aL υ (.tup ds) δ=υ ds δ:=(rfl)
@[simp] theorem toCons_s (τ:D->DEnv->Option DEnv) (υ:List D->DEnv->Option DEnv) (d:D) (ds:List D) (δ:DEnv):ah τ υ (d::ds) δ=ae (τ d δ) (υ ds):=(rfl)
@[simp] theorem toNil_s (δ:DEnv):toNil [] δ=U δ:=(rfl)
@[simp] theorem addI_s (i j:Int):bY (U (.int i)) (U (.int j))=U (.int (i+j)):=(rfl)
@[simp] theorem mulI_s (i j:Int) (h:(-(2 ^ 64)<i/\i<2 ^ 64)\/(-(2 ^ 64)<j/\j<2 ^ 64)):uP (U (.int i)) (U (.int j))=U (.int (i*j)):=by simp only[uP,b2,ae,bI,gd,Ii,decide_eq_true_eq,if_pos h]
@[simp] theorem modI_s (i j:Int) (h:0<j):bW (U (.int i)) (U (.int j))=U (.int (i%j)):=by simp[bW,b2,ae,bI,gd,H9,h]
@[simp] theorem divI_s (i j:Int) (h:0<j/\j<1073741824):gO (U (.int i)) (U (.int j))=U (.int (i / j)):=by simp[gO,b2,ae,bI,gd,Ib,h]
@[simp] theorem tupO_s (ds:List D) (h:ds.length<=lim):bF (U ds)=U (.tup ds):=by simp only[bF,b2,ae,gd,decide_eq_true_eq,if_pos h]
@[simp] theorem lstO_s (ds:List D) (h:ds.length<=lim):cX (U ds)=U (.lst ds):=by simp only[cX,b2,ae,gd,decide_eq_true_eq,if_pos h]
@[simp] theorem lstLim_s (ds:List D):aj (U ds)=U (.lst ds):=(rfl)
@[simp] theorem lstL_s (ds:List D):bA (U (.lst ds))=U ds:=(rfl)
@[simp] theorem tupL_s (ds:List D):rB (U (.tup ds))=U ds:=(rfl)
@[simp] theorem tupleO_l (ds:List D):cK (U (.lst ds))=U (.tup ds):=(rfl)
@[simp] theorem listO_l (ds:List D):eQ (U (.lst ds))=U (.lst ds):=(rfl)
@[simp] theorem lenL_l (ds:List D):cE (U (.lst ds))=U (.int ds.length):=(rfl)
@[simp] theorem lenL_t (ds:List D):cE (U (.tup ds))=U (.int ds.length):=(rfl)
@[simp] theorem ixO_l (ds:List D) (i:Int):ixO (U (.lst ds)) (U (.int i))=atI ds i:=(rfl)
@[simp] theorem ixO_t (ds:List D) (i:Int):ixO (U (.tup ds)) (U (.int i))=atI ds i:=(rfl)
@[simp] theorem partI_s (i:Int):cx (U (.int i))=U (U i):=(rfl)
@[simp] theorem cutSO_s (z:IX) (l u:Option Int) (h:z.length<=lim):iZ (U (.str z)) (U l) (U u)=U (.str (oX z l u)):=by simp only[iZ,b3,b2,ae,gd,decide_eq_true_eq,if_pos h]
@[simp] theorem addS_s (x y:IX) (h:x.length+y.length<=lim):Gu (U (.str x)) (U (.str y))=U (.str (x++y)):=by simp only[Gu,b2,ae,gd,decide_eq_true_eq,if_pos h]
@[simp] theorem catO_s (x y:List D) (h:x.length+y.length<=lim):pY (U (.lst x)) (U (.lst y))=U (.lst (x++y)):=by simp only[pY,b2,ae,gd,decide_eq_true_eq,if_pos h]
@[simp] theorem notO_s (b:Bool):fM (U b)=U (!b):=(rfl)
@[simp] theorem tyB_s (b:Bool):tyB (U (.bl b))=U b:=(rfl)
@[simp] theorem ofB_s (b:Bool):ofB (U b)=U (.bl b):=(rfl)
@[simp] theorem cI_s (g:Int->Int->Bool) (i j:Int):cI g (U (.int i)) (U (.int j))=U (g i j):=(rfl)
@[simp] theorem orO_t (y:Option Bool):orO (U V) y=U V:=(rfl)
@[simp] theorem orO_f (y:Option Bool):orO (U Y) y=y:=(rfl)
@[simp] theorem andO_t (y:Option Bool):mN (U V) y=y:=(rfl)
@[simp] theorem andO_f (y:Option Bool):mN (U Y) y=U Y:=(rfl)
theorem sZ (x y:D) (h:ok2 x y=V):eqO (U x) (U y)=U (decide (x=y)):=by simp only[eqO,b2,ae,gd,decide_eq_true_eq,if_pos h]
@[simp] theorem eqO_int (i j:Int):eqO (U (.int i)) (U (.int j))=U (decide (i=j)):=by
 rw[sZ _ _ (by rfl)];simp only[D.int.injEq]
theorem CJ (x y:D) (h:ok2 x y=V):neO (U x) (U y)=U (!decide (x=y)):=by unfold neO;rw[sZ _ _ h];rfl
theorem mQ (j:Int) (h: -(2 ^ 62)<=j/\j<2 ^ 62):rD (U (.int j))=U (iK 0 j.toNat):=by unfold rD;simp only[decide_eq_true h,if_true]
theorem eR {δ:DEnv}{i:Nat}{ds:List D}(d:D) (h:δ[i]?=U (U (.lst ds,V))) (hl:ds.length<lim):jA i (U d) δ=U (.next (δ.set i (U (.lst (ds++[d]),V)))):=by
 unfold jA aV;simp only[h,if_pos hl]
theorem Cd {δ:DEnv}{i:Nat}{ds es:List D}(h:δ[i]?=U (U (.lst ds,V))) (hl:ds.length+es.length<=lim):Cw i (U (.lst es)) δ=U (.next (δ.set i (U (.lst (ds++es),V)))):=by
 unfold Cw aV;simp only[h,if_pos hl]
@[simp] theorem rd_0 (m:Bool) (d:D) (δ:DEnv):rd m 0 (U (d,Y)::δ)=U d:=(rfl)
@[simp] theorem rd_0o (d:D) (δ:DEnv):rd V 0 (U (d,V)::δ)=U d:=(rfl)
@[simp] theorem rd_1 (m:Bool) (i:Nat) (x:Option (D×Bool)) (δ:DEnv):rd m (i+1) (x::δ)=rd m i δ:=(rfl)
@[simp] theorem rdOwn_0 (d:D) (δ:DEnv):aV 0 (U (d,V)::δ)=U d:=(rfl)
@[simp] theorem rdOwn_1 (i:Nat) (x:Option (D×Bool)) (δ:DEnv):aV (i+1) (x::δ)=aV i δ:=(rfl)
@[simp] theorem frzE_0 (d:D) (b:Bool) (δ:DEnv):iE 0 (U (d,b)::δ)=U (d,Y)::δ:=by cases b<;>rfl
@[simp] theorem frzE_1 (i:Nat) (x:Option (D×Bool)) (δ:DEnv):iE (i+1) (x::δ)=x::iE i δ:=by
 unfold iE;rw[L8]
 split<;>simp_all
theorem Cc {n np:Nat}{g:DEnv->Option Out}{ds:List D}(h:ds.length=np):bv n np g ds=jC (g (cz n ds)):=by unfold bv;rw[if_pos h]
theorem ao {f:List D->Option (D×Bool)}{n np:Nat}{g:DEnv->Option Out}{ds:List D}{δ:DEnv}(hf:f=bv n np g) (hl:ds.length=np) (hs:cz n ds=δ):f ds=jC (g δ):=by subst hf hs;exact Cc hl
theorem yK {α:Type}{xs:List α}{i:Int}(h0:0<=i) (h1:i<xs.length):∃v,v∈xs/\xs[i.toNat]?=U v/\atI xs i=U v:=by
 have hi:i.toNat<xs.length:=by lia
 refine⟨xs[i.toNat],Kh hi,by simp[hi],?_⟩
 have:=yY (xs:=xs) (j:=i.toNat) (v:=xs[i.toNat]) (by simp[hi])
 rwa[NR h0]at this
theorem pM {α:Type}{xs:List α}{i:Int}{v:α}(h0:0<=i) (h:xs[i.toNat]?=U v):atI xs i=U v:=by
 have:=yY h;rwa[NR h0]at this
theorem kF {h:D->Option (Option D)}{g:D->D}:∀{ds:List D},(∀d∈ds,h d=U (U (g d)))->aJ h ds=U (ds.map g)
 |[],_=>rfl
 |d::ds,e=>by
  unfold aJ;rw[e d (IN ..),kF λx hx=>e x (IK _ hx)]
  rfl
theorem uJ {h:D->Option (Option D)}{P:D->D->Prop}:∀{ds:List D},(∀d∈ds,∃y,h d=U (U y)/\P d y)->∃g:List D,aJ h ds=U g/\g.length=ds.length/\∀(i:Nat) d,ds[i]?=U d->∃y,g[i]?=U y/\P d y
 |[],_=>⟨[],rfl,rfl,λi d h=>by simp at h⟩
 |d::ds,e=>by
  obtain⟨y,e1,p⟩:=e d (IN ..);obtain⟨g,e2,hl,hp⟩:=uJ λx hx=>e x (IK _ hx)
  refine⟨y::g,?_,by simp[hl],λi z hz=>?_⟩
  ·unfold aJ;rw[e1,e2]
  ·cases i with
   |zero=>simp_all
   |succ i=>simp_all
theorem bd {bo:Bool}{bs:List Bool}{τ:D->DEnv->Option DEnv}{ft:DEnv->Option Bool}{fe:DEnv->Option D}{δ:DEnv}{ds:List D}(h:ds.length<=lim):bj bo bs τ ft fe δ ds=aJ (au τ ft fe (aG bo bs δ)) ds:=by unfold bj;rw[if_pos h]
theorem kq {body:D->DEnv->Option Out}(I:List D->DEnv->Prop):∀(post pre:List D) (δ:DEnv),I pre δ->(∀p d q δ,p++d::q=pre++post->I p δ->∃δ',(body d δ=U (.next δ')\/body d δ=U (.cont δ'))/\I (p++[d]) δ')->
  ∃δ',am body post δ=U (.next δ')/\I (pre++post) δ'
 |[],pre,δ,h,_=>⟨δ,rfl,by simpa using h⟩
 |d::post,pre,δ,h,st=>by
  obtain⟨δ1,e1,i1⟩:=st pre d post δ rfl h;obtain⟨δ',e',i'⟩:=kq I post (pre++[d]) δ1 i1 λp d' q δ e i=>st p d' q δ (by simpa using e) i
  refine⟨δ',?_,by simp_all⟩
  unfold am
  rcases e1 with e1|e1<;>rw[e1]<;>exact e'
theorem kL {body:D->DEnv->Option Out}(I:DEnv->Prop) {ds:List D}{δ:DEnv}(h:I δ) (st:∀d∈ds,∀δ,I δ->∃δ',(body d δ=U (.next δ')\/body d δ=U (.cont δ'))/\I δ'):∃δ',am body ds δ=U (.next δ')/\I δ':=by
 have:=kq (body:=body) (λ_ δ=>I δ) ds [] δ h λp d q δ e i=>st d (by rw[Lz]at e;rw[<-e];simp) δ i
 simpa using this
theorem nt {lo:Int}{n:Nat}{d:D}(h:d∈iK lo n):∃i:Nat,i<n/\d=.int (lo+i):=by
 obtain⟨i,hi,e⟩:=List.mem_map.mp h;exact⟨i,List.mem_range.mp hi,e.symm⟩
theorem dL (lo:Int) (n:Nat):(iK lo n).length=n:=by unfold iK;simp
theorem yh:∀(ts:List IX),(OZ "" ts).length=(ts.map (·.length)).sum:=by
 intro ts;show(Builtin.Str.glued "" ts).length=_;rw[StrLaws.glued_eq_join]
 induction ts with
 |nil=>rfl
 |cons x r ih=>
  cases r with
  |nil=>rfl
  |cons y r=>
   show(x++("":IX)++Str.join "" (y::r)).length=_;rw[Mh,Mh,ih];rfl
theorem EH {P:D->D->Prop}{ds g:List D}{Q:IX->Prop}(hl:g.length=ds.length) (h:∀(i:Nat) d,ds[i]?=U d->∃y,g[i]?=U y/\P d y) (hP:∀d y,P d y->∃x,y=.str x/\Q x):∃ss:List IX,g=ss.map D.str/\∀x∈ss,Q x:=by
 have hy:∀y∈g,∃x,y=.str x/\Q x:=λy hy=>by
  obtain⟨i,hi,e⟩:=List.mem_iff_getElem.mp hy;obtain⟨z,ez,p⟩:=h i (ds[i]'(by lia)) (by simp)
  rw[J8 hi]at ez
  obtain rfl:=J7 ez;rw[<-e];exact hP _ _ p
 clear h hl
 induction g with
 |nil=>simp
 |cons y g ih=>
  obtain⟨x,e,q⟩:=hy y (IN ..);obtain⟨ss,e2,q2⟩:=ih λz hz=>hy z (IK _ hz)
  refine⟨x::ss,by rw[e,e2];rfl,λz hz=>?_⟩
  grind
theorem Dy (z:IX) (ys:List IX) (h:(ys.map (·.length)).sum+ys.length*z.length<=16777216):AL (U (.str z)) (U (.lst (ys.map D.str)))=U (.str (OZ z ys)):=by
 simp only[AL,b2,ae,gd,xf,decide_eq_true_eq,if_pos h]
theorem vq {ss:List IX}(h:∀x∈ss,x.length=1):(ss.map (·.length)).sum=ss.length:=by
 induction ss with
 |nil=>rfl
 |cons x r ih=>
  grind
theorem Dd (z:IX) (i:Int) (hz:z.length<=lim) (h0:0<=i) (h1:i<z.length):∃x:IX,x.length=1/\AN (U (.str z)) (U (.int i))=U (.str x):=by
 obtain⟨c,_,_,e⟩:=yK (xs:=z.cps.toList) (i:=i) h0 (by simpa[NZ]using h1)
 refine⟨⟨#[c]⟩,rfl,?_⟩
 simp only[AN,b2,ae,gd,decide_eq_true_eq,if_pos hz,e]
@[simp] theorem lenS_s (z:IX) (h:z.length<=lim):EL (U (.str z))=U (.int z.length):=by simp only[EL,ae,gd,decide_eq_true_eq,if_pos h]
theorem u0 (n d:Nat):sIx n d B=d:=rfl
theorem tj (n d k:Nat):sIx n d (U (k:Int))=min k n:=by
 simp only[sIx];grind
theorem aD (x y:IX):eqO (U (.str x)) (U (.str y))=U (decide (x=y)):=by
 rw[sZ _ _ rfl];congr 1;simp
end L2
namespace JP
open PySem L2
variable[Md]
inductive Ce where|nm (w:IX)|bk (n:Int)
deriving DecidableEq,Inhabited
inductive Te where|any (l:IX)|nm (w:IX)
deriving DecidableEq
noncomputable def ceD:Ce->D|.nm w=>.tup [.str "name",.str w]|.bk n=>.tup [.str "blank",.int n]
noncomputable def teD:Te->D|.any l=>.tup [.str "any",.str l]|.nm w=>.tup [.str "name",.str w]
theorem iO {a b:Ce}(h:ceD a=ceD b):a=b:=by
 cases a<;>cases b<;>simp[ceD]at h
 ·rw[h]
 ·rw[h]
noncomputable abbrev Row:=IX×List Ce
noncomputable abbrev Pat:=IX×List Te
noncomputable def rowD (r:Row):D:=.tup [.str r.1,.tup (r.2.map ceD)]
noncomputable def az (p:Pat):D:=.tup [.str p.1,.tup (p.2.map teD)]
noncomputable abbrev Fit:=IX->Ce
noncomputable def ev (φ:Fit):Te->Ce|.any l=>φ l|.nm w=>.nm w
noncomputable def eG (rows:List Row) (φ:Fit) (p:Pat):Prop:=∃r∈rows,r.1=p.1/\r.2=p.2.map (ev φ)
noncomputable def ans:List Te->List IX
 |[]=>[]
 |.any l::ts=>l::ans ts
 |.nm _::ts=>ans ts
theorem jG {φ ψ:Fit}:∀{ts:List Te},(∀l∈ans ts,φ l=ψ l)->ts.map (ev φ)=ts.map (ev ψ)
 |[],_=>rfl
 |.any l::ts,h=>by
  rw[IG,IG,jG (ts:=ts) λl' hl=>h l' (IK _ hl)]
  simp only[ev];rw[h l (IN ..)]
 |.nm w::ts,h=>by rw[IG,IG,jG (ts:=ts) h];rfl
theorem mL {rows:List Row}{φ ψ:Fit}{p:Pat}(h:∀l∈ans p.2,φ l=ψ l) (i:eG rows φ p):eG rows ψ p:=by
 obtain⟨r,h1,h2,h3⟩:=i;exact⟨r,h1,h2,by rw[h3,jG h]⟩
noncomputable abbrev Bi:=List (IX×Ce)
noncomputable def gt (b:Bi) (l:IX):Option Ce:=(b.find? λq=>decide (q.1=l)).map (·.2)
theorem iH (b:Bi) (k:IX) (c:Ce) (l:IX):gt ((k,c)::b) l=if k=l then U c else gt b l:=by
 unfold gt;by_cases h:k=l<;>simp[h]
theorem tT (l:IX):∀(b b':Bi),gt (b++b') l=(gt b l).or (gt b' l)
 |[],b'=>by simp[gt]
 |(k,c)::b,b'=>by
  rw[List.cons_append,iH,iH,tT l b b'];split<;>simp
noncomputable def bnd:List Te->List Ce->Bi->Option Bi
 |.any l::ts,c::cs,b=>(match gt b l with|some c'=>if c'=c then bnd ts cs b else B|none=>bnd ts cs (b++[(l,c)]))
 |.nm w::ts,c::cs,b=>if Ce.nm w=c then bnd ts cs b else B
 |_,_,b=>U b
set_option tactic.hygienic true in
theorem eN:∀{ts:List Te}{cs:List Ce}{b b':Bi},ts.length=cs.length->bnd ts cs b=U b'->(∀l c,gt b l=U c->gt b' l=U c)/\(∀l∈ans ts,∃c,gt b' l=U c)/\∀φ:Fit,(∀l∈ans ts,gt b' l=U (φ l))->cs=ts.map (ev φ)
 |[],[],b,b',_,h=>by simp only[bnd,Jk]at h;subst h;exact⟨λ_ _ h=>h,λ_ h=>by simp[ans]at h,λ_ _=>rfl⟩
 |.any l::ts,c::cs,b,b',hl,h=>by
  simp only[bnd]at h;have hl':ts.length=cs.length:=by simpa using hl
  split at h
  ·rename_i c' e
   split at h
   ·rename_i ec
    subst ec;obtain⟨h1,h2,h3⟩:=eN hl' h;refine⟨h1,λl' hl'=>?_,λφ hφ=>?_⟩
    ·rcases List.mem_cons.mp hl' with rfl|hm
     ·exact⟨_,h1 _ _ e⟩
     ·exact h2 l' hm
    ·have:=hφ l (IN ..)
     rw[h1 _ _ e]at this;rw[IG,<-h3 φ λl' hm=>hφ l' (IK _ hm)]
     simp only[ev];rw[J7 this]
   ·contradiction
  ·rename_i e
   obtain⟨h1,h2,h3⟩:=eN hl' h;have hg:=h1 l c (by rw[tT,e];simp[gt])
   refine⟨λl' c' e'=>h1 l' c' (by rw[tT,e'];rfl),λl' hl'=>?_,λφ hφ=>?_⟩
   ·rcases List.mem_cons.mp hl' with rfl|hm
    ·exact⟨_,hg⟩
    ·exact h2 l' hm
   ·have:=hφ l (IN ..)
    rw[hg]at this;rw[IG,<-h3 φ λl' hm=>hφ l' (IK _ hm)]
    simp only[ev];rw[J7 this]
 |.nm w::ts,c::cs,b,b',hl,h=>by
  simp only[bnd]at h;split at h
  ·rename_i ec
   subst ec;obtain⟨h1,h2,h3⟩:=eN (by simpa using hl) h
   exact⟨h1,h2,λφ hφ=>by rw[IG,<-h3 φ hφ];rfl⟩
  ·contradiction
set_option tactic.hygienic true in
theorem hZ {φ:Fit}:∀(ts:List Te) (b:Bi),(∀l c,gt b l=U c->φ l=c)->∃b',bnd ts (ts.map (ev φ)) b=U b'/\∀l c,gt b' l=U c->φ l=c
 |[],b,h=>⟨b,rfl,h⟩
 |.any l::ts,b,h=>by
  simp only[IG,ev,bnd];cases e:gt b l with
  |some c=>
   simp only;rw[if_pos (h l c e).symm];exact hZ ts b h
  |none=>
   refine hZ ts _ λl' c hc=>?_
   rw[tT]at hc;cases e':gt b l' with
   |some c'=>rw[e']at hc;simp at hc;subst hc;exact h _ _ e'
   |none=>
    rw[e']at hc;simp only[Option.none_or]at hc;rw[iH]at hc;split at hc
    ·rename_i q;subst q;exact J7 hc
    ·simp[gt]at hc
 |.nm w::ts,b,h=>by
  simp only[IG,ev,bnd,if_true];exact hZ ts b h
noncomputable def rZ (p:Pat) (r:Row):Option Bi:=if r.1=p.1/\r.2.length=p.2.length then bnd p.2 r.2 [] else B
noncomputable def binds (rows:List Row) (p:Pat):List Bi:=rows.filterMap (rZ p)
set_option tactic.hygienic true in
theorem gJ {rows:List Row}{p:Pat}{b:Bi}(h:b∈binds rows p):(∀l∈ans p.2,∃c,gt b l=U c)/\∀φ:Fit,(∀l∈ans p.2,gt b l=U (φ l))->eG rows φ p:=by
 obtain⟨r,hr,e⟩:=List.mem_filterMap.mp h;unfold rZ at e;split at e
 ·rename_i c
  obtain⟨_,h2,h3⟩:=eN c.2.symm e;exact⟨h2,λφ hφ=>⟨r,hr,c.1,h3 φ hφ⟩⟩
 ·contradiction
theorem vI {rows:List Row}{p:Pat}{φ:Fit}(h:eG rows φ p):∃b∈binds rows p,∀l∈ans p.2,gt b l=U (φ l):=by
 obtain⟨r,hr,h1,h2⟩:=h;obtain⟨b,e,hb⟩:=hZ (φ:=φ) p.2 [] (λl c e=>by trivial)
 have hm:rZ p r=U b:=by unfold rZ;rw[if_pos ⟨h1,by rw[h2];simp⟩,h2];exact e
 have hin:=List.mem_filterMap.mpr ⟨r,hr,hm⟩;refine⟨b,hin,λl hl=>?_⟩
 obtain⟨c,hc⟩:=(gJ hin).1 l hl;rw[hc,hb l c hc]
noncomputable def vl (b:Bi) (ls:List IX):List Ce:=ls.map λl=>(gt b l).getD default
noncomputable abbrev Gr:=List (List Ce×List (List Ce))
noncomputable def wQ:Gr->List Ce->List Ce->Gr
 |[],k,e=>[(k,[e])]
 |p::r,k,e=>if p.1=k then(p.1,if e∈p.2 then p.2 else p.2++[e])::r else p::wQ r k e
noncomputable def fU (g:Gr) (k:List Ce):List (List Ce):=((g.find? λq=>decide (q.1=k)).map (·.2)).getD []
theorem aZ (g:Gr) (q:List Ce×List (List Ce)) (k:List Ce):fU (q::g) k=if q.1=k then q.2 else fU g k:=by
 unfold fU;by_cases h:q.1=k<;>simp[h]
theorem u6:∀(g:Gr) (k e k' x:List Ce),x∈fU (wQ g k e) k'↔x∈fU g k'\/(k'=k/\x=e)
 |[],k,e,k',x=>by
  unfold wQ;rw[aZ]
  by_cases h:k=k'
  ·simp[h,fU]
  ·simp[h,fU];intro z;exact absurd z.symm h
 |p::r,k,e,k',x=>by
  unfold wQ
  by_cases h:p.1=k
  ·rw[if_pos h,aZ,aZ]
   grind
  ·rw[if_neg h,aZ,aZ]
   by_cases h':p.1=k'
   ·lia
   ·rw[if_neg h',if_neg h'];exact u6 r k e k' x
noncomputable def grp (bs:List Bi) (sh ad:List IX):Gr:=bs.foldl (λg b=>wQ g (vl b sh) (vl b ad)) []
theorem grp_get (bs:List Bi) (sh ad:List IX) (k x:List Ce):x∈fU (grp bs sh ad) k↔∃b∈bs,vl b sh=k/\vl b ad=x:=by
 have key:∀(bs:List Bi) (g:Gr),x∈fU (bs.foldl (λg b=>wQ g (vl b sh) (vl b ad)) g) k↔x∈fU g k\/∃b∈bs,vl b sh=k/\vl b ad=x:=by
  intro bs
  induction bs with
  |nil=>simp
  |cons b bs ih=>
   intro g;rw[Ld,ih,u6]
   grind
 rw[grp,key];simp[fU]
noncomputable def aY (ls known:List IX):List Nat:=ls.map λl=>known.idxOf l
noncomputable def pk (c:List Ce) (ps:List Nat):List Ce:=ps.map λi=>c.getD i default
theorem bL {φ:Fit}{ls known:List IX}(h:∀l∈ls,l∈known):pk (known.map φ) (aY ls known)=ls.map φ:=by
 unfold pk aY;rw[JK];refine Js λl hl=>?_
 have hi:=Ko (h l hl);simp[hi]
noncomputable def ins (x:List Ce) (l:List (List Ce)):List (List Ce):=if x∈l then l else l++[x]
theorem Es {x y:List Ce}{l:List (List Ce)}:y∈ins x l↔y∈l\/y=x:=by
 unfold ins;split
 ·constructor
  ·exact .inl
  ·lia
 ·simp
set_option tactic.hygienic true in
theorem GJ {x:List Ce}{l:List (List Ce)}(h:l.Nodup):(ins x l).Nodup:=by
 unfold ins;split
 ·exact h
 ·rename_i n
  rw[Lf];exact⟨h,by simp,λa ha b hb e=>n (by simp_all)⟩
noncomputable def zv (g:Gr) (sp kp:List Nat) (l:List (List Ce)) (c:List Ce):List (List Ce):=(fU g (pk c sp)).foldl (λl a=>ins (pk c kp++a) l) l
noncomputable def ext (found:List (List Ce)) (sp kp:List Nat) (g:Gr):List (List Ce):=found.foldl (zv g sp kp) []
theorem Dq (g:Gr) (sp kp:List Nat) (c:List Ce) (l:List (List Ce)) (h:l.Nodup):(zv g sp kp l c).Nodup/\∀x,x∈zv g sp kp l c↔x∈l\/∃a∈fU g (pk c sp),x=pk c kp++a:=by
 unfold zv;generalize fU g (pk c sp)=as
 induction as generalizing l with
 |nil=>simp;lia
 |cons a as ih=>
  rw[Ld];obtain⟨h1,h2⟩:=ih _ (GJ h);refine⟨h1,λx=>?_⟩
  rw[h2,Es];simp;lia
theorem FW (found:List (List Ce)) (sp kp:List Nat) (g:Gr):(ext found sp kp g).Nodup/\∀x,x∈ext found sp kp g↔∃c∈found,∃a∈fU g (pk c sp),x=pk c kp++a:=by
 have key:∀(found l:List (List Ce)),l.Nodup->(found.foldl (zv g sp kp) l).Nodup/\∀x,x∈found.foldl (zv g sp kp) l↔x∈l\/∃c∈found,∃a∈fU g (pk c sp),x=pk c kp++a:=by
  intro found
  induction found with
  |nil=>simp
  |cons c found ih=>
   intro l h;obtain⟨e1,e2⟩:=Dq g sp kp c l h;obtain⟨h1,h2⟩:=ih _ e1;rw[Ld];refine⟨h1,λx=>?_⟩
   rw[h2,e2];simp only[Jo,exists_eq_or_imp];constructor
   ·rintro((q|q)|q)
    ·exact .inl q
    ·exact .inr (.inl q)
    ·exact .inr (.inr q)
   ·rintro(q|q|q)
    ·exact .inl (.inl q)
    ·exact .inl (.inr q)
    ·exact .inr q
 obtain⟨h1,h2⟩:=key found [] Kc;exact⟨h1,λx=>by rw[ext,h2];simp⟩
theorem uq:∀{kn:List IX}{x:List Ce},kn.Nodup->x.length=kn.length->∃φ:Fit,x=kn.map φ
 |[],[],_,_=>⟨λ_=>default,rfl⟩
 |[],_::_,_,h=>by simp at h
 |_::_,[],_,h=>by simp at h
 |l::ks,c::x,nd,h=>by
  obtain⟨h1,h2⟩:=List.nodup_cons.mp nd;obtain⟨φ,e⟩:=uq h2 (by simpa using h)
  refine⟨λk=>if k=l then c else φ k,?_⟩
  rw[IG,if_pos rfl,e];simp;lia
structure Jn (rows:List Row) (kn:List IX) (fd:List (List Ce)) (wanted:List IX) (done rest:List Pat) (known:List IX) (found:List (List Ce)):Prop where
 nk:known.Nodup
 nf:found.Nodup
 mem:∀x,x∈found↔∃φ:Fit,x=known.map φ/\kn.map φ∈fd/\∀p∈done,eG rows φ p
 has:∀l,(l∈kn\/∃p∈done,l∈ans p.2)->(l∈wanted\/∃p∈rest,l∈ans p.2)->l∈known
 few:∀l∈known,l∈wanted\/∃p∈rest,l∈ans p.2
theorem BG (rows:List Row) {kn:List IX}{fd:List (List Ce)}{wanted:List IX}{rest:List Pat}(h1:kn.Nodup) (h2:fd.Nodup) (h3:∀x∈fd,x.length=kn.length) (h4:∀l∈kn,l∈wanted\/∃p∈rest,l∈ans p.2):Jn rows kn fd wanted [] rest kn fd:=
 ⟨h1,h2,λx=>⟨λh=>by obtain⟨φ,rfl⟩:=uq h1 (h3 x h);exact⟨φ,rfl,h,λp hp=>(by trivial)⟩,λhz=>by lia⟩,λl hz _=>by simp_all,h4⟩
set_option tactic.hygienic true in
theorem Dk {rows:List Row}{kn:List IX}{fd:List (List Ce)}{wanted:List IX}{done rest:List Pat}{p:Pat}{known own later:List IX}{found:List (List Ce)}(J:Jn rows kn fd wanted done (p::rest) known found)
  (hown:∀l,l∈own↔l∈ans p.2) (hno:own.Nodup) (hlat:∀l,l∈later↔l∈wanted\/∃q∈rest,l∈ans q.2):
  Jn rows kn fd wanted (done++[p]) rest (known.filter (λl=>decide (l∈later))++own.filter λl=>decide (l∈later)&&!decide (l∈known))
   (ext found (aY (own.filter λl=>decide (l∈known)) known) (aY (known.filter λl=>decide (l∈later)) known)
    (grp (binds rows p) (own.filter λl=>decide (l∈known)) (own.filter λl=>decide (l∈later)&&!decide (l∈known)))):=by
 obtain⟨e1,e2⟩:=FW found (aY (own.filter λl=>decide (l∈known)) known) (aY (known.filter λl=>decide (l∈later)) known) (grp (binds rows p) (own.filter λl=>decide (l∈known)) (own.filter λl=>decide (l∈later)&&!decide (l∈known)))
 have memS:∀l∈own.filter (λl=>decide (l∈known)),l∈known:=λl hl=>by simp at hl;exact hl.2
 have memK:∀l∈known.filter (λl=>decide (l∈later)),l∈known:=λl hl=>by simp at hl;exact hl.1
 refine⟨?_,e1,λx=>?_,λl hd hw=>?_,λl hl=>?_⟩
 ·rw[Lf]
  refine⟨J.nk.filter _,hno.filter _,λa ha b hb e=>?_⟩
  subst e;simp at ha hb;exact hb.2.2 ha.1
 ·rw[e2]
  constructor
  ·rintro⟨c,hc,a,ha,rfl⟩
   obtain⟨φ,rfl,hf,hφ⟩:=(J.mem c).mp hc;rw[bL memS,grp_get]at ha;obtain⟨b,hb,h1,h2⟩:=ha;obtain⟨bs1,bs2⟩:=gJ hb;have hv:=λl hl=>bs1 l ((hown l).mp hl)
   have agr:∀l∈known,(if l∈own then(gt b l).getD default else φ l)=φ l:=λl hk=>by
    split
    ·rename_i ho
     have hs:l∈own.filter (λl=>decide (l∈known)):=by simp;exact⟨ho,hk⟩
     unfold vl at h1;exact(List.map_inj_left.mp h1) l hs
    ·rfl
   have ag2:=λl hl=>by
    by_cases ho:l∈own
    ·exact agr l (J.has l hl (.inr ⟨p,IN ..,(hown l).mp ho⟩))
    ·rw[if_neg ho]
   refine⟨λl=>if l∈own then(gt b l).getD default else φ l,?_,?_,λq hq=>?_⟩
   ·rw[bL memK,Jd]
    congr 1
    ·exact Js λl hl=>(agr l (memK l hl)).symm
    ·rw[<-h2]
     unfold vl;refine Js λl hl=>?_
     simp at hl;rw[if_pos hl.1]
   ·rw[Js λl hl=>ag2 l (.inl hl)];exact hf
   ·rcases List.mem_append.mp hq with hq|hq
    ·exact mL (λl hl=>(ag2 l (.inr ⟨q,hq,hl⟩)).symm) (hφ q hq)
    ·rw[List.mem_singleton.mp hq]
     refine bs2 _ λl hl=>?_
     have ho:=(hown l).mpr hl;obtain⟨c,hc⟩:=hv l ho;rw[if_pos ho,hc];rfl
  ·rintro⟨φ,rfl,hf,hφ⟩
   obtain⟨b,hb,hbl⟩:=vI (hφ p (Kn _ (List.mem_singleton.mpr rfl)));refine⟨known.map φ,(J.mem _).mpr ⟨φ,rfl,hf,λq hq=>hφ q (JU _ hq)⟩,(own.filter λl=>decide (l∈later)&&!decide (l∈known)).map φ,?_,?_⟩
   ·rw[bL memS,grp_get]
    refine⟨b,hb,?_,?_⟩
    ·unfold vl;refine Js λl hl=>?_
     rw[hbl l ((hown l).mp (List.mem_filter.mp hl).1)];rfl
    ·unfold vl;refine Js λl hl=>?_
     rw[hbl l ((hown l).mp (List.mem_filter.mp hl).1)];rfl
   ·rw[bL memK,Jd]
 ·have hla:=(hlat l).mpr hw
  by_cases hk:l∈known
  ·exact JU _ (List.mem_filter.mpr ⟨hk,by simpa using hla⟩)
  ·have ho:=KJ λho=>hk (J.has l (hd.imp id λ⟨q,hq,hl⟩=>⟨q,(List.mem_append.mp hq).elim id λz=>absurd ((hown l).mpr (by rw[<-List.mem_singleton.mp z];exact hl)) ho,hl⟩) (hw.imp id λ⟨q',hq',hl'⟩=>⟨q',IK _ hq',hl'⟩))
   exact Kn _ (List.mem_filter.mpr ⟨ho,by simp[hla,hk]⟩)
 ·rcases List.mem_append.mp hl with hl|hl
  ·exact(hlat l).mp (by simpa using(List.mem_filter.mp hl).2)
  ·have:=(List.mem_filter.mp hl).2
   simp at this;exact(hlat l).mp this.1
theorem F7 {rows:List Row}{kn:List IX}{fd:List (List Ce)}{wanted:List IX}{done:List Pat}{known:List IX}{found:List (List Ce)}(J:Jn rows kn fd wanted done [] known found) (hw:∀l∈wanted,l∈kn\/∃p∈done,l∈ans p.2):
  (found.map λc=>pk c (aY wanted known)).Nodup/\∀x,x∈found.map (λc=>pk c (aY wanted known))↔∃φ:Fit,x=wanted.map φ/\kn.map φ∈fd/\∀p∈done,eG rows φ p:=by
 have wk:=λl hl=>J.has l (hw l hl) (.inl hl)
 have kw:=λl hl=>(J.few l hl).elim id λhz=>by simp_all
 constructor
 ·rw[List.nodup_iff_pairwise_ne,N4]
  refine J.nf.imp_of_mem λ{c d} hc hd hne e=>hne ?_
  obtain⟨φ,rfl,_⟩:=(J.mem c).mp hc;obtain⟨ψ,rfl,_⟩:=(J.mem d).mp hd;rw[bL wk,bL wk]at e
  simp_all
 ·intro x
  rw[N5];constructor
  ·rintro⟨c,hc,rfl⟩
   obtain⟨φ,rfl,hφ⟩:=(J.mem c).mp hc;exact⟨φ,bL wk,hφ⟩
  ·rintro⟨φ,rfl,hφ⟩
   exact⟨known.map φ,(J.mem _).mpr ⟨φ,rfl,hφ⟩,bL wk⟩
end JP
namespace K61
open PySem L2 JP
variable[Md]
theorem opn {f:List D->Option (D×Bool)}{n np:Nat}{g:DEnv->Option Out}{ds:List D}{r:Option (D×Bool)}(hf:f=bv n np g) (k:jC (g (cz n ds))=r) (hl:Nat.beq ds.length np=V:=by rfl):f ds=r:=by
 subst hf;rw[Cc (Nat.eq_of_beq_eq_true hl)];exact k
theorem stO {i:Nat}{x:Option D}{d:D}{δ:DEnv}{g:DEnv->Option Out}{r:Option (D×Bool)}(h:x=U d) (k:jC (g (δ.set i (U (d,Y))))=r) (hi:NL i δ.length=V:=by rfl):jC (ak (aH i x δ) g)=r:=by
 subst h;rw[setO_s _ _ _ (Kz hi)];exact k
theorem stF {i:Nat}{x:Option D}{d:D}{δ:DEnv}{g:DEnv->Option Out}{r:Option (D×Bool)}(h:x=U d) (k:jC (g (δ.set i (U (d,V))))=r) (hi:NL i δ.length=V:=by rfl):jC (ak (eC i x δ) g)=r:=by
 subst h;rw[setF_s _ _ _ (Kz hi)];exact k
theorem stN {x:Option Out}{δ:DEnv}{g:DEnv->Option Out}{r:Option (D×Bool)}(h:x=U (.next δ)) (k:jC (g δ)=r):jC (ak x g)=r:=by
 subst h;exact k
theorem stI {c:Option Bool}{x:Option Out}{δ:DEnv}{g:DEnv->Option Out}{r:Option (D×Bool)}(h:c=U Y) (k:jC (g δ)=r):jC (ak (ifO c x (nextO δ)) g)=r:=by
 subst h;exact k
theorem stR {c:Option Bool}{x:Option D}{d:D}{y:Option Out}{g:DEnv->Option Out}(h:c=U V) (k:x=U d):jC (ak (ifO c (aW x) y) g)=U (d,Y):=by
 subst h k;rfl
theorem rO {x:Option D}{d:D}(h:x=U d):jC (aW x)=U (d,Y):=by subst h;rfl
theorem rF {x:Option D}{d:D}(h:x=U d):jC (c9 x)=U (d,V):=by subst h;rfl
section
variable{x y:Option D}{a b:Int}
theorem gP (h:x=U (.int a)) (h':y=U (.int b)) (hb:0<b):bW x y=U (.int (a%b)):=by subst h h';exact modI_s _ _ hb
theorem oE (h:x=U (.int a)) (h':y=U (.int b)) (hb:0<b/\b<1073741824):gO x y=U (.int (a / b)):=by subst h h';exact divI_s _ _ hb
theorem lJ (h:x=U (.int a)) (h':y=U (.int b)):bY x y=U (.int (a+b)):=by subst h h';exact addI_s _ _
theorem zu {ds:List D}(h:x=U (.lst ds)):cE x=U (.int ds.length):=by subst h;exact lenL_l _
theorem ixG {ds:List D}{i:Int}{d:D}(h:x=U (.lst ds)) (h':y=U (.int i)) (e:atI ds i=U d):ixO x y=U d:=by subst h h';rw[ixO_l];exact e
theorem eqG {a b:Int}(h:x=U (.int a)) (h':y=U (.int b)):eqO x y=U (decide (a=b)):=by subst h h';exact eqO_int _ _
end
theorem bE {α:Type}{x:Option α}{β:Type}{f:α->Option β}{a:α}{r:Option β}(h:x=U a) (k:f a=r):ae x f=r:=by subst h;exact k
theorem G2 {x:Option D}{j:Int}(h:x=U (.int j)) (hj: -(2 ^ 62)<=j/\j<2 ^ 62):rD x=U (iK 0 j.toNat):=by subst h;exact mQ j hj
theorem ixA {x:Option D}{a b:D}(h:x=U (.tup [a,b])):ixO x (U (.int 0))=U a/\ixO x (U (.int 1))=U b:=by subst h;exact⟨rfl,rfl⟩
theorem rE {x y:Option D}{a b:D}(h:x=U a) (h':y=U b):bF (aa x (aa y (U [])))=U (.tup [a,b]):=by subst h h';simp only[consO_s];exact tupO_s _ (by simp)
theorem frG {x:Option (D×Bool)}{d:List D}(h:x=U (.lst d,V)):frO x=U (.lst d):=by subst h;rfl
theorem lO {bs:List Bool}{τ:D->DEnv->Option DEnv}{ft:DEnv->Option Bool}{fe:DEnv->Option D}{δ ε:DEnv}{x:Option (List D)}{ds es:List D}(hx:x=U ds) (hl:ds.length<=1000) (hm:aG Y bs δ=ε) (h:aJ (au τ ft fe ε) ds=U es) (he:es.length<=1000):aj (ae x (bj Y bs τ ft fe δ))=U (.lst es):=by
 subst hx hm;rw[bindO_s,bd (by rw[lim_eq];lia),h,lstLim_s]
theorem itG {i:Nat}{fe:DEnv->Option D}{ε:DEnv}{d e:D}(h:fe (ε.set i (U (d,Y)))=U e) (hi:NL i ε.length=V:=by rfl):au (af i) (λδ=>U V) fe ε d=U (U e):=by
 unfold au;rw[toName_s _ _ _ (Kz hi)];simp only[bindO_s,h]
theorem oN {α β:Type}{f:α->D}{g:β->D}{P:β->Prop}{F:D->Option (Option D)}:∀{xs:List α},(∀x∈xs,∃b,P b/\F (f x)=U (U (g b)))->∃bs:List β,bs.length=xs.length/\(∀b∈bs,P b)/\aJ F (xs.map f)=U (bs.map g)
 |[],_=>⟨[],rfl,(λ_ h=>nomatch h),rfl⟩
 |x::xs,h=>by
  obtain⟨b,hb,e⟩:=h x (.head _);obtain⟨bs,h1,h2,h3⟩:=oN λx hx=>h x (.tail _ hx)
  refine⟨b::bs,by simp[h1],λc hc=>?_,?_⟩
  ·rcases List.mem_cons.mp hc with rfl|hc
   ·exact hb
   ·exact h2 c hc
  ·rw[IG];unfold aJ;rw[h3,e];rfl
theorem oU {β:Type}{g:β->D}{P:β->Prop}{F:D->Option (Option D)}{n:Nat}(h:∀k:Nat,k<n->∃b,P b/\F (.int (0+(k:Int)))=U (U (g b))):∃bs:List β,bs.length=n/\(∀b∈bs,P b)/\aJ F (iK 0 n)=U (bs.map g):=by
 obtain⟨bs,h1,h2,h3⟩:=oN (f:=λk:Nat=>D.int (0+(k:Int))) (xs:=JA n) λk hk=>h k (List.mem_range.mp hk)
 exact⟨bs,by simpa using h1,h2,h3⟩
theorem vE {α β γ:Type}{f:α->D}{P:β->Prop}{body:D->DEnv->Option Out}{E:List β->γ->DEnv}:∀{xs:List α}{acc:List β}{y:γ},acc.length+xs.length<=1000->(∀x∈xs,∀acc y,acc.length<=1000->∃b y',P b/\body (f x) (E acc y)=U (.next (E (acc++[b]) y')))->∃bs y',bs.length=xs.length/\(∀b∈bs,P b)/\am body (xs.map f) (E acc y)=U (.next (E (acc++bs) y'))
 |[],acc,y,_,_=>⟨[],y,rfl,(λ_ h=>nomatch h),by simp[am]⟩
 |x::xs,acc,y,hl,h=>by
  simp only[IU]at hl;obtain⟨b,y1,hb,e⟩:=h x (.head _) acc y (by lia)
  obtain⟨bs,y2,h1,h2,h3⟩:=vE (xs:=xs) (acc:=acc++[b]) (y:=y1) (by simp;lia) λx hx=>h x (.tail _ hx)
  refine⟨b::bs,y2,by simp[h1],λc hc=>?_,?_⟩
  ·rcases List.mem_cons.mp hc with rfl|hc
   ·exact hb
   ·exact h2 c hc
  ·rw[IG];unfold am;rw[e,show acc++b::bs=acc++[b]++bs by simp];exact h3
theorem vm {β γ:Type}{P:β->Prop}{body:D->DEnv->Option Out}{E:List β->γ->DEnv}{n:Nat}(hn:n<=900) {y:γ}(h:∀k:Nat,k<n->∀acc y,acc.length<=1000->∃b y',P b/\body (.int (0+(k:Int))) (E acc y)=U (.next (E (acc++[b]) y'))):∃bs y',bs.length=n/\(∀b∈bs,P b)/\am body (iK 0 n) (E [] y)=U (.next (E bs y')):=by
 obtain⟨bs,y',h1,h2,h3⟩:=vE (f:=λk:Nat=>D.int (0+(k:Int))) (xs:=JA n) (acc:=[]) (y:=y) (E:=E) (by simp;lia) λk hk=>h k (List.mem_range.mp hk)
 exact⟨bs,y',by simpa using h1,h2,h3⟩
theorem sqO {i:Nat}{x:Option D}{d:D}{δ:DEnv}{g:DEnv->Option Out}{r:Option Out}(h:x=U d) (k:g (δ.set i (U (d,Y)))=r) (hi:NL i δ.length=V:=by rfl):ak (aH i x δ) g=r:=by
 subst h;rw[setO_s _ _ _ (Kz hi)];exact k
theorem sqF {i:Nat}{x:Option D}{d:D}{δ:DEnv}{g:DEnv->Option Out}{r:Option Out}(h:x=U d) (k:g (δ.set i (U (d,V)))=r) (hi:NL i δ.length=V:=by rfl):ak (eC i x δ) g=r:=by
 subst h;rw[setF_s _ _ _ (Kz hi)];exact k
theorem rtG {x:Option D}{d:D}(h:x=U d):aW x=U (.ret d Y):=by subst h;rfl
theorem stT {c:Option Bool}{x y:Option Out}{d:D}{b:Bool}{g:DEnv->Option Out}(h:c=U V) (k:x=U (.ret d b)):jC (ak (ifO c x y) g)=U (d,b):=by
 subst h k;rfl
theorem Ia {x y z:Option D}{a b c:D}(h:x=U a) (h':y=U b) (h2:z=U c):bF (aa x (aa y (aa z (U []))))=U (.tup [a,b,c]):=by subst h h' h2;simp only[consO_s];exact tupO_s _ (by simp)
theorem Ie {x y z u:Option D}{a b c d:D}(h:x=U a) (h':y=U b) (h2:z=U c) (h3:u=U d):bF (aa x (aa y (aa z (aa u (U [])))))=U (.tup [a,b,c,d]):=by subst h h' h2 h3;simp only[consO_s];exact tupO_s _ (by simp)
theorem xD {α:Type}{f:α->D}(hf:∀a b,f a=f b->a=b) (ok:∀a,okD 16 (f a)=V) (a:α) (as:List α) [Decidable (a∈as)]:bC (U (f a)) (U (.lst (as.map f)))=U (!decide (a∈as)):=by
 unfold bC inO;simp only[dm,b2,ae,gd];rw[if_pos]
 ·show U (!_)=_
  congr 2;refine decide_eq_decide.mpr ⟨λh=>?_,λh=>K1 h⟩
  obtain⟨x,hx,e⟩:=List.mem_map.mp h;rw[<-hf _ _ e];exact hx
 ·rw[ok a,LA,IW]
  intro x hx;obtain⟨q,_,rfl⟩:=List.mem_map.mp hx;exact ok q
theorem ifT {c:Option Bool}{x y r:Option Out}{g:DEnv->Option Out}(h:c=U V) (k:ak x g=r):ak (ifO c x y) g=r:=by subst h;exact k
theorem ifF {c:Option Bool}{x y r:Option Out}{g:DEnv->Option Out}(h:c=U Y) (k:ak y g=r):ak (ifO c x y) g=r:=by subst h;exact k
theorem sqA {x r:Option Out}{f g:DEnv->Option Out}(k:ak x (λδ=>ak (f δ) g)=r):ak (ak x f) g=r:=by
 subst k;cases x with
 |none=>rfl
 |some o=>cases o<;>rfl
theorem sqN {x r:Option Out}{δ:DEnv}{g:DEnv->Option Out}(h:x=U (.next δ)) (k:g δ=r):ak x g=r:=by subst h;exact k
theorem iv {α β γ:Type}{f:α->D}{h:α->List β}{body:D->DEnv->Option Out}{E:List β->γ->DEnv}{PZ:Nat}:∀{xs:List α}{acc:List β}{y:γ},acc.length+(xs.flatMap h).length<=PZ->(∀x∈xs,∀acc y,acc.length+(h x).length<=PZ->∃y',body (f x) (E acc y)=U (.next (E (acc++h x) y')))->∃y',am body (xs.map f) (E acc y)=U (.next (E (acc++xs.flatMap h) y'))
 |[],acc,y,_,_=>⟨y,by simp[am]⟩
 |x::xs,acc,y,hl,hb=>by
  rw[LJ,Jy]at hl;obtain⟨y1,e⟩:=hb x (.head _) acc y (by lia)
  obtain⟨y2,h3⟩:=iv (xs:=xs) (acc:=acc++h x) (y:=y1) (by rw[Jy];lia) λx hx=>hb x (.tail _ hx)
  exact⟨y2,by rw[IG];unfold am;rw[e,LJ,<-J0];exact h3⟩
theorem Hp {δ:DEnv}{i:Nat}{ds:List D}{x:Option D}{d:D}(hx:x=U d) (h:δ[i]?=U (U (.lst ds,V))) (hl:ds.length<=100000):jA i x δ=U (.next (δ.set i (U (.lst (ds++[d]),V)))):=by
 subst hx;exact eR d h (by rw[lim_eq];lia)
theorem Im {δ:DEnv}{i:Nat}{ds es:List D}{x:Option D}(hx:x=U (.lst es)) (h:δ[i]?=U (U (.lst ds,V))) (hl:ds.length+es.length<=100000):Cw i x δ=U (.next (δ.set i (U (.lst (ds++es),V)))):=by
 subst hx;exact Cd h (by rw[lim_eq];lia)
theorem sw {α β:Type}{f:α->Option β}:∀xs:List α,xs.flatMap (λx=>(f x).toList)=xs.filterMap f
 |[]=>rfl
 |x::xs=>by rw[LJ,LZ,sw xs];cases f x<;>rfl
theorem uw {α β:Type}{h:α->List β}{k:Nat}:∀{xs:List α},(∀x∈xs,(h x).length<=k)->(xs.flatMap h).length<=k*xs.length
 |[],_=>IM _
 |x::xs,hh=>by
  have h1:=hh x (.head _);have h2:=uw (xs:=xs) λy hy=>hh y (.tail _ hy)
  rw[LJ,Jy,IU,Nat.mul_succ];lia
theorem sj {α:Type}{f:α->D}(h1:∀a,okD 15 (f a)=V) (h2:∀a b,(ltD 15 (f a) (f b)).isSome=V) (as:List α):eE (as.map f)=V:=by
 unfold eE;simp[IW,h1,h2]
theorem dR {α:Type}{f:α->D}{p:D->Bool}(h:∀a,p (f a)=V) (as:List α):(as.map f).all p=V:=by simp[IW,h]
theorem zU {α:Type}{F:α->D}{l:List D}{P:α->Prop}(h:∀x∈l,∃a,P a/\x=F a):∃as:List α,l=as.map F/\∀a∈as,P a:=by
 induction l with
 |nil=>exact⟨[],rfl,by simp⟩
 |cons x l ih=>
  obtain⟨a,pa,e⟩:=h x (IN ..);obtain⟨as,e2,pas⟩:=ih λy hy=>h y (IK _ hy)
  refine⟨a::as,by rw[e,e2];rfl,λb hb=>?_⟩
  grind
open L2.G (eD scD bf hE bN) in
theorem ze {α:Type}{f:α->D}(hf:∀a b,f a=f b->a=b) (xs:List α):∃ys:List α,cG (eD (xs.map f))=ys.map f/\ys.Nodup/\(∀a,a∈ys↔a∈xs)/\ys.length<=xs.length:=by
 have hp:=ay (eD (xs.map f));obtain⟨ys,e,_⟩:=zU (F:=f) (P:=λ_=>True) (l:=cG (eD (xs.map f))) λd hd=>by
  obtain⟨a,_,e⟩:=List.mem_map.mp ((bf _ _).mp (hp.mem_iff.mp hd));exact⟨a,trivial,e.symm⟩
 have hm:∀a,a∈ys↔f a∈ys.map f:=λa=>⟨K1,λh=>by obtain⟨b,hb,z⟩:=List.mem_map.mp h;exact hf _ _ z▸hb⟩
 refine⟨ys,e,(List.pairwise_map.mp (e▸hp.nodup_iff.mpr (bN _))).imp λh z=>h (z▸rfl),λa=>?_,?_⟩
 ·rw[hm,<-e,hp.mem_iff,bf]
  exact⟨λh=>by obtain⟨b,hb,z⟩:=List.mem_map.mp h;exact hf _ _ z▸hb,K1⟩
 ·have:=hp.length_eq
  rw[e,IC]at this;have h2:=hE (xs.map f);rw[IC]at h2;lia
open L2.G (eD scD hE) in
theorem Ey {α:Type}{f:α->D}{c:KD}{sc:Bool}(k1:∀a,iR c (f a)=V) (k2:∀a,cW 8 (f a)=V) (k3:∀a,(scD (f a)==sc)=V) (hc:∀as:List α,eE (as.map f)=V) {xs:List α}(h:xs.length<64):sortSetO c sc (U (.lst (xs.map f)))=U (.lst (cG (eD (xs.map f)))):=by
 have hu:=hE (xs.map f);rw[IC]at hu;unfold sortSetO;dsimp only;rw[if_pos];rw[hc,dR k1,dR k2,dR (p:=λd=>scD d==sc) k3,decide_eq_true (by lia)]
 rfl
theorem ifG {c:Option Bool}{x y r:Option Out}(h:c=U V) (k:x=r):ifO c x y=r:=by subst h;exact k
theorem ifN {c:Option Bool}{x y r:Option Out}(h:c=U Y) (k:y=r):ifO c x y=r:=by subst h;exact k
theorem shG {x:Option (D×Bool)}{d:D}{b:Bool}(h:x=U (d,b)):shO x=U d:=by subst h;rfl
theorem iu {α σ γ:Type}{f:α->D}{F:σ->α->σ}{m:σ->Nat}{body:D->DEnv->Option Out}{E:σ->γ->DEnv}{k PZ:Nat}:∀{xs:List α}{s:σ}{y:γ},m s+k*xs.length<=PZ->(∀x∈xs,∀s y,m s+k<=PZ->m (F s x)<=m s+k/\∃y',body (f x) (E s y)=U (.next (E (F s x) y')))->m (xs.foldl F s)<=m s+k*xs.length/\∃y',am body (xs.map f) (E s y)=U (.next (E (xs.foldl F s) y'))
 |[],s,y,_,_=>⟨IM _,y,rfl⟩
 |x::xs,s,y,hl,h=>by
  rw[IU,Nat.mul_succ]at hl⊢;obtain⟨h1,y1,e⟩:=h x (.head _) s y (by lia)
  obtain⟨h2,y2,e2⟩:=iu (xs:=xs) (s:=F s x) (y:=y1) (by lia) λx hx=>h x (.tail _ hx)
  rw[Ld];exact⟨by lia,y2,by rw[IG];unfold am;rw[e];exact e2⟩
end K61
namespace K61
open PySem L2 JP
variable[Md]
theorem na:(("name":IX)="any")=False:=by trivial
theorem at0 (a b:D):atI [a,b] 0=U a:=rfl
theorem at1 (a b:D):atI [a,b] 1=U b:=rfl
theorem Hc (a:D) (r:List D):atI (a::r) 0=U a:=by unfold atI ixN;simp
theorem nA:∀ts:List Te,(ans ts).length<=ts.length
 |[]=>IM _
 |.any m::ts=>by have:=nA ts;simp[ans];lia
 |.nm w::ts=>by have:=nA ts;simp[ans];lia
noncomputable def aX (ps:List Pat):List IX:=(ps.map λp=>ans p.2).flatten
theorem dI {ps:List Pat}{l:IX}:l∈aX ps↔∃p∈ps,l∈ans p.2:=by
 unfold aX;grind
theorem aF:∀{ps:List Pat},(∀p∈ps,p.2.length<=4)->(aX ps).length<=4*ps.length
 |[],_=>IM _
 |p::ps,h=>by
  have h1:=aF λq hq=>h q (IK _ hq)
  have h2:=nA p.2;have h3:=h p (IN ..);have:aX (p::ps)=ans p.2++aX ps:=by simp[aX]
  rw[this,Jy,IU]
  lia
theorem AR (ts:List Te):aJ (au (af 4) (λδ=>eqO (ixO (rd Y 4 δ) (U (.int 0))) (U (.str "any"))) fZ [B,B,B,B,B]) (ts.map teD)=U ((ans ts).map D.str):=by
 induction ts with
 |nil=>rfl
 |cons c ts ih=>
  rw[IG];unfold aJ;rw[ih];cases c with
  |any n=>rfl
  |nm w=>rfl
theorem uv:∀as:List IX,eE (as.map D.str)=V:=sj (λ_=>rfl) λ_ _=>rfl
noncomputable def sL (ss:List IX):List IX:=(ze (f:=D.str) (λ_ _=>D.str.inj) ss).choose
noncomputable abbrev sU (ss:List IX):List D:=(sL ss).map D.str
theorem n8 (ss:List IX):(sL ss).Nodup/\(∀x,x∈sL ss↔x∈ss)/\(sL ss).length<=ss.length:=(ze (f:=D.str) (λ_ _=>D.str.inj) ss).choose_spec.2
theorem ot {ss:List IX}(h:ss.length<64):sortSetO .st V (U (.lst (ss.map D.str)))=U (.lst (sU ss)):=by
 rw[Ey (λ_=>rfl) (λ_=>rfl) (λ_=>rfl) uv h,(ze (f:=D.str) (λ_ _=>D.str.inj) ss).choose_spec.1];rfl
theorem aA {ps:List Pat}(hl:ps.length<=4) (h4:∀p∈ps,p.2.length<=4):f_letters_of [.lst (ps.map az)]=U (.lst (sU (aX ps)),V):=by
 have hz:=aF h4;obtain⟨y,e⟩:=iv (γ:=Option (D×Bool)×Option (D×Bool)) (f:=az) (h:=λp:Pat=>ans p.2) (xs:=ps) (acc:=[]) (y:=(B,B)) (PZ:=16) (body:=λd δ=>ae ((aL (ah (af 2) (ah (af 3) (toNil)))) d δ) gf) (E:=λacc y=>[U (.lst (ps.map az),Y),U (.lst (acc.map D.str),V),y.1,y.2,B]) (by rw[JZ];show 0+(aX ps).length<=_;lia) λp hp acc y hb=>by
  have:=h4 p hp;have ha:=nA p.2;refine⟨(U (.str p.1,Y),U (.tup (p.2.map teD),Y)),bE rfl ?_⟩
  rw[Jd];exact Im (lO (ds:=p.2.map teD) rfl (by rw[IC];lia) rfl (AR p.2) (by rw[IC];lia)) rfl (by rw[IC,IC];lia)
 exact opn rfl (stF (d:=.lst []) (lstO_s _ (by simp)) (stN e (rF (ot (ss:=aX ps) (by lia)))))
theorem oG (ss:List IX):∃us:List IX,sU ss=us.map D.str/\us.Nodup/\(∀x,x∈us↔x∈ss)/\us.length<=ss.length:=⟨_,rfl,n8 ss⟩
noncomputable def bD (b:Bi):D:=.dK (b.map λq=>.inr q.1) (b.map λq=>ceD q.2)
theorem yq (l:IX):∀b:Bi,bM (.inr l:Key) (b.map λq=>(.inr q.1:Key)) (b.map λq=>ceD q.2)=(gt b l).map ceD
 |[]=>rfl
 |(k,c)::b=>by
  rw[IG,IG,bM,iH,yq l b]
  grind
theorem zg (b:Bi) (l:IX):iI (U (bD b)) (U (.str l))=U ((gt b l).map ceD):=by
 unfold bD iI;simp only[qW,yq]
theorem ny {b:Bi}{l:IX}(h:gt b l=B):l∉b.map (·.1):=by
 induction b with
 |nil=>simp
 |cons q b ih=>
  rw[iH]at h
  grind
theorem DK {b:Bi}{l:IX}{c:Ce}(h:gt b l=B) (hl:b.length<1000000):pI (bD b) (.str l) (ceD c)=U (bD (b++[(l,c)])):=by
 unfold bD pI;have hm:(.inr l:Key)∉b.map λq=>(.inr q.1:Key):=λz=>by
  obtain⟨q,hq,e⟩:=List.mem_map.mp z;exact ny h (List.mem_map.mpr ⟨q,hq,by lia⟩)
 simp only[qW,IC];rw[if_pos (by assumption)]
 unfold bH kh;rw[if_neg hm,if_neg hm];simp
theorem Fn (c:Ce):okD 16 (ceD c)=V:=by cases c<;>rfl
theorem m5 (a b:Ce):neO (U (ceD a)) (U (ceD b))=U (!decide (a=b)):=by
 rw[CJ _ _ (by unfold ok2;rw[Fn,Fn];rfl)]
 congr 2;exact decide_eq_decide.mpr ⟨iO,λh=>by rw[h]⟩
theorem BV (w:IX) (c:Ce):neO (U (teD (.nm w))) (U (ceD c))=U (!decide (Ce.nm w=c)):=m5 (.nm w) c
theorem jP:∀(ts:List Te) (cs:List Ce),gQ (ts.map teD) (cs.map ceD)=(ts.zip cs).map λq=>.tup [teD q.1,ceD q.2]
 |[],cs=>by rfl
 |t::ts,[]=>by rfl
 |t::ts,c::cs=>by simp[gQ,jP ts cs]
theorem kt:∀(ts:List Te) (cs:List Ce) (b:Bi) (a0 a1 x3 x4:Option (D×Bool)),b.length+ts.length<1000->
  (match bnd ts cs b with
  |some b'=>∃y3 y4,am (λd δ=>ae ((aL (ah (af 3) (ah (af 4) (toNil)))) d δ) bh) ((ts.zip cs).map λq=>.tup [teD q.1,ceD q.2]) [a0,a1,U (bD b,V),x3,x4]=U (.next [a0,a1,U (bD b',V),y3,y4])
  |none=>am (λd δ=>ae ((aL (ah (af 3) (ah (af 4) (toNil)))) d δ) bh) ((ts.zip cs).map λq=>.tup [teD q.1,ceD q.2]) [a0,a1,U (bD b,V),x3,x4]=U (.ret .non Y))
 |[],cs,b,a0,a1,x3,x4,_=>⟨x3,x4,by rfl⟩
 |.any l::ts,[],b,a0,a1,x3,x4,_=>⟨x3,x4,by rfl⟩
 |.nm l::ts,[],b,a0,a1,x3,x4,_=>⟨x3,x4,by rfl⟩
 |.any l::ts,c::cs,b,a0,a1,x3,x4,hl=>by
  have ih:=λb hb=>kt ts cs b a0 a1 (U (teD (.any l),Y)) (U (ceD c,Y)) hb
  rw[IU]at hl;rw[Lv,IG];unfold am;have e0:eqO (ixO (rd Y 3 [a0,a1,U (bD b,V),U (teD (.any l),Y),U (ceD c,Y)]) (U (.int 0))) (U (.str "any"))=U V:=by simp[teD,at0,aD]
  have e1:ixO (rd Y 3 [a0,a1,U (bD b,V),U (teD (.any l),Y),U (ceD c,Y)]) (U (.int 1))=U (.str l):=by simp[teD,at1]
  have e2:rd Y 4 [a0,a1,U (bD b,V),U (teD (.any l),Y),U (ceD c,Y)]=U (ceD c):=by simp
  simp only[toTup_s,toCons_s,toNil_s,toName_s,KM,IU,JZ,bindO_s,IE,ID,MY,Nn];simp only[bh,e0,ifO_t,gC,e1,e2,sdO,rdOwn_1,rdOwn_0,zg,bnd];cases eg:gt b l with
  |some c'=>
   simp only[Option.map_some,neX,bindO_s,e2,m5]
   by_cases hc:c'=c
   ·simp only[hc,decide_true,KG,ifX,nextO_s,if_true]
    have:=ih b (by lia)
    cases eb:bnd ts cs b with
    |some b'=>rw[eb]at this;exact this
    |none=>rw[eb]at this;exact this
   simp[hc,decide_false,Ll,ifX,retO_s,if_false]
  |none=>
   simp only[Option.map_none,DK eg (show b.length<1000000 by lia)]
   simp only[neX,bindO_s,IE,ID];have e3:rd Y 4 [a0,a1,U (bD (b++[(l,c)]),V),U (teD (.any l),Y),U (ceD c,Y)]=U (ceD c):=by simp
   simp only[e3,m5,decide_true,KG,ifX,nextO_s];have:=ih (b++[(l,c)]) (by simp;lia)
   cases eb:bnd ts cs (b++[(l,c)])with
   |some b'=>rw[eb]at this;exact this
   |none=>rw[eb]at this;exact this
 |.nm w::ts,c::cs,b,a0,a1,x3,x4,hl=>by
  have ih:=kt ts cs b a0 a1 (U (teD (.nm w),Y)) (U (ceD c,Y)) (by simp at hl;lia)
  rw[Lv,IG];unfold am;have e0:eqO (ixO (rd Y 3 [a0,a1,U (bD b,V),U (teD (.nm w),Y),U (ceD c,Y)]) (U (.int 0))) (U (.str "any"))=U Y:=by simp[teD,at0,aD,na]
  have e1:rd Y 3 [a0,a1,U (bD b,V),U (teD (.nm w),Y),U (ceD c,Y)]=U (teD (.nm w)):=by simp
  have e2:rd Y 4 [a0,a1,U (bD b,V),U (teD (.nm w),Y),U (ceD c,Y)]=U (ceD c):=by simp
  simp only[toTup_s,toCons_s,toNil_s,toName_s,KM,IU,JZ,bindO_s,IE,ID,MY,Nn];have e00:eqO (ixO (U (teD (.nm w))) (U (.int 0))) (U (.str "any"))=U Y:=by simp[teD,at0,aD,na]
  simp only[bh,e0,e00,ifO_f,e1,e2,BV,bnd]
  by_cases hc:Ce.nm w=c
  ·simp only[hc,decide_true,KG,ifO_f,nextO_s,if_true]
   exact ih
  simp_all
theorem oP (ts:List Te) (cs:List Ce) (hl:ts.length<=4):f_binding_of [.tup (ts.map teD),.tup (cs.map ceD)]=U (match bnd ts cs []with|some b=>(bD b,V)|none=>(.non,Y)):=by
 rw[ao (f:=f_binding_of) (δ:=[U (.tup (ts.map teD),Y),U (.tup (cs.map ceD),Y),B,B,B]) rfl rfl rfl];have:=kt ts cs [] (U (.tup (ts.map teD),Y)) (U (.tup (cs.map ceD),Y)) B B (by simp;lia)
 have e0:(.dK [] []:D)=bD []:=rfl;simp only[fj,setF_s,IU,JZ,MY,Nn,IE,ID,seqO_n,rd_0,rd_1,xI,Ge,if_true,tupL_s,bindO_s,jP,e0];cases eb:bnd ts cs []with
 |some b=>
  rw[eb]at this;obtain⟨y3,y4,e⟩:=this
  simp_all
 |none=>
  simp_all
end K61
namespace K61
open PySem L2 JP
variable[Md]
theorem zm (r:Row) (p:Pat):mN (eqO (U (.str r.1)) (U (.str p.1))) (eqO (cE (U (.tup (r.2.map ceD)))) (cE (U (.tup (p.2.map teD)))))=U (decide (r.1=p.1/\r.2.length=p.2.length)):=by
 rw[aD,lenL_t,lenL_t,eqO_int]
 by_cases h1:r.1=p.1<;>simp[h1,Int.natCast_inj]
theorem rW {p:Pat}(h4:p.2.length<=4) {rs:List Row}(hl:rs.length<=1000):f_bindings [.lst (rs.map rowD),az p]=U (.lst ((binds rs p).map bD),V):=by
 have ef:rs.flatMap (λr=>(rZ p r).toList)=binds rs p:=sw rs
 have hb:(binds rs p).length<=rs.length:=KT ..;obtain⟨y,e⟩:=iv (γ:=Option (D×Bool)×Option (D×Bool)×Option (D×Bool)) (f:=rowD) (h:=λr=>(rZ p r).toList) (xs:=rs) (acc:=[]) (y:=(B,B,B)) (PZ:=1000) (body:=λd δ=>ae ((aL (ah (af 3) (ah (af 4) (toNil)))) d δ) jm) (E:=λacc y=>[U (.lst (rs.map rowD),Y),U (az p,Y),U (.lst (acc.map bD),V),y.1,y.2.1,y.2.2]) (by rw[ef,JZ];lia) λr _ acc y ha=>by
  have hc:=zm r p;unfold rZ at ha⊢
  by_cases h:r.1=p.1/\r.2.length=p.2.length
  ·rw[decide_eq_true h]at hc
   rw[if_pos h]at ha⊢;have eb:=oP p.2 r.2 h4;cases e:bnd p.2 r.2 []with
   |some b=>
    rw[e]at ha eb;refine⟨(U (.str r.1,Y),U (.tup (r.2.map ceD),Y),U (bD b,Y)),bE rfl ?_⟩
    rw[Jd];exact ifG hc (sqO (shG eb) (ifG rfl (Hp rfl rfl (by rw[IC];simp at ha;lia))))
   |none=>
    rw[e]at eb;exact⟨(U (.str r.1,Y),U (.tup (r.2.map ceD),Y),U (.non,Y)),bE rfl (by rw[MA,Kb];exact ifG hc (sqO (shG eb) rfl))⟩
  ·rw[decide_eq_false h]at hc
   rw[if_neg h];exact⟨(U (.str r.1,Y),U (.tup (r.2.map ceD),Y),y.2.2),bE rfl (by rw[MA,Kb];exact ifN hc rfl)⟩
 rw[ef]at e;exact opn rfl (stF (d:=.lst []) (lstO_s _ (by simp)) (stN e (rF rfl)))
theorem qq (rs:List Row) (p:Pat):(binds rs p).length<=rs.length:=KT ..
noncomputable def prD (rs:List Row) (p:Pat):D:=.tup [az p,.lst ((binds rs p).map bD)]
theorem iQ (l:IX) (ss:List IX):inO (U (.str l)) (U (.lst (ss.map D.str)))=U (decide (l∈ss)):=by
 unfold inO;simp only[dm,b2,ae,gd];rw[if_pos]
 ·simp
 ·rw[II,IW]
  refine⟨rfl,λx hx=>?_⟩
  obtain⟨c,_,rfl⟩:=List.mem_map.mp hx;rfl
theorem vB (bs:List Bool):sv (bs.map D.bl)=U bs:=by
 induction bs with
 |nil=>rfl
 |cons b bs ih=>simp[sv,ih]
noncomputable def lk (ks:List IX) (p:Pat):Bool:=(ans p.2).any λl=>decide (l∈ks)
theorem yV (p:Pat) (h4:p.2.length<=4) (ks:List IX):f_is_linked [az p,.lst (ks.map D.str)]=U (.bl (lk ks p),Y):=by
 rw[ao (f:=f_is_linked) (δ:=[U (az p,Y),U (.lst (ks.map D.str),Y),B]) rfl rfl rfl];have el:=aA (ps:=[p]) (by simp) (by simpa using h4)
 obtain⟨us,e1,_,e3,e4⟩:=oG (aX [p]);rw[e1]at el;have hul:us.length<=1000:=by
  have:=aF (ps:=[p]) (by simpa using h4)
  simp at this;lia
 simp only[gK,rd_0,rd_1,consO_s,bindO_s];rw[lstO_s _ (by simp)]
 simp only[IG,LU]at el;simp only[consO_s,bindO_s,el,frO_s,lstL_s];rw[bd (by simp;lia)]
 have hc:aJ (au (af 2) (λδ=>U V) dy (aG Y [Y,V,Y] [U (az p,Y),U (.lst (ks.map D.str),Y),B])) (us.map D.str)=U ((us.map λl=>decide (l∈ks)).map D.bl):=by
  rw[kF (g:=λd=>match d with|.str l=>.bl (decide (l∈ks))|d=>d)]
  ·simp
  ·simp[au,aG,dy,iQ]
 rw[hc];simp only[lstLim_s,GV,vB,bindO_s,retO_s,outF_r];congr 3;rw[Ku];unfold lk
 simp_all [On,N5,id_eq,aX]
theorem oM {a b:Te}(h:teD a=teD b):a=b:=by
 cases a<;>cases b<;>simp[teD]at h
 ·rw[h]
 ·exact absurd h.1 (by decide +kernel)
 ·exact absurd h.1 (by decide +kernel)
 ·rw[h]
theorem sK {α:Type}{f:α->D}(hf:∀a b,f a=f b->a=b):∀{l m:List α},l.map f=m.map f->l=m
 |[],[],_=>rfl
 |[],_::_,h=>by simp at h
 |_::_,[],h=>by simp at h
 |a::l,b::m,h=>by
  simp only[IG,Lq]at h;rw[hf _ _ h.1,sK hf h.2]
theorem AG {p q:Pat}(h:az p=az q):p=q:=by
 simp[az]at h;exact Prod.ext h.1 (sK (λ_ _=>oM) h.2)
theorem CI (t:Te):D.flat (teD t)=V:=by cases t<;>rfl
theorem Ag (p:Pat):D.flat (az p)=V:=by
 have:D.flats (p.2.map teD)=V:=by rw[D.flats_all,IW];intro x hx;obtain⟨t,_,rfl⟩:=List.mem_map.mp hx;exact CI t
 simp[az,D.flat,D.flats,this]
theorem B7 (p:Pat):okD 15 (az p)=V:=by
 simp only[az,okD,JC,Nh,Li,LA,IW];intro x hx;obtain⟨t,_,rfl⟩:=List.mem_map.mp hx;cases t<;>rfl
theorem mW (ss:List IX):D.flats (ss.map D.str)=V:=by
 rw[D.flats_all,IW];intro x hx;obtain⟨t,_,rfl⟩:=List.mem_map.mp hx;rfl
theorem rm {f:D->Option Bool}{g:Pat->Bool}{h:Pat->D}:∀{ps:List Pat},(∀p∈ps,f (h p)=U (g p))->cy f (ps.map h)=U (ps.map g)
 |[],_=>rfl
 |p::ps,e=>by simp only[IG,cy,e p (IN ..),rm λq hq=>e q (IK _ hq)]
set_option tactic.hygienic true in
theorem wZ {bl:List Bool}(h:bl≠[]):bi bl<bl.length:=by
 unfold bi;split
 ·rename_i m;exact Ko m
 ·exact List.length_pos_iff.mpr h
set_option tactic.hygienic true in
theorem xd {bl:List Bool}{i:Nat}(h:i<bi bl):bl[i]?=U Y/\bl[bi bl]?=U V:=by
 unfold bi at h⊢;split at h
 ·rename_i m
  rw[if_pos m];have hl:=Ko m;have h1:=Pn (p:=λz=>z==V) (xs:=bl) (i:=i) h
  have hi:i<bl.length:=by lia
  refine⟨?_,?_⟩
  ·simp_all
  ·simp_all
 ·lia
set_option tactic.hygienic true in
theorem Di (rs:List Row) (ks:List IX) (hk:ks.length<=1000) {rest placed:List Pat}(h4:∀p∈rest++placed,p.2.length<=4) (hne:rest≠[]) (hl:rest.length+placed.length<=4) (a0 a1 x5 x6 x7 x8 x9:Option (D×Bool)):
  ∃j y5 y6 y7,j<rest.length/\bq [a0,a1,U (.lst (ks.map D.str),Y),U (.lst (rest.map (prD rs)),V),U (.lst (placed.map (prD rs)),V),x5,x6,x7,x8,x9]=
   U (.next [a0,a1,U (.lst (ks.map D.str),Y),U (.lst ((rest.eraseIdx j).map (prD rs)),V),U (.lst ((placed++(rest[j]?).toList).map (prD rs)),V),y5,y6,y7,x8,x9]):=by
 have hpl:placed.length<=4:=by lia
 have el:=aA (ps:=placed) hpl (λp hp=>h4 p (Kn _ hp))
 obtain⟨us,e1,_,e3,e4⟩:=oG (aX placed);have e5:=aF (ps:=placed) (λp hp=>h4 p (Kn _ hp))
 rw[e1]at el;have hc:aJ (au (af 9) (λδ=>U V) bu (aG V [Y,Y,Y,Y,Y,Y,Y,Y,Y,Y] [a0,a1,U (.lst (ks.map D.str),Y),U (.lst (rest.map (prD rs)),V),U (.lst (placed.map (prD rs)),V),x5,x6,x7,x8,x9])) (placed.map (prD rs))=U (placed.map az):=by
  have:(placed.map az)=(placed.map (prD rs)).map λd=>match d with|.tup (x::_)=>x|d=>d:=by rw[JK];rfl
  rw[this,kF];intro d hd;obtain⟨p,_,rfl⟩:=List.mem_map.mp hd;simp[au,aG,bu,prD,at0]
 have hfl:D.flats (placed.map az)=V:=by rw[D.flats_all,IW];intro x hx;obtain⟨t,_,rfl⟩:=List.mem_map.mp hx;exact Ag t
 have hb:pY (eQ (U (.lst (ks.map D.str)))) (flO (ae (aa (aj (mh (ae (bA (U (.lst (placed.map (prD rs))))) (bj V [Y,Y,Y,Y,Y,Y,Y,Y,Y,Y] (af 9) (λδ=>U V) bu [a0,a1,U (.lst (ks.map D.str),Y),U (.lst (rest.map (prD rs)),V),U (.lst (placed.map (prD rs)),V),x5,x6,x7,x8,x9])))) (U [])) f_letters_of))=U (.lst ((ks++us).map D.str)):=by
  simp only[lstL_s,bindO_s];rw[bd (by simp;lia),hc]
  simp only[mh,hfl,if_true,lstLim_s,consO_s,bindO_s,el,flO,mW,listO_l];rw[catO_s _ _ (by simp;lia)]
  simp
 have hf:cy (λd=>bZ ((aG Y [Y,Y,Y,Y,Y,V,Y,Y,Y,Y] [a0,a1,U (.lst (ks.map D.str),Y),U (.lst (rest.map (prD rs)),V),U (.lst (placed.map (prD rs)),V),U (.lst ((ks++us).map D.str),Y),x6,x7,x8,x9]).set 9 (U (d,Y)))) (rest.map (prD rs))=U (rest.map (lk (ks++us))):=by
  refine rm λp hp=>?_
  have:=yV p (h4 p (JU _ hp)) (ks++us);simp only[bZ,aG,List.zipWith,IE,ID,rd_1,rd_0];have e9:∀(x:Option D),x=U (.lst ((ks++us).map D.str))->tyB (shO (ae (aa (ixO (U (prD rs p)) (U (.int 0))) (aa x (U []))) f_is_linked))=U (lk (ks++us) p):=λx hx=>by rw[hx];simp only[prD,ixO_t,at0,consO_s,bindO_s,this,shO_s,tyB_s]
  exact e9 _ rfl
 have hbl:rest.map (lk (ks++us))≠[]:=by simpa using hne
 have hj:bi (rest.map (lk (ks++us)))<rest.length:=by have:=wZ hbl;simpa using this
 generalize hjj:bi (rest.map (lk (ks++us)))=j at hj;have hgd:(rest.map (prD rs)).getD j .non=prD rs rest[j]:=by rw[KI];simp[hj]
 refine⟨j,U (.lst ((ks++us).map D.str),Y),U (.lst (eA (rest.map (prD rs)) (rest.map (lk (ks++us)))),V),U (prD rs rest[j],Y),hj,?_⟩
 have hrd:rd V 4 [a0,a1,U (.lst (ks.map D.str),Y),U (.lst (rest.map (prD rs)),V),U (.lst (placed.map (prD rs)),V),x5,x6,x7,x8,x9]=U (.lst (placed.map (prD rs))):=rfl;simp only[bq,hrd,rd_1,rd_0,hb];rw[setO_s _ _ _ (by simp)]
 simp only[seqO_n,IE,ID];unfold yO;simp only[L8,List.getElem?_cons_zero,hf]
 have h0:(rest.map (prD rs))[0]?=U (prD rs (rest[0]'(by lia))):=by simp[show 0<rest.length by lia]
 simp only[h0,hjj];rw[if_pos]
 ·simp only[dX,IE,ID,rd_1,rd_0,hgd]
  rw[eR (ds:=placed.map (prD rs)) _ rfl (by simp;lia)]
  have em:(rest.map (prD rs)).eraseIdx j=(rest.eraseIdx j).map (prD rs):=by rw[Ml,Ml,Jd,NP,NQ]
  simp[em,hj]
 ·refine⟨⟨by simp,by simp,by simp,by simp;lia⟩,?_⟩
  rw[II,IW,IW];refine⟨λd hd=>?_,λd hd=>?_⟩
  ·obtain⟨p,_,rfl⟩:=List.mem_map.mp hd;exact B7 p
  ·obtain⟨i,hi⟩:=List.mem_iff_getElem?.mp hd
   rw[NT]at hi
   split at hi
   ·rename_i hij
    rw[Ja]at hi
    obtain⟨p,hp,rfl⟩:=Option.map_eq_some_iff.mp hi;rw[hgd];obtain⟨f1,f2⟩:=xd (bl:=rest.map (lk (ks++us))) (i:=i) (by rw[hjj];exact hij)
    rw[hjj]at f2;rw[Ja,hp]at f1
    rw[Ja,J8 hj]at f2
    simp only[cR,prD,B7,Li,LA,decide_eq_true_eq];intro e;rw[AG e,f2]at f1;cases f1
   ·cases hi
end K61
namespace K61
open PySem L2 JP
variable[Md]
theorem da {α:Type}:∀{l:List α}{j:Nat}{x:α},l[j]?=U x->(x::l.eraseIdx j).Perm l
 |[],j,x,h=>by simp at h
 |a::l,0,x,h=>by simp_all
 |a::l,j+1,x,h=>by
  rw[List.eraseIdx_cons_succ];exact(Og a x _).trans ((da (by trivial)).cons a)
theorem mI (rs:List Row) (ks:List IX) (hk:ks.length<=1000):∀(n:Nat) (rest placed:List Pat) (a0 a1 x5 x6 x7 x8 x9:Option (D×Bool)) (fuel:Nat),rest.length=n->n<fuel->(∀p∈rest++placed,p.2.length<=4)->rest.length+placed.length<=4->∃o y5 y6 y7,o.Perm rest/\
  aP br bq fuel [a0,a1,U (.lst (ks.map D.str),Y),U (.lst (rest.map (prD rs)),V),U (.lst (placed.map (prD rs)),V),x5,x6,x7,x8,x9]=
   U (.next [a0,a1,U (.lst (ks.map D.str),Y),U (.lst [],V),U (.lst ((placed++o).map (prD rs)),V),y5,y6,y7,x8,x9])
 |0,rest,placed,a0,a1,x5,x6,x7,x8,x9,fuel,hn,hf,h4,hl=>by
  have:rest=[]:=List.length_eq_zero_iff.mp hn;subst this;obtain⟨f,rfl⟩:∃f,fuel=f+1:=⟨fuel - 1,by lia⟩
  refine⟨[],x5,x6,x7,Lg _,?_⟩
  unfold aP;have:br [a0,a1,U (.lst (ks.map D.str),Y),U (.lst (([]:List Pat).map (prD rs)),V),U (.lst (placed.map (prD rs)),V),x5,x6,x7,x8,x9]=U Y:=rfl;rw[this];simp
 |n+1,rest,placed,a0,a1,x5,x6,x7,x8,x9,fuel,hn,hf,h4,hl=>by
  obtain⟨f,rfl⟩:∃f,fuel=f+1:=⟨fuel - 1,by lia⟩
  have hne:rest≠[]:=λz=>by simp_all
  obtain⟨j,y5,y6,y7,hj,e⟩:=Di rs ks hk h4 hne hl a0 a1 x5 x6 x7 x8 x9;have hrj:rest[j]?=U rest[j]:=by simp[hj]
  have hp:=da hrj;have hlen:(rest.eraseIdx j).length=n:=by have:=hp.length_eq;simp at this;lia
  have hm:∀p∈rest.eraseIdx j++(placed++rest[j]?.toList),p.2.length<=4:=λp hp'=>by
   grind
  obtain⟨o,z5,z6,z7,po,e'⟩:=mI rs ks hk n (rest.eraseIdx j) (placed++rest[j]?.toList) a0 a1 y5 y6 y7 x8 x9 f hlen (by lia) hm (by rw[hrj];simp;lia)
  refine⟨rest[j]::o,z5,z6,z7,(po.cons _).trans hp,?_⟩
  have ht:br [a0,a1,U (.lst (ks.map D.str),Y),U (.lst (rest.map (prD rs)),V),U (.lst (placed.map (prD rs)),V),x5,x6,x7,x8,x9]=U V:=by
   cases rest with
   |nil=>exact absurd rfl hne
   |cons a b=>rfl
  unfold aP;rw[ht];simp only[e];rw[e',hrj];simp
theorem tX (rs:List Row):∀ps:List Pat,kY (λd=>aQ [U (d,Y)]) (ps.map (prD rs))=U (ps.map λp=>((binds rs p).length:Int))
 |[]=>rfl
 |p::ps=>by
  simp only[IG,kY,tX rs ps];have:aQ [U (prD rs p,Y)]=U (.int (binds rs p).length):=by simp[aQ,prD,at1]
  rw[this]
theorem tx {f:Pat->D}(ps:List Pat) (ks:List Int) (h:ks.length=ps.length) (h5:ks.length<5):∃o:List Pat,o.Perm ps/\qK (ps.map f) ks=o.map f:=by
 have hp:=iy h5;rw[h]at hp;refine⟨(rC ks).filterMap λi=>ps[i]?,?_,?_⟩
 ·have e:(JA ps.length).filterMap (λi=>ps[i]?)=ps:=by
   clear hp h;have key:∀(l pre:List Pat),((List.range' pre.length l.length).filterMap λi=>(pre++l)[i]?)=l:=by
    intro l
    induction l with
    |nil=>intro pre;rfl
    |cons a l ih=>
     intro pre;rw[IU,List.range'_succ,LZ];have:(pre++a::l)[pre.length]?=U a:=by simp
     rw[this];have:=ih (pre++[a])
     simp_all
   have:=key ps []
   simpa[List.range_eq_range']using this
  grind
 ·unfold qK
  have hm:∀i∈rC ks,i<ps.length:=λi hi=>List.mem_range.mp (hp.mem_iff.mp hi)
  generalize rC ks=kp at hm
  induction kp with
  |nil=>rfl
  |cons i l ih=>
   simp_all
theorem kM (rs:List Row) (hrs:rs.length<=1000) (ks:List IX) (hk:ks.length<=1000) {ps:List Pat}(h4:∀p∈ps,p.2.length<=4) (hl:ps.length<=4):∃o:List Pat,o.Perm ps/\
  f_search_order [.lst (rs.map rowD),.lst (ps.map az),.lst (ks.map D.str)]=U (.lst (o.map (prD rs)),V):=by
 obtain⟨o1,p1,e1⟩:=tx (f:=prD rs) ps (ps.map λp=>((binds rs p).length:Int)) (by simp) (by simp;lia)
 have h41:∀p∈o1++[],p.2.length<=4:=λp hp=>h4 p (p1.mem_iff.mp (by simp_all))
 have hl1:o1.length=ps.length:=p1.length_eq;obtain⟨o,y5,y6,y7,po,e⟩:=mI rs ks hk o1.length o1 [] (U (.lst (rs.map rowD),Y)) (U (.lst (ps.map az),Y)) B B B B B 1000 rfl (by lia) h41 (by simp;lia)
 refine⟨o,po.trans p1,?_⟩
 rw[ao (f:=f_search_order) (δ:=[U (.lst (rs.map rowD),Y),U (.lst (ps.map az),Y),U (.lst (ks.map D.str),Y),B,B,B,B,B,B,B]) rfl rfl rfl];have hc:aJ (au (af 8) (λδ=>U V) aR (aG Y [V,Y,Y,Y,Y,Y,Y,Y,Y,Y] [U (.lst (rs.map rowD),Y),U (.lst (ps.map az),Y),U (.lst (ks.map D.str),Y),B,B,B,B,B,B,B])) (ps.map az)=U (ps.map (prD rs)):=by
  have key:∀qs:List Pat,(∀p∈qs,p.2.length<=4)->aJ (au (af 8) (λδ=>U V) aR (aG Y [V,Y,Y,Y,Y,Y,Y,Y,Y,Y] [U (.lst (rs.map rowD),Y),U (.lst (ps.map az),Y),U (.lst (ks.map D.str),Y),B,B,B,B,B,B,B])) (qs.map az)=U (qs.map (prD rs)):=by
   intro qs
   induction qs with
   |nil=>intro _;rfl
   |cons q qs ih=>
    intro h;rw[IG];unfold aJ;have:au (af 8) (λδ=>U V) aR (aG Y [V,Y,Y,Y,Y,Y,Y,Y,Y,Y] [U (.lst (rs.map rowD),Y),U (.lst (ps.map az),Y),U (.lst (ks.map D.str),Y),B,B,B,B,B,B,B]) (az q)=U (U (prD rs q)):=by
     simp[au,aG,aR,rW (h q (IN ..)) hrs,prD]
    rw[this,ih λp hp=>h p (IK _ hp)]
    rfl
  exact key ps h4
 simp only[cU,rd_1,rd_0,lstL_s,bindO_s];rw[bd (by simp;lia),hc]
 have hs:jO (aj (U (ps.map (prD rs)))) (λd=>aQ [U (d,Y)])=U (.lst (o1.map (prD rs))):=by
  unfold jO;simp only[lstLim_s,tX,e1];rw[if_pos (by simp;lia)]
 simp_all
end K61
namespace K61
open PySem L2 JP
variable[Md]
theorem bw {α:Type}{f:α->D}{h:α->D}{p:α->Bool}{F:D->Option (Option D)}:∀{xs:List α},(∀x∈xs,F (f x)=U (if p x=V then U (h x) else B))->aJ F (xs.map f)=U ((xs.filter p).map h)
 |[],_=>rfl
 |x::xs,H=>by
  rw[IG];unfold aJ;rw[H x (IN ..),bw λy hy=>H y (IK _ hy),List.filter_cons]
  cases p x<;>rfl
theorem aM {α:Type}{f:α->D}{h:α->D}{F:D->Option (Option D)}{xs:List α}(H:∀x∈xs,F (f x)=U (U (h x))):aJ F (xs.map f)=U (xs.map h):=by
 have:=bw (f:=f) (h:=h) (p:=λ_=>V) (F:=F) (xs:=xs) λx hx=>by rw[H x hx];rfl
 rwa[List.filter_eq_self.mpr λ_ _=>rfl]at this
noncomputable def wR (ns:List Nat):D:=.lst (ns.map λn:Nat=>D.int n)
noncomputable def cD (c:List Ce):D:=.tup (c.map ceD)
theorem gm {a b:List Ce}(h:cD a=cD b):a=b:=by
 injection h with h
 induction a generalizing b with
 |nil=>simp_all
 |cons x a ih=>cases b with
  |nil=>simp at h
  |cons y b=>simp only[IG,Lq]at h;rw[iO h.1,ih h.2]
theorem pE (c:List Ce):cW 8 (cD c)=V:=dR (f:=ceD) (λa=>by cases a<;>rfl) c
theorem qv (c:List Ce):uD (cD c)=V:=rfl
theorem HV (c:List Ce):okD 15 (cD c)=V:=dR (f:=ceD) (λa=>by cases a<;>rfl) c
theorem zo (l:IX):∀known:List IX,(known.map D.str).idxOf (.str l)=known.idxOf l
 |[]=>rfl
 |k::known=>by
  rw[IG,Oy,Oy,zo l known]
  lia
theorem AQ {l:IX}{known:List IX}(h:l∈known) (hk:known.length<=1000):G3 (U (.lst (known.map D.str))) (U (.str l))=U (.int (known.idxOf l)):=by
 unfold G3;simp only[b2,ae,gd,zo];rw[if_pos ⟨rfl,dR (λ_=>rfl) _,by rw[IC];exact Ko h,by simp;lia⟩]
theorem eS {ls known:List IX}(h:∀l∈ls,l∈known) (hl:ls.length<=1000) (hk:known.length<=1000):f_places_of [.lst (ls.map D.str),.lst (known.map D.str)]=U (wR (aY ls known),V):=
 opn (f:=f_places_of) rfl (rF ((lO (ds:=ls.map D.str) rfl (by simpa) rfl (aM λl hm=>itG (AQ (h l hm) hk)) (by simpa)).trans (by simp[wR,aY])))
theorem jU {c:List Ce}{ps:List Nat}(h:∀i∈ps,i<c.length) (hl:ps.length<=1000):f_picked [cD c,wR ps]=U (cD (pk c ps),Y):=
 opn (f:=f_picked) rfl (rO (.trans (congrArg cK (lO (ds:=ps.map λn:Nat=>D.int n) rfl (by simpa) rfl (aM (h:=λn=>ceD (c.getD n default)) λn hm=>itG (by have:=h n hm;exact pM (by lia) (by simp[this]))) (by simpa))) (by simp[cD,pk,cK,dm])))
noncomputable def gD (g:Gr):List (D×List D):=g.map λq=>(cD q.1,q.2.map cD)
theorem BW (k e:List Ce):∀g:Gr,bK (gD g) (cD k) (cD e)=gD (wQ g k e)
 |[]=>rfl
 |q::g=>by
  have ih:=BW k e g;unfold gD at ih⊢;rw[IG];unfold bK wQ;have h1:(cD q.1=cD k)=(q.1=k):=propext ⟨gm,λh=>by rw[h]⟩
  have h2:(cD e∈q.2.map cD)=(e∈q.2):=propext ⟨λh=>by
   obtain⟨x,hx,he⟩:=List.mem_map.mp h;rwa[<-gm he],λh=>List.mem_map.mpr ⟨e,h,rfl⟩⟩
  simp only[h1,h2,ih];split
  ·split<;>simp
  ·simp
theorem FV {b:Bi}{l:IX}{c:Ce}(h:gt b l=U c):EP (U (bD b)) (U (.str l))=U (ceD c):=by
 unfold EP;rw[zg,h];rfl
theorem xp {b:Bi}{sh:List IX}{x:Option (List D)}{δ:DEnv}(hx:x=U (sh.map D.str)) (hl:sh.length<=1000) (h:∀l∈sh,∃c,gt b l=U c) (hm:aG Y [Y,Y,Y,Y,V,Y,Y,Y] δ=[B,B,B,B,U (bD b,Y),B,B,B]):
  cK (aj (ae x (bj Y [Y,Y,Y,Y,V,Y,Y,Y] (af 7) (λδ=>U V) lD δ)))=U (cD (vl b sh)):=by
 rw[lO hx (by simpa) hm (aM (h:=λl=>ceD ((gt b l).getD default)) λl hm=>itG (by obtain⟨c,hc⟩:=h l hm;rw[hc];exact FV hc)) (by simpa)]
 simp[vl,cD,cK,dm]
theorem uF {sh ad:List IX}(h1:sh.length<=1000) (h2:ad.length<=1000) (a0:D):∀(bs:List Bi) (g:Gr) (a4 a5:Option (D×Bool)),(∀b∈bs,∀l∈sh++ad,∃c,gt b l=U c)->
  eW 4 5 6 dF dw (bs.map bD) [U (a0,Y),U (.lst (sh.map D.str),Y),U (.lst (ad.map D.str),Y),B,a4,a5,B,B] (gD g)=U (gD (bs.foldl (λg b=>wQ g (vl b sh) (vl b ad)) g))
 |[],g,a4,a5,_=>rfl
 |b::bs,g,a4,a5,h=>by
  have hb:=h b (.head _);rw[IG,Ld,<-uF h1 h2 a0 bs _ (U (bD b,Y)) (U (cD (vl b sh),Y)) λb' hb'=>h b' (.tail _ hb')]
  conv=>lhs;unfold eW
  simp only[IE,ID];have e1:dF _=_:=xp (δ:=[U (a0,Y),U (.lst (sh.map D.str),Y),U (.lst (ad.map D.str),Y),B,U (bD b,Y),a5,B,B]) rfl h1 (λl hl=>hb l (JU _ hl)) rfl
  have e2:dw _=_:=xp (δ:=[U (a0,Y),U (.lst (sh.map D.str),Y),U (.lst (ad.map D.str),Y),B,U (bD b,Y),U (cD (vl b sh),Y),B,B]) rfl h2 (λl hl=>hb l (Kn _ hl)) rfl
  simp only[e1,e2,pE,qv,Pb,if_true,BW]
theorem wD {bs:List Bi}{sh ad:List IX}(h1:sh.length<=1000) (h2:ad.length<=1000) (hl:bs.length<=1000) (h:∀b∈bs,∀l∈sh++ad,∃c,gt b l=U c):
  f_grouped [.lst (bs.map bD),.lst (sh.map D.str),.lst (ad.map D.str)]=U (zr (gD (grp bs sh ad)),V):=
 opn (f:=f_grouped) rfl (by
  unfold lw Fg;rw[if_pos ⟨rfl,by simp[cz],by simp[cz],by simp[cz],by simp[cz]⟩]
  rw[show lK (.set (cz 8 [.lst (bs.map bD),.lst (sh.map D.str),.lst (ad.map D.str)]) 3 B)=U (bs.map bD) from rfl]
  dsimp only;rw[if_pos (by simp[lim_eq];lia),show eW 4 5 6 dF dw (bs.map bD) (.set (cz 8 [.lst (bs.map bD),.lst (sh.map D.str),.lst (ad.map D.str)]) 3 B) []=_ from uF h1 h2 (.lst (bs.map bD)) bs [] B B h]
  rfl)
theorem B2 (k:List Ce):∀g:Gr,(bM (cD k) ((gD g).map (·.1)) ((gD g).map λp=>(.dD p.2 (p.2.map λ_=>.bl V):D))).getD (.dD [] [])=.dD ((fU g k).map cD) ((fU g k).map λ_=>.bl V)
 |[]=>rfl
 |q::g=>by
  have ih:=B2 k g;rw[aZ];show(bM (cD k) (cD q.1::(gD g).map (·.1)) ((.dD (q.2.map cD) ((q.2.map cD).map λ_=>.bl V):D)::_)).getD _=_
  unfold bM
  by_cases h:q.1=k
  ·rw[if_pos (by rw[h]),if_pos h];simp
  ·rw[if_neg λz=>h (gm z),if_neg h];exact ih
theorem Hq (g:Gr) (k:List Ce):cO (U (zr (gD g))) (U (cD k)) (U (.dD [] []))=U (.dD ((fU g k).map cD) ((fU g k).map λ_=>.bl V)):=by
 unfold cO iI zr;simp only[pE,qv,Pb,if_true,B2]
noncomputable def CL (l:List (List Ce)):D:=.dD (l.map cD) (l.map λ_=>.bl V)
theorem wM {ks:List D}(k:D):∀{n:List (List Ce)},ks.length=n.length->fq k (.bl V) ks (n.map λ_=>(.bl V:D))=n.map λ_=>.bl V:=by
 induction ks with
 |nil=>intro n h;cases n with
  |nil=>rfl
  |cons=>simp at h
 |cons a ks ih=>intro n h;cases n with
  |nil=>simp at h
  |cons b n=>simp_all [IG,fq,ite_self]
theorem DD (x:List Ce) (l:List (List Ce)) (hl:l.length<900000):pI (CL l) (cD x) (.bl V)=U (CL (ins x l)):=by
 unfold CL pI;have hm:(cD x∈l.map cD)=(x∈l):=propext ⟨λh=>by
   grind [gm],λh=>List.mem_map.mpr ⟨x,h,rfl⟩⟩
 simp only[pE,qv,Pb,LA];rw[if_pos (by simp;lia)]
 unfold bH kh ins
 grind [wM]
theorem xi (x:List Ce) (l:List (List Ce)):(ins x l).length<=l.length+1:=by unfold ins;split<;>simp
theorem Fk (kc:List Ce) (hk:kc.length<=1000) {a0 a1 a2 a3 a5 a7:Option (D×Bool)}{as l:List (List Ce)}(ha:∀a∈as,a.length<=1000) (hl:l.length+1*as.length<=500000):
  (as.foldl (λl a=>ins (kc++a) l) l).length<=l.length+1*as.length/\∃y7,am (λd δ=>ae ((af 7) d δ) eY) (as.map cD) [a0,a1,a2,a3,U (CL l,V),a5,U (cD kc,Y),a7]=U (.next [a0,a1,a2,a3,U (CL (as.foldl (λl a=>ins (kc++a) l) l),V),a5,U (cD kc,Y),y7]):=
 iu (m:=Kk) (E:=λl y=>[a0,a1,a2,a3,U (CL l,V),a5,U (cD kc,Y),y]) hl λa hm l y hl=>⟨xi _ _,U (cD a,Y),by
  have hc:Bp (U (cD kc)) (U (cD a))=U (cD (kc++a)):=by
   unfold Bp cD;have:=ha a hm;simp only[b2,ae,IC,lim_eq];rw[if_pos (by lia),Jd]
  simp[eY,Ar,hc,DD _ _ (show l.length<900000 by lia)]⟩
theorem tA {found:List (List Ce)}{sp kp:List Nat}{g:Gr}(h1:sp.length<=1000) (h2:kp.length<=1000) (hg:∀k,((fU g k).length<=25)/\∀a∈fU g k,a.length<=1000) (hf:found.length<=16000) (h:∀c∈found,∀i∈sp++kp,i<c.length):
  f_extended [.lst (found.map cD),wR sp,wR kp,zr (gD g)]=U (.lst ((ext found sp kp g).map cD),V):=
 opn (f:=f_extended) rfl (stF rfl (by
  obtain⟨_,y,e⟩:=iu (F:=zv g sp kp) (m:=Kk) (k:=25) (PZ:=450000) (f:=cD) (body:=λd δ=>ae ((af 5) d δ) i7) (E:=λl (y:Option (D×Bool)×Option (D×Bool)×Option (D×Bool))=>[U (.lst (found.map cD),Y),U (wR sp,Y),U (wR kp,Y),U (zr (gD g),Y),U (CL l,V),y.1,y.2.1,y.2.2]) (xs:=found) (s:=[]) (y:=(B,B,B)) (by simp;lia) λc hm l y hl=>by
   have g1:=(hg (pk c sp)).1;obtain⟨h3,z,e⟩:=Fk (pk c kp) (by unfold pk;simpa using h2) (a0:=U (.lst (found.map cD),Y)) (a1:=U (wR sp,Y)) (a2:=U (wR kp,Y)) (a3:=U (zr (gD g),Y)) (a5:=U (cD c,Y)) (a7:=y.2.2) (as:=fU g (pk c sp)) (l:=l) (hg _).2 (by lia)
   refine⟨by unfold zv;lia,(U (cD c,Y),U (cD (pk c kp),Y),z),?_⟩
   refine sqO (shG (jU (λi hi=>h c hm i (Kn _ hi)) h2)) (.trans ?_ e)
   refine bE (a:=(fU g (pk c sp)).map cD) ?_ rfl
   dsimp only[List.set];simp only[rd_1,rd_0,consO_s,bindO_s,jU (λi hi=>h c hm i (JU _ hi)) h1,shO_s,Hq,yA]
  refine stN (bE rfl e) rfl))
end K61
namespace K61
open PySem L2 JP
variable[Md]
theorem A9 (g:Gr) (k e k':List Ce):(fU (wQ g k e) k').length<=(fU g k').length+1:=by
 induction g with
 |nil=>
  unfold wQ;rw[aZ];split<;>simp[fU]
 |cons q g ih=>
  unfold wQ
  by_cases h:q.1=k
  ·rw[if_pos h,aZ,aZ]
   dsimp only
   by_cases h':q.1=k'
   ·rw[if_pos h',if_pos h'];split<;>simp
   ·rw[if_neg h',if_neg h'];lia
  ·rw[if_neg h,aZ,aZ]
   by_cases h':q.1=k'
   ·rw[if_pos h',if_pos h'];lia
   ·rw[if_neg h',if_neg h'];exact ih
theorem jE {α σ:Type}{F:σ->α->σ}{m:σ->Nat}{k:Nat}(h:∀s x,m (F s x)<=m s+k):∀(xs:List α) (s:σ),m (xs.foldl F s)<=m s+xs.length*k
 |[],_=>by simp
 |x::xs,s=>by have:=jE h xs (F s x);have:=h s x;rw[Ld,IU,PE];lia
theorem DQ (sh ad:List IX) (k:List Ce) (bs:List Bi):(fU (grp bs sh ad) k).length<=bs.length:=by
 simpa[fU,grp]using jE (m:=λg=>(fU g k).length) (λg b=>A9 g (vl b sh) (vl b ad) k) bs []
theorem Eu {found:List (List Ce)}{sp kp:List Nat}{g:Gr}{n:Nat}(h:∀k,(fU g k).length<=n):(ext found sp kp g).length<=found.length*n:=by
 simpa[ext]using jE (m:=Kk) (F:=zv g sp kp) (k:=n) (λl c=>by
  have:=jE (m:=Kk) (λl a=>xi (pk c kp++a) l) (fU g (pk c sp)) l
  have:=h (pk c sp);unfold zv;lia) found []
theorem wx {α:Type}(f:α->D) (a:List α) (x:α) (b:List α):rG ((a++x::b).map f) (U ((a.length:Int)+1)) B=b.map f:=by
 unfold rG;have e:((a.length:Int)+1)=((a.length+1:Nat):Int):=by lia
 rw[e,tj,u0];simp only[IC,Jy,IU];rw[Lw (by simp)]
 simp[NQ,List.drop_append]
theorem xu (l:IX) (ss:List IX):bC (U (.str l)) (U (.lst (ss.map D.str)))=U (!decide (l∈ss)):=by
 unfold bC;rw[iQ];rfl
theorem H6 {x y:Option D}{a b:List D}(hx:x=U (.lst a)) (hy:y=U (.lst b)) (h:a.length+b.length<=1000):pY x y=U (.lst (a++b)):=by
 subst hx hy;exact catO_s _ _ (by rw[lim_eq];lia)
theorem Hi {x:Option D}{d:D}(h:x=U d):aa x (U [])=U [d]:=by subst h;rfl
theorem itF {i:Nat}{ft:DEnv->Option Bool}{fe:DEnv->Option D}{ε:DEnv}{d e:D}{p:Bool}(ht:ft (ε.set i (U (d,Y)))=U p) (he:fe (ε.set i (U (d,Y)))=U e) (hi:NL i ε.length=V:=by rfl):au (af i) ft fe ε d=U (if p=V then U e else B):=by
 unfold au;rw[toName_s _ _ _ (Kz hi)];cases p<;>simp only[bindO_s,ht,he]<;>rfl
theorem sqZ {i:Nat}{x:Option D}{d:D}{δ:DEnv}{g:DEnv->Option Out}{r:Option Out}(h:x=U d) (k:g (δ.set i (U (d,Y)))=r) (hi:NL i δ.length=V:=by rfl):ak (eC i x δ) (λδ=>g (iE i δ))=r:=
 sqF h (by
  have h:=Kz hi;rw[<-k,iE,Je h]
  simp only[MB]) hi
theorem Io {bs:List Bool}{τ:D->DEnv->Option DEnv}{ft:DEnv->Option Bool}{fe:DEnv->Option D}{δ ε:DEnv}{x:Option (List D)}{ds es:List D}(hx:x=U ds) (hl:ds.length<=400000) (hm:aG Y bs δ=ε) (h:aJ (au τ ft fe ε) ds=U es):aj (ae x (bj Y bs τ ft fe δ))=U (.lst es):=by
 subst hx hm;rw[bindO_s,bd (by rw[lim_eq];lia),h,lstLim_s]
theorem uf {own:List IX}{P:IX->Bool}{F:D->Option (Option D)}(h:∀l∈own,F (.str l)=U (if P l=V then U (.str l) else B)):aJ F (own.map D.str)=U ((own.filter P).map D.str):=bw h
theorem sW {α:Type}(P:α->Bool) (l:List α):(l.filter P).length<=l.length:=Ka ..
theorem CP {rs:List Row}(hrs:rs.length<=25) {wanted:List IX}(hw:wanted.length<=100) {done rest:List Pat}{p:Pat}{kn:List IX}{fd:List (List Ce)}{known:List IX}{found:List (List Ce)}(J:Jn rs kn fd wanted done (p::rest) known found) (hk:known.length<=100) (hf:found.length<=16000)
  (h4:∀q∈p::rest,q.2.length<=4) (hl:(p::rest).length<=4) (a0 a1 x8 x9 x10 x11 x12 x13 x14 x15 x16 x17:Option (D×Bool)):∃known' found' y8 y9 y10 y11 y12 y13,Jn rs kn fd wanted (done++[p]) rest known' found'/\known'.length<=known.length+4/\found'.length<=found.length*rs.length/\
  cu [a0,a1,U (.lst (wanted.map D.str),Y),U (.lst (known.map D.str),Y),U (.lst (found.map cD),Y),U (.lst ((done++p::rest).map (prD rs)),Y),U (.int done.length,Y),U (prD rs p,Y),x8,x9,x10,x11,x12,x13,x14,x15,x16,x17]=
   U (.next [a0,a1,U (.lst (wanted.map D.str),Y),U (.lst (known'.map D.str),Y),U (.lst (found'.map cD),Y),U (.lst ((done++p::rest).map (prD rs)),Y),U (.int done.length,Y),U (prD rs p,Y),y8,y9,y10,y11,y12,y13,x14,x15,x16,x17]):=by
 obtain⟨ls,els,_,mls,lls⟩:=oG (aX rest);obtain⟨own,eown,nown,mown,lown⟩:=oG (aX [p]);have hp4:=h4 p (IN ..);have hr4:∀q∈rest,q.2.length<=4:=λq hq=>h4 q (IK _ hq)
 have hrl:rest.length<=3:=by simp at hl;lia
 have lr:=aF hr4;have lp:(aX [p]).length<=4:=by
  have:=aF (ps:=[p]) λq hq=>by simp_all
  simpa using this
 have mo:∀l,l∈own↔l∈ans p.2:=λl=>by rw[mown,dI];simp
 have ml:∀l,l∈wanted++ls↔l∈wanted\/∃q∈rest,l∈ans q.2:=λl=>by rw[Mx,mls,dI]
 have hol:own.length<=4:=by lia
 generalize hlat:wanted++ls=later at ml;have J':=Dk J mo nown ml;have f1:=sW (λl=>decide (l∈known)) own
 have f2:=sW (λl=>decide (l∈later)&&!decide (l∈known)) own
 have f3:=sW (λl=>decide (l∈later)) known
 have memS:∀l∈own.filter (λl=>decide (l∈known)),l∈known:=λl hl=>by simp at hl;exact hl.2
 have memK:∀l∈known.filter (λl=>decide (l∈later)),l∈known:=λl hl=>by simp at hl;exact hl.1
 have hin:∀b∈binds rs p,∀l∈own,∃c,gt b l=U c:=λb hb l hl=>(gJ hb).1 l ((mo l).mp hl)
 have hsub:∀l∈own.filter (λl=>decide (l∈known))++own.filter (λl=>decide (l∈later)&&!decide (l∈known)),l∈own:=λl hl=>(List.mem_append.mp hl).elim (λh=>(List.mem_filter.mp h).1) λh=>(List.mem_filter.mp h).1
 have eg:=wD (bs:=binds rs p) (sh:=own.filter (λl=>decide (l∈known))) (ad:=own.filter (λl=>decide (l∈later)&&!decide (l∈known))) (by lia) (by lia) (by have:=qq rs p;lia) λb hb l hl=>hin b hb l (hsub l hl)
 generalize hsh:own.filter (λl=>decide (l∈known))=sh at*
 generalize had:own.filter (λl=>decide (l∈later)&&!decide (l∈known))=ad at*
 generalize hkp:known.filter (λl=>decide (l∈later))=kept at*
 have hgl:∀k,(fU (grp (binds rs p) sh ad) k).length<=rs.length:=λk=>IR (DQ sh ad k _) (qq rs p)
 have ee:=tA (found:=found) (sp:=aY sh known) (kp:=aY kept known) (g:=grp (binds rs p) sh ad) (by unfold aY;simp;lia) (by unfold aY;simp;lia) (λk=>⟨by have:=hgl k;lia,λa ha=>by
   obtain⟨b,_,_,e⟩:=(JP.grp_get _ _ _ _ _).mp ha;rw[<-e];unfold vl;simp;lia⟩) hf λc hc i hi=>by
  obtain⟨φ,rfl,_⟩:=(J.mem c).mp hc;rw[IC];have:∃l∈sh++kept,i=known.idxOf l:=by
   unfold aY at hi;rw[<-Jd]at hi;obtain⟨l,h1,h2⟩:=List.mem_map.mp hi;exact⟨l,h1,h2.symm⟩
  obtain⟨l,h1,rfl⟩:=this;exact Ko ((List.mem_append.mp h1).elim (memS l) (memK l))
 have ep1:=eS memS (by lia) (by lia)
 have ep2:=eS memK (by lia) (by lia)
 refine⟨_,_,U (.lst (later.map D.str),Y),U (.lst (own.map D.str),Y),U (.lst (sh.map D.str),Y),U (.lst (ad.map D.str),Y),U (.lst (kept.map D.str),Y),U (zr (gD (grp (binds rs p) sh ad)),Y),J',by simp;lia,Eu hgl,?_⟩
 have l1:=aA (ps:=rest) (by lia) hr4
 have l2:=aA (ps:=[p]) (by simp) λq hq=>by simp_all
 rw[els]at l1;rw[eown]at l2;refine sqO (d:=.lst (later.map D.str)) (.trans (H6 rfl (frG (bE (Hi (lO (ds:=rest.map (prD rs)) (congrArg U (wx (prD rs) done p rest)) (by simp;lia) rfl (aM λq hq=>itG rfl) (by simp;lia))) l1)) (by simp;lia)) (by rw[<-Jd,hlat])) ?_
 refine sqO (frG (bE rfl l2)) ?_
 refine sqZ ((lO rfl (by simp;lia) rfl (bw λl hl=>itF (iQ ..) rfl) (by simp;lia)).trans (by rw[hsh])) ?_
 refine sqZ ((lO rfl (by simp;lia) rfl (bw (p:=λl=>decide (l∈later)&&!decide (l∈known)) λl hl=>itF (by
  show mN (inO (U (.str l)) (U (.lst (later.map D.str)))) (bC (U (.str l)) (U (.lst (known.map D.str))))=_;rw[iQ,xu];cases decide (l∈later)<;>rfl) rfl) (by simp;lia)).trans (by rw[had])) ?_
 refine sqZ ((lO rfl (by simp;lia) rfl (bw λl hl=>itF (iQ ..) rfl) (by simp;lia)).trans (by rw[hkp])) ?_
 refine sqO (d:=zr (gD (grp (binds rs p) sh ad))) (bE (x:=U _) rfl (congrArg frO eg)) ?_
 refine sqO (d:=.lst ((ext found (aY sh known) (aY kept known) (grp (binds rs p) sh ad)).map cD)) ?_ ?_
 ·simp only[IE,ID,rd_1,rd_0,consO_s,bindO_s,ep1,ep2,show ∀ns,frO (U (wR ns,V))=U (wR ns) from λ_=>rfl,ee,frO_s]
 refine(congrArg (λx=>aH 3 x _) (H6 (a:=kept.map D.str) (b:=ad.map D.str) rfl rfl (by simp;lia))).trans ?_
 rw[setO_s _ _ _ (by simp),<-Jd]
 rfl
theorem hO {lt:D->D->Option Bool}:∀{xs ys:List D},(∀x∈xs,∀y∈ys,(lt x y).isSome=V)->(dN lt xs ys).isSome=V
 |[],[],_=>rfl
 |[],_::_,_=>rfl
 |_::_,[],_=>rfl
 |x::xs,y::ys,h=>by
  unfold dN;split
  ·exact hO λa ha b hb=>h a (IK _ ha) b (IK _ hb)
  ·exact h x (IN ..) y (IN ..)
theorem bn:¬(JM "blank")=(JM "name"):=by decide +kernel
theorem nb:¬(JM "name")=(JM "blank"):=by decide +kernel
theorem xO (n:Nat) (c e:Ce):(ltD (n+1) (ceD c) (ceD e)).isSome=V:=by
 cases c<;>cases e<;>simp[ceD,ltD,dN,bn,nb]<;>split<;>rfl
theorem vQ (fs:List (List Ce)):eE (fs.map cD)=V:=sj HV (λr q=>hO λx hx y hy=>by
 obtain⟨c,_,rfl⟩:=List.mem_map.mp hx;obtain⟨e,_,rfl⟩:=List.mem_map.mp hy;exact xO 13 c e) fs
theorem bO {α:Type}{f:α->D}:∀{l:List D}{fs:List α},l.Perm (fs.map f)->∃gs:List α,gs.Perm fs/\l=gs.map f
 |[],fs,h=>⟨[],by rw[List.map_eq_nil_iff.mp h.symm.eq_nil],rfl⟩
 |d::l,fs,h=>by
  obtain⟨a,ha,rfl⟩:=List.mem_map.mp (h.mem_iff.mp (.head _));obtain⟨s,t,rfl⟩:=List.append_of_mem ha;obtain⟨gs,p,rfl⟩:=bO (l:=l) (fs:=s++t) (by rw[Jd]at h⊢;exact(h.trans List.perm_middle).cons_inv)
  exact⟨a::gs,(p.cons a).trans List.perm_middle.symm,rfl⟩
theorem HL {fs:List (List Ce)}(nd:fs.Nodup) {n:Nat}(hn:∀c∈fs,c.length=n):fs.length<2\/(fs.map cD).all (iR .tt)=V:=by
 by_cases h1:fs.length<2
 ·exact .inl h1
 ·have hn0:n≠0:=λz=>by
   subst z
   match fs,nd,hn,h1 with
   |[],_,_,h=>simp at h
   |[_],_,_,h=>simp at h
   |a::b::r,nd,hn,_=>
    simp_all
  refine .inr (List.all_eq_true.mpr λd hd=>?_)
  obtain⟨c,hc,rfl⟩:=List.mem_map.mp hd;have:=hn c hc;cases c with
  |nil=>exact absurd this.symm hn0
  |cons x c=>cases x<;>rfl
theorem FB {fs:List (List Ce)}(nd:fs.Nodup) {n:Nat}(hn:∀c∈fs,c.length=n):eB .tt (U (.lst (fs.map cD)))=U (.lst (cG (fs.map cD))):=
 fQ (vQ fs) (by simpa using HL nd hn)
theorem pJ {rs:List Row}(hrs:rs.length<=25) {wanted:List IX}(hw:wanted.length<=100) (a0 a1 x14 x15 x16 x17:Option (D×Bool)) {n:Nat}{kn:List IX}{fd:List (List Ce)}(hkn:kn.length<=16) (hN:∀k,k<n->fd.length*rs.length ^ k<=16000):∀(rest done:List Pat) (known:List IX) (found:List (List Ce)) (x6 x7 x8 x9 x10 x11 x12 x13:Option (D×Bool)),
  done.length+rest.length=n->n<=4->(∀q∈rest,q.2.length<=4)->Jn rs kn fd wanted done rest known found->known.length<=kn.length+4*done.length->found.length<=fd.length*rs.length ^ done.length->∃known' found' y6 y7 y8 y9 y10 y11 y12 y13,Jn rs kn fd wanted (done++rest) [] known' found'/\known'.length<=32/\found'.length<=fd.length*rs.length ^ n/\
  am (λd δ=>ae ((aL (ah (af 6) (ah (af 7) (toNil)))) d δ) cu) (fV done.length (rest.map (prD rs))) [a0,a1,U (.lst (wanted.map D.str),Y),U (.lst (known.map D.str),Y),U (.lst (found.map cD),Y),U (.lst ((done++rest).map (prD rs)),Y),x6,x7,x8,x9,x10,x11,x12,x13,x14,x15,x16,x17]=
   U (.next [a0,a1,U (.lst (wanted.map D.str),Y),U (.lst (known'.map D.str),Y),U (.lst (found'.map cD),Y),U (.lst ((done++rest).map (prD rs)),Y),y6,y7,y8,y9,y10,y11,y12,y13,x14,x15,x16,x17])
 |[],done,known,found,x6,x7,x8,x9,x10,x11,x12,x13,h1,h2,h3,J,hk,hf=>by
  simp at h1;exact⟨known,found,x6,x7,x8,x9,x10,x11,x12,x13,by simpa using J,by lia,by rw[<-h1];exact hf,rfl⟩
 |p::rest,done,known,found,x6,x7,x8,x9,x10,x11,x12,x13,h1,h2,h3,J,hk,hf=>by
  have hd:done.length<n:=by simp at h1;lia
  have hf1:found.length<=16000:=IR hf (hN _ hd);obtain⟨k1,f1,z8,z9,z10,z11,z12,z13,J1,hk1,hf2,e⟩:=CP hrs hw J (by lia) hf1 h3 (by simp at h1⊢;lia) a0 a1 x8 x9 x10 x11 x12 x13 x14 x15 x16 x17
  obtain⟨k2,f2,y6,y7,y8,y9,y10,y11,y12,y13,J2,hk2,hf3,e2⟩:=pJ hrs hw a0 a1 x14 x15 x16 x17 hkn hN rest (done++[p]) k1 f1 (U (.int done.length,Y)) (U (prD rs p,Y)) z8 z9 z10 z11 z12 z13 (by simp at h1⊢;lia) h2 (λq hq=>h3 q (IK _ hq)) J1 (by simp;lia)
   (by rw[Jy,LD,Oe,<-Pf];exact IR hf2 (Nat.mul_le_mul_right _ hf))
  refine⟨k2,f2,y6,y7,y8,y9,y10,y11,y12,y13,by simp_all,hk2,hf3,?_⟩
  rw[J0,PG]at e2;rw[IG];simp only[fV];unfold am
  simp_all
theorem ln {rs:List Row}(hrs:rs.length<=25) {ps:List Pat}(hps:ps.length<=4) (h4:∀p∈ps,p.2.length<=4) {kn:List IX}{fd:List (List Ce)}(hkn:kn.length<=16) (k1:kn.Nodup) (k2:fd.Nodup) (k3:∀x∈fd,x.length=kn.length) (k4:∀l∈kn,l∈aX ps) (hf0:fd.length<=16000) (hN:∀k,k<ps.length->fd.length*rs.length ^ k<=16000) {wanted:List IX}(hw:wanted.length<=100) (hwp:∀l∈wanted,l∈aX ps):∃fs:List (List Ce),fs.Nodup/\(∀x,x∈fs↔∃φ:Fit,x=wanted.map φ/\kn.map φ∈fd/\∀p∈ps,eG rs φ p)/\
  f_joined_from [.lst (rs.map rowD),.lst (ps.map az),.lst (wanted.map D.str),.lst (kn.map D.str),.lst (fd.map cD)]=U (.lst (cG (fs.map cD)),V)/\fs.length<=fd.length*rs.length ^ ps.length:=by
 obtain⟨o,po,eo⟩:=kM rs (by lia) kn (by lia) h4 hps
 have ol:=po.length_eq;have ho:∀q∈o,q.2.length<=4:=λq hq=>h4 q (po.mem_iff.mp hq)
 have inO:∀l,l∈aX ps->∃p∈o,l∈ans p.2:=λl hl=>by
  obtain⟨p,hp,h⟩:=dI.mp hl;exact⟨p,po.mem_iff.mpr hp,h⟩
 obtain⟨known,found,y6,y7,y8,y9,y10,y11,y12,y13,J,hk,hf,e⟩:=pJ hrs hw (U (.lst (rs.map rowD),Y)) (U (.lst (ps.map az),Y)) B B B B (n:=ps.length) hkn hN o [] kn fd B B B B B B B B (by simpa using ol) hps ho (BG rs k1 k2 k3 λl hl=>.inr (inO l (k4 l hl))) (by simp) (by simp)
 simp only[Lz]at J e;have hwo:∀l∈wanted,l∈kn\/∃p∈o,l∈ans p.2:=λl hl=>.inr (inO l (hwp l hl))
 have hwk:∀l∈wanted,l∈known:=λl hl=>J.has l (hwo l hl) (.inl hl)
 obtain⟨nd,mem⟩:=F7 J hwo;have es:=FB nd (n:=wanted.length) (λc hc=>by
  grind)
 have hf':found.length<=400000:=by
  refine IR hf ?_
  rcases Nat.eq_zero_or_pos ps.length with z|z
  ·rw[z];simp;lia
  ·obtain⟨m,hm⟩:∃m,ps.length=m+1:=⟨ps.length - 1,by lia⟩
   rw[hm,Oe,<-Pf];exact IR (Nat.mul_le_mul (hN m (by lia)) hrs) (by decide)
 refine⟨found.map λc=>pk c (aY wanted known),nd,λx=>?_,?_⟩
 ·rw[mem]
  constructor
  ·rintro⟨φ,h1,h0,h2⟩;exact⟨φ,h1,h0,λp hp=>h2 p (po.mem_iff.mpr hp)⟩
  ·rintro⟨φ,h1,h0,h2⟩;exact⟨φ,h1,h0,λp hp=>h2 p (po.mem_iff.mp hp)⟩
 ·refine⟨?_,by simpa using hf⟩
  ·refine opn (f:=f_joined_from) rfl ?_
   refine stO (frG (bE rfl eo)) ?_
   refine stN (bE rfl e) ?_
   refine stO (d:=wR (aY wanted known)) (bE (x:=U _) rfl (congrArg frO (eS hwk (by lia) (by lia)))) ?_
   refine rF (.trans (congrArg _ ((Io rfl (by simp;lia) rfl (aM (f:=cD) (h:=λc=>cD (pk c (aY wanted known))) λc hc=>itG (by
    obtain⟨φ,rfl,_⟩:=(J.mem c).mp hc;exact bE (x:=U _) rfl (congrArg shO (jU (c:=known.map φ) (ps:=aY wanted known) (λi hi=>by
     obtain⟨l,h1,rfl⟩:=List.mem_map.mp hi;rw[IC];exact Ko (hwk l h1)) (by unfold aY;simp;lia)))))).trans (by rw[JK];rfl))) es)
end K61
namespace K61
open PySem L2 JP
variable[Md]
noncomputable def cC (q:IX×Ce):D:=.tup [.str q.1,ceD q.2]
theorem Aj {a b:IX×Ce}(h:cC a=cC b):a=b:=by
 obtain⟨x,c⟩:=a;simp only[cC,D.tup.injEq,Lq,D.str.injEq,and_true]at h;rw[h.1,iO h.2]
noncomputable def uL (ps:List Pat):List IX:=sL (aX ps)
theorem zW (ps:List Pat):(uL ps).Nodup:=(n8 _).1
theorem cj (ps:List Pat) (x:IX):x∈uL ps↔x∈aX ps:=(n8 _).2.1 x
theorem mA (ps:List Pat):(uL ps).length<=(aX ps).length:=(n8 _).2.2
noncomputable def fL (us:List IX) (c:List Ce):D:=.lst ((us.zip c).map cC)
theorem Ci (q:IX×Ce) (n:Nat):okD (n+3) (cC q)=V:=by obtain⟨l,c⟩:=q;cases c<;>simp[cC,ceD,okD]
theorem gM {f:IX->Ce}:∀us:List IX,us.zip (us.map f)=us.map λl=>(l,f l)
 |[]=>rfl
 |u::us=>by rw[IG,Lv,gM us];rfl
theorem E2 (b:Bi):eE (b.map cC)=V:=by
 unfold eE;rw[IW];intro x hx;obtain⟨⟨l,c⟩,_,rfl⟩:=List.mem_map.mp hx;rw[II];refine⟨Ci (l,c) 12,?_⟩
 rw[IW];intro y hy;obtain⟨⟨k,d⟩,_,rfl⟩:=List.mem_map.mp hy;show(dN (ltD 14) [.str l,ceD c] [.str k,ceD d]).isSome=V;simp only[dN];split
 ·split
  ·rfl
  ·exact xO 13 c d
 ·rfl
end K61
namespace K61
open PySem L2 JP
variable[Md]
theorem uj (r:Row) (n:Nat):okD (n+3) (rowD r)=V:=by
 simp only[rowD,okD,JC,Nh,Li,LA,Ps,IW];intro c _;cases c<;>simp[ceD,okD]
theorem FC (n:Nat) (r q:Row):(ltD (n+3) (rowD r) (rowD q)).isSome=V:=by
 show(dN (ltD (n+2)) [.str r.1,.tup (r.2.map ceD)] [.str q.1,.tup (q.2.map ceD)]).isSome=V;unfold dN;split
 ·unfold dN
  split
  ·rfl
  ·show(dN (ltD (n+1)) (r.2.map ceD) (q.2.map ceD)).isSome=V
   refine hO λx hx y hy=>?_
   obtain⟨c,_,rfl⟩:=List.mem_map.mp hx;obtain⟨e,_,rfl⟩:=List.mem_map.mp hy;exact xO n c e
 ·rfl
theorem uo (rs:List Row):eE (rs.map rowD)=V:=by
 unfold eE
 simp_all [IW,II,uj,FC]
theorem Eo (rs:List Row):(rs.map rowD).all (iR .ts)=V:=by
 rw[IW];intro x hx;obtain⟨r,_,rfl⟩:=List.mem_map.mp hx;rfl
theorem um {r q:Row}(h:rowD r=rowD q):r=q:=by
 obtain⟨a,c⟩:=r;simp only[rowD,D.tup.injEq,Lq,D.str.injEq,and_true]at h;rw[h.1,sK (f:=ceD) (λ_ _=>iO) h.2]
theorem Bd {α:Type}(f:α->D) (xs:List α) (k:Nat):rG (xs.map f) B (U (k:Int))=(xs.take k).map f:=by
 unfold rG;simp[tj,u0,List.drop_zero,Nat.sub_zero,NP,IC]
theorem mX {n:Nat}{ds:List D}(h:∀d∈ds,okD n d=V):okD (n+1) (.lst ds)=V:=by simp_all [okD]
theorem uA (t:Te) (n:Nat):okD (n+1) (teD t)=V:=by cases t<;>simp[teD,okD]
theorem si (n:Nat) (ps:List Pat):okD (n+4) (.lst (ps.map az))=V:=mX λd hd=>by
 obtain⟨p,_,rfl⟩:=List.mem_map.mp hd;simp only[az,okD,JC,Nh,Li,LA];exact List.all_eq_true.mpr λx hx=>by grind [uA]
theorem AK (n:Nat) (rs:List Row):okD (n+4) (.lst (rs.map rowD))=V:=mX λd hd=>by grind [uj]
theorem EF {d:D}(h:okD 16 d=V):neO (U d) (U d)=U Y:=by rw[CJ _ _ (by unfold ok2;rw[h];rfl)];simp
end K61
namespace K61
open PySem L2 JP
variable[Md]
theorem xy:∀(ps:List (D×D)) (ks vs:List D),(ks++ps.map (·.1)).Nodup->oB ks vs ps=(ks++ps.map (·.1),vs++ps.map (·.2))
 |[],ks,vs,_=>by simp[oB]
 |p::ps,ks,vs,h=>by
  have hn:p.1∉ks:=λz=>by
   rw[IG,Lf]at h;exact h.2.2 p.1 z p.1 (by simp) rfl
  have h':(ks++[p.1]++ps.map (·.1)).Nodup:=by simpa using h
  unfold oB bH kh;rw[if_neg hn,if_neg hn,xy ps _ _ h'];simp
theorem pK {α:Type}{kf vf:α->D}(hk:∀q,(cW 8 (kf q)&&uD (kf q))=V):∀qs:List α,iG (qs.map λq=>.tup [kf q,vf q])=U (qs.map λq=>(kf q,vf q))
 |[]=>rfl
 |q::qs=>by
  rw[IG];unfold iG ud;rw[pK hk qs];simp only[hk q,if_true];rfl
theorem oh {α:Type}{kf vf:α->D}(qs:List α) (hk:∀q,(cW 8 (kf q)&&uD (kf q))=V) (nd:(qs.map kf).Nodup) (hl:qs.length<1000):jR (U (.lst (qs.map λq=>.tup [kf q,vf q])))=U (.dD (qs.map kf) (qs.map vf)):=by
 unfold jR;simp only[pK hk];rw[if_pos (by simp;lia),xy _ [] [] (by simpa[PL]using nd)]
 simp[PL]
theorem oj {α:Type}{kf vf:α->D}(k:D):∀qs:List α,bM k (qs.map kf) (qs.map vf)=(qs.find? λq=>decide (kf q=k)).map vf
 |[]=>rfl
 |q::qs=>by
  rw[IG,IG,List.find?_cons]
  unfold bM
  by_cases h:kf q=k
  ·simp_all
  ·rw[if_neg h,decide_eq_false h];exact oj k qs
theorem nw {α:Type}{kf vf:α->D}(qs:List α) {k:D}(hk:(cW 8 k&&uD k)=V):cO (U (.dD (qs.map kf) (qs.map vf))) (U k) (U k)=U (((qs.find? λq=>decide (kf q=k)).map vf).getD k):=by
 unfold cO iI;simp[hk,if_true,oj]
theorem jb {t:D}{xs ks vs:List D}{g:D->D}(h:∀x∈xs,cO (U (.dD ks vs)) (U x) (U x)=U (g x)) (hl:xs.length<=1000):f_exchanged [.tup [t,.tup xs],.dD ks vs]=U (.tup [t,.tup (xs.map g)],Y):=by
 rw[ao (f:=f_exchanged) (δ:=[U (.tup [t,.tup xs],Y),U (.dD ks vs,Y),B]) rfl rfl rfl];have e0:ixO (U (.tup [t,.tup xs])) (U (.int 0))=U t:=by simp[at0]
 have e1:ixO (U (.tup [t,.tup xs])) (U (.int 1))=U (.tup xs):=by simp[at1]
 simp only[gE,rd_1,rd_0,e0,e1,tupL_s,bindO_s];have em:aG Y [Y,V,Y] [U (.tup [t,.tup xs],Y),U (.dD ks vs,Y),B]=[B,U (.dD ks vs,Y),B]:=rfl;have ec:aJ (au (af 2) (λδ=>U V) dx [B,U (.dD ks vs,Y),B]) (xs.map id)=U (xs.map g):=aM λx hx=>by
  unfold au
  simp_all [bindO_s,IE,ID,rd_1,rd_0,dx,id]
 rw[MO]at ec;rw[bd (by simp;lia),em,ec,lstLim_s]
 rfl
theorem Fy (t:Te):(cW 8 (teD t)&&uD (teD t))=V:=by cases t<;>rfl
theorem t5 {φ:Fit}{l:IX}:∀{us:List IX},l∈us->((us.zip (us.map φ)).find? λq=>decide (teD (.any q.1)=teD (.any l)))=U (l,φ l)
 |u::us,h=>by
  rw[IG,Lv,List.find?_cons]
  by_cases e:u=l
  ·subst e;rw[decide_eq_true rfl]
  ·rw[decide_eq_false λz=>e (by have:=oM z;cases this;rfl)]
   rcases List.mem_cons.mp h with z|z
   ·exact absurd z.symm e
   ·exact t5 z
theorem CC {us:List IX}{φ:Fit}{t:Te}(h:∀l,t=.any l->l∈us):cO (U (.dD ((us.zip (us.map φ)).map λq=>teD (.any q.1)) ((us.zip (us.map φ)).map λq=>ceD q.2))) (U (teD t)) (U (teD t))=U (ceD (ev φ t)):=by
 rw[nw (kf:=λq:IX×Ce=>teD (.any q.1)) (vf:=λq=>ceD q.2) _ (Fy t)]
 cases t with
 |any l=>rw[t5 (h l rfl)];rfl
 |nm w=>
  rw[List.find?_eq_none.mpr λq _=>by
   grind [oM]]
  rfl
theorem k9 {us:List IX}(nd:us.Nodup) (hu:us.length<=100) (φ:Fit) {ps:List Pat}(hps:ps.length<=4) (h4:∀p∈ps,p.2.length<=4) (hl:∀l∈aX ps,l∈us):
  f_filled [.lst (ps.map az),fL us (us.map φ)]=U (.lst (ps.map λp=>rowD (p.1,p.2.map (ev φ))),V):=by
 have ef:fL us (us.map φ)=.lst ((us.zip (us.map φ)).map cC):=rfl;have hz:(us.zip (us.map φ)).length<=100:=by rw[List.length_zip];lia
 rw[ao (f:=f_filled) (δ:=[U (.lst (ps.map az),Y),U (fL us (us.map φ),Y),B,B,B,B]) rfl rfl rfl];rw[ef];simp only[ni,rd_1,rd_0,lstL_s,bindO_s];have em:∀a b c d e f:Option (D×Bool),aG Y [Y,Y,Y,Y,Y,Y] [a,b,c,d,e,f]=[B,B,B,B,B,B]:=λ_ _ _ _ _ _=>rfl
 rw[bd (by rw[IC,lim_eq];lia),em,aM (f:=cC) (h:=λq=>.tup [teD (.any q.1),ceD q.2]) λq _=>by
  rfl]
 have ndk:((us.zip (us.map φ)).map λq=>teD (.any q.1)).Nodup:=by
  have e:((us.zip (us.map φ)).map λq=>teD (.any q.1))=us.map λl=>teD (.any l):=by
   rw[gM,JK];rfl
  rw[e];exact Nr _ (λa b hab z=>hab (by grind [oM])) nd
 rw[lstLim_s,oh (kf:=λq:IX×Ce=>teD (.any q.1)) (vf:=λq=>ceD q.2) _ (λq=>Fy _) ndk (by lia),setO_s _ _ _ (by simp)]
 simp only[seqO_n,IE,ID,rd_1,rd_0,lstL_s,bindO_s];have em2:∀(a b d e f:Option (D×Bool)) (x:D),aG Y [Y,Y,V,Y,Y,Y] [a,b,U (x,Y),d,e,f]=[B,B,U (x,Y),B,B,B]:=λ_ _ _ _ _ _=>rfl
 rw[bd (by simp;lia),em2,aM (f:=az) (h:=λp=>rowD (p.1,p.2.map (ev φ))) λp hp=>by
  unfold au;rw[toName_s _ _ _ (by simp)]
  have hin:∀t∈p.2,∀l,t=.any l->l∈us:=λt ht l e=>hl l (dI.mpr ⟨p,hp,by
   have key:∀ts:List Te,Te.any l∈ts->l∈ans ts:=λts=>by
    induction ts with
    |nil=>simp
    |cons a ts ih=>
     intro h
     rcases List.mem_cons.mp h with z|z
     ·subst z;exact IN ..
     ·cases a with
      |any k=>exact IK _ (ih z)
      |nm w=>exact ih z
   simp_all⟩)
  have ex:=jb (t:=.str p.1) (xs:=p.2.map teD) (ks:=(us.zip (us.map φ)).map λq=>teD (.any q.1)) (vs:=(us.zip (us.map φ)).map λq=>ceD q.2) (g:=λd=>(cO (U (.dD ((us.zip (us.map φ)).map λq=>teD (.any q.1)) ((us.zip (us.map φ)).map λq=>ceD q.2))) (U d) (U d)).getD .non) (λx hx=>by
   obtain⟨t,ht,rfl⟩:=List.mem_map.mp hx;rw[CC (hin t ht)];rfl) (by rw[IC];have:=h4 p hp;lia)
  have eg:(p.2.map teD).map (λd=>(cO (U (.dD ((us.zip (us.map φ)).map λq=>teD (.any q.1)) ((us.zip (us.map φ)).map λq=>ceD q.2))) (U d) (U d)).getD .non)=(p.2.map (ev φ)).map ceD:=by
   rw[JK,JK];refine Js λt ht=>?_
   show(cO _ (U (teD t)) (U (teD t))).getD .non=_;rw[CC (hin t ht)];rfl
  rw[eg]at ex;have er:az p=.tup [.str p.1,.tup (p.2.map teD)]:=rfl;simp only[bindO_s,IE,ID,rd_1,rd_0,mE,consO_s,er,ex,shO_s];rfl]
 rfl
theorem Cy:∀(us:List IX) (c:List Ce),gQ (us.map D.str) (c.map ceD)=(us.zip c).map cC
 |[],c=>by cases c<;>rfl
 |u::us,[]=>rfl
 |u::us,x::c=>by rw[IG,IG,gQ,Cy us c];rfl
theorem yG {us:List IX}(h:us.length<=1000) (c:List Ce):qB Y V (U (.lst (us.map D.str))) (U (cD c))=U (fL us c):=by
 have e:xI Y V (U (.lst (us.map D.str))) (U (cD c))=U ((us.zip c).map cC):=by
  show U (gQ (us.map D.str) (c.map ceD))=_;rw[Cy]
 unfold qB;rw[e];dsimp only;rw[if_pos (by simp;lia)]
 rfl
structure Fs (P:Fit->Prop) (us:List IX) (ss:List (List Ce)):Prop where
 nd:ss.Nodup
 mem:∀x,x∈ss↔∃φ:Fit,x=us.map φ/\P φ
theorem Fs.len {P:Fit->Prop}{us:List IX}{ss:List (List Ce)}(F:Fs P us ss):∀c∈ss,c.length=us.length:=λc hc=>by
 obtain⟨φ,rfl,_⟩:=(F.mem c).mp hc;simp
theorem GY {n k:Nat}(h:n<=25) (hk:k<=2):n ^ k<=625:=IR (Nat.pow_le_pow_left h k) (IR (NK (by decide) hk) (by decide))
theorem zK (r:Row):cW 8 (rowD r)=V:=by
 simp only[rowD,cW,JC,Nh,Li,LA,Ps,IW];intro c _;cases c<;>simp[ceD,cW]
theorem kI {rs:List Row}(h:rs.length<64):∃fs:List Row,(∀r,r∈fs↔r∈rs)/\fs.length<=rs.length/\f_stand_of [.lst (rs.map rowD)]=U (.lst (fs.map rowD),V):=by
 obtain⟨fs,e,_,h1,h2⟩:=ze (f:=rowD) (λ_ _=>um) rs
 exact⟨fs,h1,h2,opn rfl (rF ((Ey (λ_=>rfl) zK (λ_=>rfl) uo h).trans (by rw[e])))⟩
theorem iV {rs:List Row}(hrs:rs.length<=25) {ps:List Pat}(hps:ps.length<=2) (h4:∀p∈ps,p.2.length<=4) {wanted:List IX}(hw:wanted.length<=100) (hwp:∀l∈wanted,l∈aX ps):∃gs:List (List Ce),gs.Nodup/\(∀x,x∈gs↔∃φ:Fit,x=wanted.map φ/\∀p∈ps,eG rs φ p)/\f_joined [.lst (rs.map rowD),.lst (ps.map az),.lst (wanted.map D.str)]=U (.lst (gs.map cD),V)/\gs.length<=625:=by
 obtain⟨fs,n1,m1,ej,hl⟩:=ln (rs:=rs) (by lia) (ps:=ps) (by lia) h4 (kn:=[]) (fd:=[[]]) (by simp) Kc (by simp) (by simp) (by simp) (by simp) (λk hk=>by
  have:k<=1:=by lia
  simp only[IU,JZ,K4,Nat.one_mul];exact IR (Nat.pow_le_pow_left hrs k) (IR (NK (by decide) this) (by decide))) hw hwp
 obtain⟨gs,pg,eg⟩:=bO (ay (fs.map cD));have mg:∀x,x∈gs↔∃φ:Fit,x=wanted.map φ/\∀p∈ps,eG rs φ p:=λx=>by rw[pg.mem_iff,m1];simp
 have ng:=pg.nodup_iff.mpr n1;refine⟨gs,ng,mg,?_,?_⟩
 ·rw[ao (f:=f_joined) (δ:=[U (.lst (rs.map rowD),Y),U (.lst (ps.map az),Y),U (.lst (wanted.map D.str),Y)]) rfl rfl rfl]
  simp only[jM,rd_1,rd_0];rw[lstO_s [] (by simp),tupO_s [] (by simp)]
  simp only[consO_s];rw[lstO_s _ (by simp)]
  have ec:cD []=.tup []:=rfl
  simp_all
 ·rw[pg.length_eq]
  exact IR hl (by simpa using GY hrs hps)
end K61
namespace K61
open PySem L2 JP
variable[Md]
noncomputable abbrev dS (ps qs:List Pat):D:=.tup [.str "must",.lst (ps.map az),.lst (qs.map az)]
noncomputable abbrev cf (ps:List Pat) (a b:Te):D:=.tup [.str "same",.lst (ps.map az),teD a,teD b]
noncomputable abbrev smP (a b:Te):Pat:=("same",[a,b])
theorem ms:¬(JM "must")=(JM "same"):=by decide +kernel
section
variable(ps qs:List Pat) (a b:Te)
theorem m0:ixO (U (dS ps qs)) (U (.int 0))=U (.str "must"):=rfl
theorem m1:ixO (U (dS ps qs)) (U (.int 1))=U (.lst (ps.map az)):=rfl
theorem m2:ixO (U (dS ps qs)) (U (.int 2))=U (.lst (qs.map az)):=rfl
theorem s0:ixO (U (cf ps a b)) (U (.int 0))=U (.str "same"):=rfl
theorem s1:ixO (U (cf ps a b)) (U (.int 1))=U (.lst (ps.map az)):=rfl
theorem s2:ixO (U (cf ps a b)) (U (.int 2))=U (teD a):=rfl
theorem s3:ixO (U (cf ps a b)) (U (.int 3))=U (teD b):=rfl
theorem e8:f_two_terms [cf ps a b]=U (az (smP a b),Y):=by
 rfl
end
noncomputable def dlM (ps qs:List Pat):List IX:=(uL qs).filter λl=>decide (l∈uL ps)
theorem u7 {ps qs:List Pat}(h1:ps.length<=2) (h2:qs.length<=2) (h4:∀p∈ps,p.2.length<=4) (h5:∀p∈qs,p.2.length<=4):f_deciding_letters [dS ps qs]=U (.lst ((dlM ps qs).map D.str),V):=by
 rw[ao (f:=f_deciding_letters) (δ:=[U (dS ps qs,Y),B,B]) rfl rfl rfl];have e1:f_letters_of [.lst (ps.map az)]=U (.lst ((uL ps).map D.str),V):=aA (by lia) h4
 have e2:f_letters_of [.lst (qs.map az)]=U (.lst ((uL qs).map D.str),V):=aA (by lia) h5
 have hu:(uL qs).length<=16:=IR (mA qs) (IR (aF h5) (by lia))
 simp only[aU,rd_0,m0,m1,m2,aD,ms,decide_false,ifO_f,nextO_s,seqO_n,consO_s,bindO_s,e1,frO_s];rw[setO_s _ _ _ (by simp)]
 simp only[seqO_n,IE,ID,rd_1,rd_0,m2,consO_s,bindO_s,e2,frO_s,lstL_s];rw[bd (by simp;lia),uf (P:=λl=>decide (l∈uL ps)) λl hl=>by
  by_cases hm:l∈uL ps<;>simp[au,aG,b8,iQ,hm]]
 rfl
theorem vz (ps:List Pat) (a b:Te):f_deciding_letters [cf ps a b]=U (.lst ((uL [smP a b]).map D.str),V):=by
 rw[ao (f:=f_deciding_letters) (δ:=[U (cf ps a b,Y),B,B]) rfl rfl rfl];have e1:f_letters_of [.lst [az (smP a b)]]=U (.lst ((uL [smP a b]).map D.str),V):=aA (ps:=[smP a b]) (by simp) (λp hp=>by simp_all)
 simp only[aU,rd_0,s0,aD,decide_true,ifO_t,consO_s,bindO_s,e8,shO_s]
 simp_all
theorem E7 (c:List Ce) (hs:List (List Ce)):F8 (U (cD c)) (U (.dD (hs.map cD) (hs.map λ_=>.bl V)))=U (decide (c∈hs)):=by
 unfold F8 iI;have hk:(cW 8 (cD c)&&uD (cD c))=V:=by rw[pE,qv];rfl
 simp only[hk,if_true,oj (kf:=cD) (vf:=λ_=>.bl V) (cD c) hs,Option.isSome_map,Jk]
 rw[Ku,List.find?_isSome,decide_eq_true_iff]
 constructor
 ·rintro⟨x,hx,e⟩;rw[<-gm (of_decide_eq_true e)];exact hx
 ·exact λh=>⟨c,h,decide_eq_true rfl⟩
theorem DB {rs:List Row}(hrs:rs.length<=25) {ps qs:List Pat}(h1:ps.length<=2) (h2:qs.length<=2) (h4:∀p∈ps,p.2.length<=4) (h5:∀p∈qs,p.2.length<=4):
  ∃fd:List (List Ce),fd.Nodup/\fd.length<=625/\(∀x,x∈fd↔(∃φ:Fit,x=(dlM ps qs).map φ/\∀p∈ps,eG rs φ p)/\¬∃φ:Fit,x=(dlM ps qs).map φ/\∀p∈qs,eG rs φ p)/\f_broken_cells [.lst (rs.map rowD),dS ps qs]=U (.lst (fd.map cD),V):=by
 have hu:(uL qs).length<=16:=IR (mA qs) (IR (aF h5) (by lia))
 have hd:(dlM ps qs).length<=16:=IR (Ka ..) hu;obtain⟨gs,n1,g1,e1,l1⟩:=iV hrs h1 h4 (wanted:=dlM ps qs) (by lia) λl hl=>(cj ps l).mp (of_decide_eq_true (List.mem_filter.mp hl).2)
 obtain⟨hs,n2,g2,e2,l2⟩:=iV hrs h2 h5 (wanted:=dlM ps qs) (by lia) λl hl=>(cj qs l).mp (List.mem_filter.mp hl).1
 refine⟨gs.filter λc=>!decide (c∈hs),n1.filter _,IR (Ka ..) l1,λx=>?_,?_⟩
 ·rw[List.mem_filter,g1,<-g2]
  simp
 rw[ao (f:=f_broken_cells) (δ:=[U (.lst (rs.map rowD),Y),U (dS ps qs,Y),B,B,B,B]) rfl rfl rfl];simp only[bT,rd_1,rd_0,consO_s,bindO_s,u7 h1 h2 h4 h5,frO_s];rw[setO_s _ _ _ (by simp)]
 simp only[seqO_n,IE,ID,rd_1,rd_0,m1,consO_s,bindO_s,e1,frO_s];rw[setO_s _ _ _ (by simp)]
 simp only[seqO_n,IE,ID,rd_1,rd_0,m0,aD,ms,decide_false,ifO_f,nextO_s,m2,consO_s,bindO_s,e2,frO_s,lstL_s];have em:∀a b c d e f:Option (D×Bool),aG Y [Y,Y,Y,Y,Y,Y] [a,b,c,d,e,f]=[B,B,B,B,B,B]:=λ_ _ _ _ _ _=>by rfl
 rw[bd (by simp;lia),em,aM (f:=cD) (h:=λc=>.tup [cD c,.bl V]) λc _=>by
  rfl]
 rw[lstLim_s,oh (kf:=cD) (vf:=λ_=>.bl V) hs (λc=>by rw[pE,qv];rfl) (Nr _ (λa b hab z=>hab (gm z)) n2) (by lia),setO_s _ _ _ (by simp)]
 simp only[seqO_n,IE,ID,rd_1,rd_0,lstL_s,bindO_s];have em2:∀(a b c d f:Option (D×Bool)) (x:D),aG Y [Y,Y,Y,Y,V,Y] [a,b,c,d,U (x,Y),f]=[B,B,B,B,U (x,Y),B]:=λ_ _ _ _ _ _=>by rfl
 rw[bd (by simp;lia),em2,bw (f:=cD) (h:=cD) (p:=λc=>!decide (c∈hs)) λc _=>by
  unfold au;rw[toName_s _ _ _ (by simp)]
  simp only[bindO_s,IE,ID,rd_1,rd_0,E7,notO_s,d6];cases decide (c∈hs)<;>rfl]
 rfl
theorem Gi {a b:Te}{l:IX}(h:l∈aX [smP a b]):a=.any l\/b=.any l:=by
 rw[dI]at h;obtain⟨p,hp,hl⟩:=h;rw[List.mem_singleton.mp hp]at hl;cases a<;>cases b<;>simp[ans]at hl<;>simp[hl]
 lia
theorem DM {rs:List Row}(hrs:rs.length<=25) {ps:List Pat}(h1:ps.length<=2) (h4:∀p∈ps,p.2.length<=4) {a b:Te}(hab:∀l,l∈aX [smP a b]->l∈aX ps):
  ∃fd:List (List Ce),fd.Nodup/\fd.length<=625/\(∀x,x∈fd↔∃φ:Fit,x=(uL [smP a b]).map φ/\(∀p∈ps,eG rs φ p)/\ev φ a≠ev φ b)/\f_broken_cells [.lst (rs.map rowD),cf ps a b]=U (.lst (fd.map cD),V):=by
 have h2:∀p∈[smP a b],p.2.length<=4:=λp hp=>by simp_all
 have hd:(uL [smP a b]).length<=16:=IR (mA _) (IR (aF h2) (by simp))
 obtain⟨gs,n1,g1,e1,l1⟩:=iV hrs h1 h4 (wanted:=uL [smP a b]) (by lia) λl hl=>hab l ((cj _ l).mp hl)
 have evc:∀{φ ψ:Fit},(uL [smP a b]).map φ=(uL [smP a b]).map ψ->ev φ a=ev ψ a/\ev φ b=ev ψ b:=λ{φ ψ} e=>by
  have q:=List.map_inj_left.mp e;have:=jG (ts:=[a,b]) (φ:=φ) (ψ:=ψ) λl hl=>q l ((cj _ l).mpr (dI.mpr ⟨_,List.mem_singleton.mpr rfl,hl⟩))
  simpa using this
 obtain⟨bad,hbad⟩:∃bad:List Ce->Bool,∀φ:Fit,bad ((uL [smP a b]).map φ)=!decide (ev φ a=ev φ b):=by
  refine⟨λc=>!decide (ev (λl=>c.getD ((uL [smP a b]).idxOf l) default) a=ev (λl=>c.getD ((uL [smP a b]).idxOf l) default) b),λφ=>?_⟩
  have pp:=bL (φ:=φ) (ls:=uL [smP a b]) (known:=uL [smP a b]) λl hl=>hl
  unfold pk aY at pp;rw[JK]at pp;obtain⟨q1,q2⟩:=evc (φ:=λl=>((uL [smP a b]).map φ).getD ((uL [smP a b]).idxOf l) default) pp
  dsimp only;rw[q1,q2]
 refine⟨gs.filter bad,n1.filter _,IR (Ka ..) l1,λx=>?_,?_⟩
 ·grind
 rw[ao (f:=f_broken_cells) (δ:=[U (.lst (rs.map rowD),Y),U (cf ps a b,Y),B,B,B,B]) rfl rfl rfl];simp only[bT,rd_1,rd_0,consO_s,bindO_s,vz,frO_s];rw[setO_s _ _ _ (by simp)]
 simp only[seqO_n,IE,ID,rd_1,rd_0,s1,consO_s,bindO_s,e1,frO_s];rw[setO_s _ _ _ (by simp)]
 simp only[seqO_n,IE,ID,rd_1,rd_0,s0,aD,decide_true,ifO_t,lstL_s,bindO_s];have em:∀(a d e f:Option (D×Bool)) (x y:D),aG Y [Y,V,V,Y,Y,Y] [a,U (x,Y),U (y,Y),d,e,f]=[B,U (x,Y),U (y,Y),B,B,B]:=λ_ _ _ _ _ _=>by rfl
 rw[bd (by simp;lia),em,bw (f:=cD) (h:=cD) (p:=bad) λc hc=>by
  obtain⟨φ,rfl,_⟩:=(g1 c).mp hc;have ef:=k9 (zW [smP a b]) (by lia) φ (ps:=[smP a b]) (by simp) h2 λl hl=>(cj _ l).mpr hl
  simp only[IG,LU]at ef;have et:f_two_cells [cf ps a b,fL (uL [smP a b]) ((uL [smP a b]).map φ)]=U (.tup [ceD (ev φ a),ceD (ev φ b)],Y):=by
   rw[ao (f:=f_two_cells) (δ:=[U (cf ps a b,Y),U (fL (uL [smP a b]) ((uL [smP a b]).map φ),Y)]) rfl rfl rfl];simp only[dG,rd_1,rd_0,consO_s,bindO_s,e8,shO_s];rw[lstO_s _ (by simp)]
   simp only[consO_s,bindO_s,ef,frO_s];rfl
  have eu:f_is_unlike [.tup [ceD (ev φ a),ceD (ev φ b)]]=U (.bl (!decide (ev φ a=ev φ b)),Y):=by
   rw[ao (f:=f_is_unlike) (δ:=[U (.tup [ceD (ev φ a),ceD (ev φ b)],Y)]) rfl rfl rfl];have t0:ixO (U (.tup [ceD (ev φ a),ceD (ev φ b)])) (U (.int 0))=U (ceD (ev φ a)):=rfl;have t1:ixO (U (.tup [ceD (ev φ a),ceD (ev φ b)])) (U (.int 1))=U (ceD (ev φ b)):=rfl;simp only[gI,rd_0,t0,t1,m5];rfl
  unfold au;rw[toName_s _ _ _ (by simp)]
  simp only[bindO_s,IE,ID,rd_1,rd_0,yG (show(uL [smP a b]).length<=1000 by lia),consO_s,et,shO_s,eu,dT,hbad]
  cases decide (ev φ a=ev φ b)<;>rfl]
 rfl
end K61
namespace K61
open PySem L2 JP
variable[Md]
noncomputable abbrev Mv:=List (Int×Ce)
noncomputable def mvD (q:Int×Ce):D:=.tup [.int q.1,ceD q.2]
noncomputable def led (mv:Mv) (c:Ce):Ce:=match mv.find? (λq=>decide (c=.bk q.1))with|some q=>q.2|none=>c
noncomputable def nkM (mv:Mv):Prop:=(mv.map (·.1)).Nodup
theorem AM (c:Ce):(cW 8 (ceD c)&&uD (ceD c))=V:=by cases c<;>rfl
noncomputable def pq (mv:Mv) (r:Row):Row:=(r.1,r.2.map (led mv))
theorem CZ (mv:Mv) (c:Ce):cO (U (.dD (mv.map λq=>ceD (.bk q.1)) (mv.map λq=>ceD q.2))) (U (ceD c)) (U (ceD c))=U (ceD (led mv c)):=by
 rw[nw (kf:=λq:Int×Ce=>ceD (.bk q.1)) (vf:=λq=>ceD q.2) mv (AM c)]
 unfold led;have:(λq:Int×Ce=>decide (ceD (.bk q.1)=ceD c))=λq=>decide (c=.bk q.1):=funext λq=>decide_eq_decide.mpr ⟨λh=>(iO h).symm,λh=>by rw[h]⟩
 rw[this];cases mv.find? λq=>decide (c=.bk q.1)<;>rfl
theorem AF {rs:List Row}(h:rs.length<64) (h4:∀r∈rs,r.2.length<=4) {mv:Mv}(nd:nkM mv) (hm:mv.length<=12):∃fs:List Row,(∀r,r∈fs↔∃q∈rs,r=pq mv q)/\fs.length<=rs.length/\f_moved [.lst (rs.map rowD),.lst (mv.map mvD)]=U (.lst (fs.map rowD),V):=by
 obtain⟨fs,f1,f2,f3⟩:=kI (rs:=rs.map (pq mv)) (by simpa using h)
 refine⟨fs,λr=>by rw[f1,N5];exact⟨λ⟨q,a,b⟩=>⟨q,a,b.symm⟩,λ⟨q,a,b⟩=>⟨q,a,b.symm⟩⟩,by simp_all,?_⟩
 rw[ao (f:=f_moved) (δ:=[U (.lst (rs.map rowD),Y),U (.lst (mv.map mvD),Y),B,B,B,B]) rfl rfl rfl];simp only[su,rd_1,rd_0,lstL_s,bindO_s];have em:∀a b c d e f:Option (D×Bool),aG Y [Y,Y,Y,Y,Y,Y] [a,b,c,d,e,f]=[B,B,B,B,B,B]:=λ_ _ _ _ _ _=>by rfl
 rw[bd (by simp;lia),em,aM (f:=mvD) (h:=λq=>.tup [ceD (.bk q.1),ceD q.2]) λq _=>by
  rfl]
 rw[lstLim_s,oh (kf:=λq:Int×Ce=>ceD (.bk q.1)) (vf:=λq=>ceD q.2) mv (λq=>AM _) (by
  have:=Nr (λn:Int=>ceD (.bk n)) (S:=λa b=>a≠b) (λa b hab z=>hab (Ce.bk.inj (iO z))) nd
  rw[JK]at this;exact this) (by lia),setO_s _ _ _ (by simp)]
 simp only[seqO_n,IE,ID,rd_1,rd_0,lstL_s,bindO_s];have em2:∀(a b d e f:Option (D×Bool)) (x:D),aG Y [Y,Y,V,Y,Y,Y] [a,b,U (x,Y),d,e,f]=[B,B,U (x,Y),B,B,B]:=λ_ _ _ _ _ _=>by rfl
 rw[bd (by simp;lia),em2,aM (f:=rowD) (h:=λr=>rowD (pq mv r)) λr hr=>by
  unfold au;rw[toName_s _ _ _ (by simp)]
  have ex:=jb (t:=.str r.1) (xs:=r.2.map ceD) (ks:=mv.map λq=>ceD (.bk q.1)) (vs:=mv.map λq=>ceD q.2) (g:=λd=>((((mv.find? λq=>decide (ceD (.bk q.1)=d)).map λq=>ceD q.2).getD d))) (λx hx=>by
   grind [nw,AM]) (by rw[IC];have:=h4 r hr;lia)
  have eg:(r.2.map ceD).map (λd=>((((mv.find? λq=>decide (ceD (.bk q.1)=d)).map λq=>ceD q.2).getD d)))=(r.2.map (led mv)).map ceD:=by
   rw[JK,JK];refine Js λc _=>?_
   have:=CZ mv c;rw[nw (kf:=λq:Int×Ce=>ceD (.bk q.1)) (vf:=λq=>ceD q.2) mv (AM c)]at this
   exact J7 this
  rw[eg]at ex;have er:rowD r=.tup [.str r.1,.tup (r.2.map ceD)]:=rfl;simp only[bindO_s,IE,ID,rd_1,rd_0,oZ,consO_s,er,ex,shO_s];rfl]
 have e3:(rs.map λr=>rowD (pq mv r))=(rs.map (pq mv)).map rowD:=by rw[JK];rfl
 rw[lstLim_s,e3];simp only[consO_s,bindO_s,f3,frO_s,retF_s,outF_r]
noncomputable def frL (ps qs:List Pat):List IX:=(uL qs).filter λl=>!decide (l∈uL ps)
theorem uQ {ps qs:List Pat}(h1:ps.length<=2) (h2:qs.length<=2) (h4:∀p∈ps,p.2.length<=4) (h5:∀p∈qs,p.2.length<=4):f_fresh [dS ps qs]=U (.lst ((frL ps qs).map D.str),V):=by
 rw[ao (f:=f_fresh) (δ:=[U (dS ps qs,Y),B,B]) rfl rfl rfl];have e1:f_letters_of [.lst (ps.map az)]=U (.lst ((uL ps).map D.str),V):=aA (by lia) h4
 have e2:f_letters_of [.lst (qs.map az)]=U (.lst ((uL qs).map D.str),V):=aA (by lia) h5
 have hu:(uL qs).length<=16:=IR (mA qs) (IR (aF h5) (by lia))
 simp only[rU,rd_0,m1,consO_s,bindO_s,e1,frO_s];rw[setO_s _ _ _ (by simp)]
 simp only[seqO_n,IE,ID,rd_1,rd_0,m2,consO_s,bindO_s,e2,frO_s,lstL_s];rw[bd (by simp;lia),uf (P:=λl=>!decide (l∈uL ps)) λl hl=>by
  by_cases hm:l∈uL ps<;>simp[au,aG,rp,xu,hm]]
 rfl
noncomputable def uW:List IX->Int->Bi
 |[],_=>[]
 |l::ls,k=>(l,.bk k)::uW ls (k+1)
theorem nZ:∀(ls:List IX) (k:Int),(uW ls k).map (·.1)=ls
 |[],_=>rfl
 |l::ls,k=>by show l::(uW ls (k+1)).map (·.1)=_;rw[nZ ls]
theorem uS (u:Int) (a0:Option (D×Bool)):∀(ls:List IX) (n:Nat),aJ (au (aL (ah (af 3) (ah (af 2) (toNil)))) (λδ=>U V) bG [B,U (.int u,Y),B,B]) (fV n (ls.map D.str))=U ((uW ls (u+n)).map cC)
 |[],n=>rfl
 |l::ls,n=>by
  rw[IG];unfold fV aJ;have e:au (aL (ah (af 3) (ah (af 2) (toNil)))) (λδ=>U V) bG [B,U (.int u,Y),B,B] (.tup [.int n,.str l])=U (U (cC (l,.bk (u+n)))):=by
   unfold au;simp only[toTup_s,toCons_s,toNil_s,toName_s,KM,IU,JZ,bindO_s,IE,ID,MY,Nn,bG,rd_1,rd_0,addI_s,consO_s];rw[tupO_s _ (by simp)]
   simp only[consO_s];rw[tupO_s _ (by simp)]
   rfl
  have ih:=uS u a0 ls (n+1);rw[show u+((n+1:Nat):Int)=u+n+1 by lia]at ih
  rw[e,ih];rfl
theorem lW {ps qs:List Pat}(h1:ps.length<=2) (h2:qs.length<=2) (h4:∀p∈ps,p.2.length<=4) (h5:∀p∈qs,p.2.length<=4) (u:Int):f_fresh_moves [dS ps qs,.int u]=U (.lst ((uW (frL ps qs) u).map cC),V):=by
 have hu:(uL qs).length<=16:=IR (mA qs) (IR (aF h5) (by lia))
 have hf:(frL ps qs).length<=16:=IR (Ka ..) hu;rw[ao (f:=f_fresh_moves) (δ:=[U (dS ps qs,Y),U (.int u,Y),B,B]) rfl rfl rfl];have hl:∀(ds:List D) (n:Nat),(fV n ds).length=ds.length:=λds=>by
  induction ds with
  |nil=>intro n;rfl
  |cons d ds ih=>intro n;show(fV (n+1) ds).length+1=_;rw[ih];rfl
 have em:∀(a c d:Option (D×Bool)) (x:D),aG Y [Y,V,Y,Y] [a,U (x,Y),c,d]=[B,U (x,Y),B,B]:=λ_ _ _ _=>by rfl
 simp only[dJ,rd_1,rd_0,consO_s,bindO_s,uQ h1 h2 h4 h5,frO_s,pf];rw[bd (by rw[hl,IC,lim_eq];lia),em,uS u B,lstLim_s]
 simp
theorem jn (ps:List Pat) (a b:Te) {us:List IX}(nd:us.Nodup) (hu:us.length<=100) (φ:Fit) (hl:∀l∈aX [smP a b],l∈us):f_two_cells [cf ps a b,fL us (us.map φ)]=U (.tup [ceD (ev φ a),ceD (ev φ b)],Y):=by
 have h2:∀p∈[smP a b],p.2.length<=4:=λp hp=>by simp_all
 have ef:=k9 nd hu φ (ps:=[smP a b]) (by simp) h2 hl
 simp only[IG,LU]at ef;rw[ao (f:=f_two_cells) (δ:=[U (cf ps a b,Y),U (fL us (us.map φ),Y)]) rfl rfl rfl];simp only[dG,rd_1,rd_0,consO_s,bindO_s,e8,shO_s];rw[lstO_s _ (by simp)]
 simp only[consO_s,bindO_s,ef,frO_s];rfl
noncomputable def isNm:Ce->Bool|.nm _=>V|.bk _=>Y
theorem Dm (c:Ce):eqO (ixO (U (ceD c)) (U (.int 0))) (U (.str "name"))=U (isNm c):=by
 cases c with
 |nm w=>rfl
 |bk n=>rfl
theorem vP (ps qs:List Pat) (f:D):f_is_clash [dS ps qs,f]=U (.bl Y,Y):=by
 rfl
theorem wn (ps:List Pat) (a b:Te) {us:List IX}(nd:us.Nodup) (hu:us.length<=100) (φ:Fit) (hl:∀l∈aX [smP a b],l∈us):f_is_clash [cf ps a b,fL us (us.map φ)]=U (.bl (isNm (ev φ a)&&isNm (ev φ b)),Y):=by
 rw[ao (f:=f_is_clash) (δ:=[U (cf ps a b,Y),U (fL us (us.map φ),Y),B]) rfl rfl rfl];have e:neO (U (.str "same")) (U (.str "same"))=U Y:=EF rfl;have t0:ixO (U (.tup [ceD (ev φ a),ceD (ev φ b)])) (U (.int 0))=U (ceD (ev φ a)):=rfl;have t1:ixO (U (.tup [ceD (ev φ a),ceD (ev φ b)])) (U (.int 1))=U (ceD (ev φ b)):=rfl;simp only[iX,rd_1,rd_0,s0,e,ifO_f,nextO_s,seqO_n,consO_s,bindO_s,jn ps a b nd hu φ hl,shO_s];rw[setO_s _ _ _ (by simp)]
 simp only[seqO_n,IE,ID,rd_1,rd_0,t0,t1,Dm,ofB_s];cases isNm (ev φ a)<;>cases isNm (ev φ b)<;>rfl
theorem ou (ps:List Pat) (a b:Te) {us:List IX}(nd:us.Nodup) (hu:us.length<=100) (φ:Fit) (hl:∀l∈aX [smP a b],l∈us) (hn:(isNm (ev φ a)&&isNm (ev φ b))=Y):∃(n:Int) (c:Ce),(Ce.bk n=ev φ a/\c=ev φ b\/Ce.bk n=ev φ b/\c=ev φ a)/\f_same_moves [cf ps a b,fL us (us.map φ)]=U (.lst [mvD (n,c)],V):=by
 have hc:∀x y:Ce,eE [ceD x,ceD y]=V:=λx y=>by
  have o:∀c:Ce,okD 15 (ceD c)=V:=λc=>by cases c<;>rfl
  simp[eE,o,xO 14]
 have hk:∀c:Ce,iR .ts (ceD c)=V:=λc=>by cases c<;>rfl
 have hs:∀x y:Ce,kB .ts (U (.tup [ceD x,ceD y]))=U (.lst (cG [ceD x,ceD y])):=λx y=>by
  unfold kB
  simp_all
 have key:∃(x y:Ce) (n:Int),(y=.bk n\/(∃w,y=.nm w)/\x=.bk n)/\cG [ceD (ev φ a),ceD (ev φ b)]=[ceD x,ceD y]/\(isNm y=Y->y=.bk n)/\(x=ev φ a/\y=ev φ b\/x=ev φ b/\y=ev φ a):=by
  have two:∀x y:Ce,cG [ceD x,ceD y]=[ceD x,ceD y]\/cG [ceD x,ceD y]=[ceD y,ceD x]:=λx y=>by
   show yH (ceD x) [ceD y]=_\/yH (ceD x) [ceD y]=_;unfold yH yH
   lia
  cases ha:ev φ a with
  |nm w=>
   cases hb:ev φ b with
   |nm v=>rw[ha,hb]at hn;cases hn
   |bk n=>
    refine⟨.bk n,.nm w,n,.inr ⟨⟨w,rfl⟩,rfl⟩,?_,(λz=>nomatch z),.inr ⟨rfl,rfl⟩⟩
    rfl
  |bk n=>
   cases hb:ev φ b with
   |nm w=>
    refine⟨.bk n,.nm w,n,.inr ⟨⟨w,rfl⟩,rfl⟩,?_,(λz=>nomatch z),.inl ⟨rfl,rfl⟩⟩
    rfl
   |bk k=>
    rcases two (.bk n) (.bk k)with e|e
    ·exact⟨.bk n,.bk k,k,.inl rfl,e,λ_=>rfl,.inl ⟨rfl,rfl⟩⟩
    ·exact⟨.bk k,.bk n,n,.inl rfl,e,λ_=>rfl,.inr ⟨rfl,rfl⟩⟩
 obtain⟨x,y,n,hxy,es,hy,hab⟩:=key;have t0:ixO (U (.lst [ceD x,ceD y])) (U (.int 0))=U (ceD x):=rfl;have t1:ixO (U (.lst [ceD x,ceD y])) (U (.int 1))=U (ceD y):=rfl;have b1:∀k:Int,ixO (U (ceD (.bk k))) (U (.int 1))=U (.int k):=λ_=>rfl
 rw[ao (f:=f_same_moves) (δ:=[U (cf ps a b,Y),U (fL us (us.map φ),Y),B]) rfl rfl rfl];simp only[fN,rd_1,rd_0,consO_s,bindO_s,jn ps a b nd hu φ hl,shO_s,hs,es];rw[setO_s _ _ _ (by simp)]
 simp only[seqO_n,IE,ID,rd_1,rd_0,t0,t1,Dm];cases hny:isNm y with
 |true=>
  rcases hxy with rfl|⟨_,rfl⟩
  ·cases hny
  ·refine⟨n,y,hab,?_⟩
   rfl
 |false=>
  have:=hy hny;subst this;refine⟨n,x,hab.symm.imp And.symm And.symm,?_⟩
  rfl
noncomputable def bls:List Ce->List Int
 |[]=>[]
 |.bk n::cs=>n::bls cs
 |.nm _::cs=>bls cs
theorem sP:∀cs:List Ce,(bls cs).length<=cs.length
 |[]=>IM _
 |.bk n::cs=>Nat.succ_le_succ (sP cs)
 |.nm _::cs=>LM (sP cs)
theorem DC (c:Ce):eqO (ixO (U (ceD c)) (U (.int 0))) (U (.str "blank"))=U (!isNm c):=by
 cases c with
 |nm w=>rfl
 |bk n=>rfl
theorem kT:∀ns:List Int,v8 (ns.map D.int)=U ns
 |[]=>rfl
 |n::ns=>by simp only[IG,v8,kT ns,ae]
noncomputable def zA (c:List Ce):Int:=if bls c=[] then -1 else wE (bls c)
theorem vo:∀cs:List Ce,aJ (au (af 1) (λδ=>eqO (ixO (rd Y 1 δ) (U (.int 0))) (U (.str "blank"))) sA [B,B]) (cs.map ceD)=U ((bls cs).map D.int)
 |[]=>rfl
 |c::cs=>by
  rw[IG];unfold aJ;rw[vo cs];have e:au (af 1) (λδ=>eqO (ixO (rd Y 1 δ) (U (.int 0))) (U (.str "blank"))) sA [B,B] (ceD c)=U (match c with|.bk n=>U (.int n)|.nm _=>B):=by
   unfold au;rw[toName_s _ _ _ (by simp)]
   simp only[bindO_s,IE,ID,rd_1,rd_0,DC];cases c with
   |nm w=>rfl
   |bk n=>rfl
  cases c<;>rfl
theorem GK {c:List Ce}(hc:c.length<=1000):f_age [cD c]=U (.int (zA c),Y):=by
 rw[ao (f:=f_age) (δ:=[U (cD c,Y),B]) rfl rfl rfl];have et:rB (U (cD c))=U (c.map ceD):=rfl;have em:∀a b:Option (D×Bool),aG Y [Y,Y] [a,b]=[B,B]:=λ_ _=>by rfl
 simp only[CF,rd_1,rd_0,et,bindO_s];rw[bd (by simp;lia),em,vo,lstLim_s]
 unfold qm zF;simp only[kT];rfl
theorem AZ (ps:List Pat) (a b:Te):f_urgency_of [cf ps a b]=U (.int 0,Y):=by
 rfl
theorem zM {ps qs:List Pat}(h1:ps.length<=2) (h2:qs.length<=2) (h4:∀p∈ps,p.2.length<=4) (h5:∀p∈qs,p.2.length<=4):∃u:Int,(u=1\/u=2)/\f_urgency_of [dS ps qs]=U (.int u,Y):=by
 refine⟨if frL ps qs=[] then 1 else 2,by lia,?_⟩
 rw[ao (f:=f_urgency_of) (δ:=[U (dS ps qs,Y)]) rfl rfl rfl];simp only[eZ,rd_0,m0,aD,ms,decide_false,ifO_f,nextO_s,seqO_n,consO_s,bindO_s,uQ h1 h2 h4 h5,frO_s];cases frL ps qs<;>rfl
end K61
namespace K61
open PySem L2 JP
variable[Md]
theorem sF (c:Ce):D.flat (ceD c)=V:=by cases c<;>rfl
theorem Bj (gs:List (List Ce)):D.flats (gs.map cD)=V:=by
 rw[D.flats_all,IW];intro d hd;obtain⟨c,_,rfl⟩:=List.mem_map.mp hd;show D.flats (c.map ceD)=V
 grind [D.flats_all,IW,sF]
theorem uk (us:List IX) (φ:Fit):∃vs:List IX,vs.Perm us/\eB .ts (U (fL us (us.map φ)))=U (fL vs (vs.map φ)):=by
 have ez:us.zip (us.map φ)=us.map λl=>(l,φ l):=gM _
 obtain⟨gs,pg,eg⟩:=bO (f:=cC) (ay ((us.map λl=>(l,φ l)).map cC))
 have hg:∀q∈gs,q=(q.1,φ q.1):=λq hq=>by
  obtain⟨l,_,rfl⟩:=List.mem_map.mp (pg.mem_iff.mp hq);rfl
 have e2:gs=(gs.map (·.1)).map λl=>(l,φ l):=by
  rw[JK];exact((Js λq hq=>(hg q hq).symm).trans (MO gs)).symm
 refine⟨gs.map (·.1),?_,?_⟩
 ·have:=pg.map (·.1)
  rw[JK]at this;exact this.trans (by rw[show((·.1) ∘ λl=>(l,φ l):IX->IX)=id from rfl,MO])
 ·have ef:fL us (us.map φ)=.lst ((us.map λl=>(l,φ l)).map cC):=by unfold fL;rw[ez]
  rw[ef,fQ (E2 _) (.inr (List.all_eq_true.mpr λx hx=>by obtain⟨q,_,rfl⟩:=List.mem_map.mp hx;rfl)),eg]
  unfold fL;rw[gM,<-e2]
section
variable{rs:List Row}(hrs:rs.length<=25) {ps:List Pat}(h1:ps.length<=2) (h4:∀p∈ps,p.2.length<=4)
include hrs h1 h4
theorem sV:∀(ls kn:List IX) (ψ:Fit) (x4:Option (D×Bool)),(∀l∈ls,l∈aX ps)->kn.Nodup->(∀l∈kn,l∈aX ps)->(∀p∈ps,eG rs ψ p)->∃(kn':List IX) (χ:Fit) (y4:Option (D×Bool)),kn'.Nodup/\(∀l∈kn',l∈aX ps)/\(∀l∈kn,l∈kn'/\χ l=ψ l)/\(∀l∈ls,l∈kn')/\(∀p∈ps,eG rs χ p)/\
  am (λd δ=>ae ((af 4) d δ) cN) (ls.map D.str) [U (.lst (rs.map rowD),Y),U (.lst (ps.map az),Y),U (.lst (kn.map D.str),V),U (cD (kn.map ψ),Y),x4]=
   U (.next [U (.lst (rs.map rowD),Y),U (.lst (ps.map az),Y),U (.lst (kn'.map D.str),V),U (cD (kn'.map χ),Y),y4])
 |[],kn,ψ,x4,_,n1,k1,f1=>⟨kn,ψ,x4,n1,k1,λl h=>⟨h,rfl⟩,(λl h=>nomatch h),f1,by rfl⟩
 |l::ls,kn,ψ,x4,hl,n1,k1,f1=>by
  have hlets:(aX ps).length<=8:=IR (aF h4) (by lia)
  have hkl:kn.length<=8:=IR (Kq n1 k1) hlets;have r2:∀x3 x4:Option (D×Bool),rd V 2 [U (.lst (rs.map rowD),Y),U (.lst (ps.map az),Y),U (.lst (kn.map D.str),V),x3,x4]=U (.lst (kn.map D.str)):=λ_ _=>rfl
  by_cases hm:l∈kn
  ·obtain⟨kn',χ,y4,a1,a2,a3,a4,a5,e⟩:=sV ls kn ψ (U (.str l,Y)) (λx hx=>hl x (.tail _ hx)) n1 k1 f1
   refine⟨kn',χ,y4,a1,a2,a3,λx hx=>?_,a5,?_⟩
   ·grind
   ·rw[IG]
    unfold am;rw[toName_s _ _ _ (by simp)]
    simp only[bindO_s,IE,ID,cN,rd_1,rd_0,r2,xu,hm,decide_true,KG,ifO_f,nextO_s];exact e
  ·have hwp:∀x∈kn++[l],x∈aX ps:=λx hx=>by
    grind
   have nd':(kn++[l]).Nodup:=by
    rw[Lf];exact⟨n1,by simp,λa ha b hb e=>hm (by simp_all)⟩
   obtain⟨fs,_,m1,ej,_⟩:=ln hrs (ps:=ps) (by lia) h4 (kn:=kn) (fd:=[kn.map ψ]) (by lia) n1 (by simp) (by simp) k1 (by simp) (λk hk=>by
    simp only[IU,JZ,K4,Nat.one_mul];exact IR (GY hrs (by lia)) (by decide)) (wanted:=kn++[l]) (by rw[Jy,LD];lia) hwp
   obtain⟨gs,pg,eg⟩:=bO (ay (fs.map cD));have hmem:(kn++[l]).map ψ∈gs:=pg.mem_iff.mpr ((m1 _).mpr ⟨ψ,rfl,by simp,f1⟩)
   obtain⟨g0,gr,hgs⟩:=List.exists_cons_of_ne_nil (show gs≠[] from λz=>by simp_all)
   obtain⟨χ,hg0,hk,hf⟩:=(m1 g0).mp (pg.mem_iff.mp (by rw[hgs];exact .head _))
   have agree:∀x∈kn,χ x=ψ x:=λx hx=>List.map_inj_left.mp (List.mem_singleton.mp hk) x hx
   obtain⟨kn',ω,y4,a1,a2,a3,a4,a5,e⟩:=sV ls (kn++[l]) χ (U (.str l,Y)) (λx hx=>hl x (.tail _ hx)) nd' hwp hf
   refine⟨kn',ω,y4,a1,a2,λx hx=>⟨(a3 x (JU _ hx)).1,(a3 x (JU _ hx)).2.trans (agree x hx)⟩,λx hx=>?_,a5,?_⟩
   ·grind
   ·have ec:Aw (U (.lst (kn.map D.str))) (U (.lst [.str l]))=U (.lst ((kn++[l]).map D.str)):=by
     simp only[Aw,b2,ae];rw[if_pos]
     ·simp
     ·rw[mW,decide_eq_true (by rw[IC,LD,lim_eq];lia)];rfl
    have l1:cX (U [.str l])=U (.lst [.str l]):=lstO_s _ (by simp)
    have l2:cX (U [cD (kn.map ψ)])=U (.lst [cD (kn.map ψ)]):=lstO_s _ (by simp)
    have ej':flO (f_joined_from [.lst (rs.map rowD),.lst (ps.map az),.lst ((kn++[l]).map D.str),.lst (kn.map D.str),.lst [cD (kn.map ψ)]])=U (.lst (gs.map cD)):=by
     have:f_joined_from [.lst (rs.map rowD),.lst (ps.map az),.lst ((kn++[l]).map D.str),.lst (kn.map D.str),.lst [cD (kn.map ψ)]]=U (.lst (gs.map cD),V):=by rw[<-eg];exact ej
     rw[this];unfold flO;dsimp only;rw[if_pos (Bj gs)]
    have i0:ixO (U (.lst (gs.map cD))) (U (.int 0))=U (cD ((kn++[l]).map χ)):=by
     rw[hgs,hg0,IG,ixO_l,Hc]
    have q0:∀(a:D) (x1 x2 x3 x4:Option (D×Bool)),rd V 0 [U (a,Y),x1,x2,x3,x4]=U a:=λ_ _ _ _ _=>rfl
    have q1:∀(a:D) (x0 x2 x3 x4:Option (D×Bool)),rd V 1 [x0,U (a,Y),x2,x3,x4]=U a:=λ_ _ _ _ _=>rfl
    rw[IG];unfold am;rw[toName_s _ _ _ (by simp)]
    simp only[bindO_s,IE,ID,cN,rd_1,rd_0,r2,xu,hm,decide_false,Ll,ifO_t,consO_s,l1,l2,ec,q0,q1,ej',i0];rw[setO_s _ _ _ (by simp)]
    simp only[seqO_n,IE,ID,rd_1,rd_0];rw[eR (ds:=kn.map D.str) _ (by rfl) (by simp;lia)]
    simp_all
theorem tI {kn:List IX}(n1:kn.Nodup) (k1:∀l∈kn,l∈aX ps) {φ:Fit}(f1:∀p∈ps,eG rs φ p):∃(vs:List IX) (ψ:Fit),(∀l∈kn,ψ l=φ l)/\(∀p∈ps,eG rs ψ p)/\vs.Nodup/\(∀l,l∈vs↔l∈aX ps)/\f_fit_with [.lst (rs.map rowD),.lst (ps.map az),.lst (kn.map D.str),cD (kn.map φ)]=U (fL vs (vs.map ψ),V):=by
 have el:f_letters_of [.lst (ps.map az)]=U (.lst ((uL ps).map D.str),V):=aA (by lia) h4
 obtain⟨kn',χ,y4,a1,a2,a3,a4,a5,e⟩:=sV hrs h1 h4 (uL ps) kn φ B (λl hl=>(cj ps l).mp hl) n1 k1 f1
 obtain⟨vs,pv,es⟩:=uk kn' χ;have hlets:(aX ps).length<=8:=IR (aF h4) (by lia)
 have hkl:kn'.length<=8:=IR (Kq a1 a2) hlets;refine⟨vs,χ,λl hl=>(a3 l hl).2,a5,pv.nodup_iff.mpr a1,λl=>⟨λh=>a2 l (pv.mem_iff.mp h),λh=>pv.mem_iff.mpr (a4 l ((cj ps l).mpr h))⟩,?_⟩
 rw[ao (f:=f_fit_with) (δ:=[U (.lst (rs.map rowD),Y),U (.lst (ps.map az),Y),U (.lst (kn.map D.str),Y),U (cD (kn.map φ),Y),B]) rfl rfl rfl];simp only[iJ,rd_1,rd_0,listO_l];rw[setF_s _ _ _ (by simp)]
 simp only[seqO_n,IE,ID,rd_1,rd_0,consO_s,bindO_s,el,frO_s,lstL_s,e,frzE_1,frzE_0,jk,yG (show kn'.length<=1000 by lia),es,retF_s,outF_r]
end
end K61
namespace K61
open PySem L2 JP
variable[Md]
theorem kZ {bt:Nat->Nat->Bool}(irr:∀i,bt i i=Y) (tr:∀i j k,bt i j=V->bt j k=V->bt i k=V):∀k i,i<=k->bt i (argBest bt k)=Y
 |0,i,h=>by rw[Nat.le_zero.mp h];exact irr 0
 |k+1,i,h=>by
  unfold argBest;have ih:=kZ irr tr k
  grind
noncomputable def trD (x:Nat×List Ce):D:=.tup [.int (zA x.2),.int (x.1:Int),cD x.2]
theorem HN (x y:Nat×List Ce):(ltD 15 (trD x) (trD y)).isSome=V:=by
 show(dN (ltD 14) [.int (zA x.2),.int (x.1:Int),cD x.2] [.int (zA y.2),.int (y.1:Int),cD y.2]).isSome=V;unfold dN;split
 ·unfold dN
  split
  ·unfold dN
   split
   ·rfl
   ·show(dN (ltD 13) (x.2.map ceD) (y.2.map ceD)).isSome=V
    refine hO λa ha b hb=>?_
    obtain⟨c,_,rfl⟩:=List.mem_map.mp ha;obtain⟨e,_,rfl⟩:=List.mem_map.mp hb;exact xO 12 c e
  ·rfl
 ·rfl
theorem H2 (x:Nat×List Ce):okD 15 (trD x)=V:=by
 simp only[trD,okD,JC,Nh,Li,LA];have:=HV x.2;refine List.all_eq_true.mpr λd hd=>?_
 obtain⟨c,_,rfl⟩:=List.mem_map.mp hd;cases c<;>rfl
theorem FR (xs:List (Nat×List Ce)):eE (xs.map trD)=V:=by
 unfold eE
 simp_all [IW,II,H2,HN]
theorem Fz {xs:List (Nat×List Ce)}(h:xs≠[]):∃x∈xs,(∀y∈xs,zA x.2<=zA y.2)/\Gg (U (.lst (xs.map trD)))=U (trD x):=by
 have hl:=List.length_pos_iff.mpr h;have hle:=mK (btD (xs.map trD)) ((xs.map trD).length - 1);have hi:wu (xs.map trD)<xs.length:=by
  unfold wu;rw[IC]at hle⊢;lia
 have hmin:=kZ (bt:=btD (xs.map trD)) (λi=>by
  exact decide_eq_false λz=>pH _ _ _ z z) (λi j k a b=>by
  exact decide_eq_true (Cb _ _ _ _ (of_decide_eq_true a) (of_decide_eq_true b))) ((xs.map trD).length - 1)
 have get:∀i,(hi:i<xs.length)->(xs.map trD).getD i .non=trD xs[i]:=λi hi=>by simp_all
 refine⟨xs[wu (xs.map trD)],Kh hi,λy hy=>?_,?_⟩
 ·obtain⟨i,hi',rfl⟩:=List.mem_iff_getElem.mp hy
  have:=of_decide_eq_false (show decide (ltD 15 ((xs.map trD).getD i .non) ((xs.map trD).getD (wu (xs.map trD)) .non)=U V)=Y from hmin i (by simp;lia))
  rw[get i hi',get _ hi]at this;refine Int.not_lt.mp λz=>this ?_
  show dN (ltD 14) [.int (zA xs[i].2),_,_] [.int (zA (xs[wu (xs.map trD)]).2),_,_]=U V;unfold dN;rw[if_neg λe=>by lia]
  exact congrArg U (decide_eq_true z)
 ·unfold Gg
  simp[FR,IC,hi];lia
structure RI (rs:List Row) where
 R:D
 ps:List Pat
 dl:List IX
 u:Int
 fd:List (List Ce)
 hu:f_urgency_of [R]=U (.int u,Y)
 hb:f_broken_cells [.lst (rs.map rowD),R]=U (.lst (fd.map cD),V)
 hp:ixO (U R) (U (.int 1))=U (.lst (ps.map az))
 hd:f_deciding_letters [R]=U (.lst (dl.map D.str),V)
 ft:∀c∈fd,∃φ:Fit,c=dl.map φ/\∀p∈ps,eG rs φ p
 nd:dl.Nodup
 ll:∀l∈dl,l∈aX ps
 pl:ps.length<=2
 p4:∀p∈ps,p.2.length<=4
 fl:fd.length<=625
 ur:u=0\/u=1\/u=2
variable{rs:List Row}
theorem RI.dlen (r:RI rs):r.dl.length<=8:=IR (Kq r.nd r.ll) (IR (aF r.p4) (by have:=r.pl;lia))
theorem RI.clen (r:RI rs) {c:List Ce}(h:c∈r.fd):c.length<=8:=by
 obtain⟨φ,rfl,_⟩:=r.ft c h;rw[IC];exact r.dlen
noncomputable def fnd (u:Int):Nat->List (RI rs)->List (Nat×List Ce)
 |_,[]=>[]
 |k,r::L=>(if r.u=u then r.fd.map λc=>(k,c) else[])++fnd u (k+1) L
set_option tactic.hygienic true in
theorem zl {u:Int}{x:Nat×List Ce}:∀{L:List (RI rs)}{k:Nat},x∈fnd u k L->k<=x.1/\∃r,L[x.1 - k]?=U r/\r.u=u/\x.2∈r.fd
 |[],k,h=>nomatch h
 |r::L,k,h=>by
  rcases List.mem_append.mp h with h|h
  ·split at h
   ·rename_i hu
    obtain⟨c,hc,rfl⟩:=List.mem_map.mp h;exact⟨IM _,r,by simp,hu,hc⟩
   ·cases h
  ·obtain⟨h1,r',h2,h3⟩:=zl h
   refine⟨by lia,r',?_,h3⟩
   rw[show x.1 - k=(x.1 - (k+1))+1 by lia]
   simpa using h2
theorem oC {u:Int}:∀{L:List (RI rs)}{k:Nat},fnd u k L=[]->∀r∈L,r.u=u->r.fd=[]
 |r::L,k,h,q,hq,hu=>by
  obtain⟨h1,h2⟩:=List.append_eq_nil_iff.mp h
  rcases List.mem_cons.mp hq with rfl|hq
  ·simp_all
  ·exact oC h2 q hq hu
theorem vA (S:D) (u:Int) (a0 a1 x6 x7:Option (D×Bool)) (h0:a0=U (.lst (rs.map rowD),Y)):∀(L:List (RI rs)) (k:Nat) (acc:List (Nat×List Ce)) (x4 x5:Option (D×Bool)),acc.length+625*L.length<=100000->∃y4 y5,
  am (λd δ=>ae ((aL (ah (af 4) (ah (af 5) (toNil)))) d δ) cr) (fV k (L.map (·.R))) [a0,a1,U (.int u,Y),U (.lst (acc.map trD),V),x4,x5,x6,x7]=U (.next [a0,a1,U (.int u,Y),U (.lst ((acc++fnd u k L).map trD),V),y4,y5,x6,x7])
 |[],k,acc,x4,x5,_=>⟨x4,x5,by simp[am,fV,fnd]⟩
 |r::L,k,acc,x4,x5,hl=>by
  rw[IU]at hl;have hfl:=r.fl;obtain⟨y4,y5,e⟩:=vA S u a0 a1 x6 x7 h0 L (k+1) (acc++if r.u=u then r.fd.map (λc=>(k,c)) else[]) (U (.int k,Y)) (U (r.R,Y)) (by
   rw[Jy];split<;>simp<;>lia)
  refine⟨y4,y5,?_⟩
  rw[J0]at e;rw[IG];unfold fV am;subst h0;simp only[toTup_s,toCons_s,toNil_s,toName_s,KM,IU,JZ,bindO_s,IE,ID,MY,Nn,cr,rd_1,rd_0,consO_s,r.hu,shO_s,eqO_int]
  by_cases hu:r.u=u
  ·have em:∀(a b c d f g h:Option (D×Bool)) (x:D),aG Y [Y,Y,Y,Y,V,Y,Y,Y] [a,b,c,d,U (x,Y),f,g,h]=[B,B,B,B,U (x,Y),B,B,B]:=λ_ _ _ _ _ _ _ _=>rfl
   simp only[hu,decide_true,ifO_t,r.hb,frO_s,lstL_s,bindO_s];rw[bd (by simp;lia),em,aM (f:=cD) (h:=λc=>trD (k,c)) λc hc=>by
    unfold au;rw[toName_s _ _ _ (by simp)]
    simp only[bindO_s,IE,ID,rd_1,rd_0,fH,consO_s,GK (show c.length<=1000 by have:=r.clen hc;lia),shO_s]
    rfl]
   rw[lstLim_s,Cd (ds:=acc.map trD) rfl (by simp;lia)]
   simp only[hu,if_true]at e;rw[show acc.map trD++r.fd.map (λc=>trD (k,c))=(acc++r.fd.map λc=>(k,c)).map trD by simp]
   unfold fnd;rw[if_pos hu];exact e
  ·simp only[hu,decide_false,ifO_f,nextO_s]
   simp only[hu,if_false,Kb]at e;unfold fnd;rw[if_neg hu];exact e
end K61
namespace K61
open PySem L2 JP
variable[Md]
variable{rs:List Row}
structure Ch (L:List (RI rs)) (k:Nat) (r:RI rs) (c:List Ce) (vs:List IX) (ψ:Fit):Prop where
 at':L[k]?=U r
 mem:c∈r.fd
 low:∀c'∈r.fd,zA c<=zA c'
 eq:r.dl.map ψ=c
 fit:∀p∈r.ps,eG rs ψ p
 nd:vs.Nodup
 vl:∀l,l∈vs↔l∈aX r.ps
theorem vh {u:Int}{c:List Ce}:∀{L:List (RI rs)}{k i:Nat}{r:RI rs},L[i]?=U r->r.u=u->c∈r.fd->(k+i,c)∈fnd u k L
 |q::L,k,0,r,h,hu,hc=>by
  obtain rfl:q=r:=by simpa using h
  unfold fnd;rw[if_pos hu];exact JU _ (List.mem_map.mpr ⟨c,hc,rfl⟩)
 |q::L,k,i+1,r,h,hu,hc=>by
  unfold fnd;have:=vh (L:=L) (k:=k+1) (i:=i) (by simpa using h) hu hc
  rw[show k+(i+1)=k+1+i by lia]
  exact Kn _ this
theorem iM (hrs:rs.length<=25) (L:List (RI rs)) (hL:L.length<=100) (u:Int) (x3 x4 x5 x6 x7:Option (D×Bool)):
  (fnd u 0 L=[]->∃y3 y4 y5,aN [U (.lst (rs.map rowD),Y),U (.lst (L.map (·.R)),Y),U (.int u,Y),x3,x4,x5,x6,x7]=U (.next [U (.lst (rs.map rowD),Y),U (.lst (L.map (·.R)),Y),U (.int u,Y),y3,y4,y5,x6,x7]))/\
  (fnd u 0 L≠[]->∃k r c vs ψ,Ch L k r c vs ψ/\aN [U (.lst (rs.map rowD),Y),U (.lst (L.map (·.R)),Y),U (.int u,Y),x3,x4,x5,x6,x7]=U (.ret (.tup [.int (k:Int),fL vs (vs.map ψ)]) Y)):=by
 obtain⟨y4,y5,e⟩:=vA (rs:=rs) .non u (U (.lst (rs.map rowD),Y)) (U (.lst (L.map (·.R)),Y)) x6 x7 rfl L 0 [] x4 x5 (by simp;lia)
 simp only[Lz,LU]at e;have l0:cX (U [])=U (.lst []):=lstO_s _ (by simp)
 have tr:∀ds:List D,zw (U (.lst ds))=U (!decide (ds=[])):=λds=>by cases ds<;>rfl
 constructor
 ·intro h
  refine⟨U (.lst [],V),y4,y5,?_⟩
  simp only[aN,l0];rw[setF_s _ _ _ (by simp)]
  simp only[seqO_n,IE,ID,rd_1,rd_0,pf,bindO_s,e,h,LU,rd_0o,tr,decide_true,KG,ifO_f,nextO_s]
 ·intro h
  obtain⟨x,hx,hlow,emin⟩:=Fz h;obtain⟨_,r,hr,hu,hc⟩:=zl hx;rw[Nat.sub_zero]at hr;obtain⟨φ,hφ,hf⟩:=r.ft _ hc;obtain⟨vs,ψ,b1,b2,b3,b4,ew⟩:=tI hrs r.pl r.p4 r.nd r.ll hf;refine⟨x.1,r,x.2,vs,ψ,⟨hr,hc,λc' hc'=>?_,?_,b2,b3,b4⟩,?_⟩
  ·exact hlow (0+x.1,c') (vh hr hu hc')
  ·simp_all
  ·have ne:(fnd u 0 L).map trD≠[]:=λz=>h (List.map_eq_nil_iff.mp z)
   have t1:ixO (U (trD x)) (U (.int 1))=U (.int (x.1:Int)):=rfl;have t2:ixO (U (trD x)) (U (.int 2))=U (cD x.2):=rfl;have tR:ixO (U (.lst (L.map (·.R)))) (U (.int (x.1:Int)))=U r.R:=by
    rw[ixO_l];exact pM (by lia) (by rw[Kd,Ja,hr];rfl)
   rw[<-hφ]at ew;simp only[aN,l0];rw[setF_s _ _ _ (by simp)]
   simp only[seqO_n,IE,ID,rd_1,rd_0,pf,bindO_s,e,rd_0o,tr,ne,decide_false,Ll,ifO_t,frzE_1,frzE_0,eU,emin];rw[setO_s _ _ _ (by simp)]
   simp only[seqO_n,IE,ID,rd_1,rd_0,t1,tR];rw[setO_s _ _ _ (by simp)]
   have fr:∀us:List IX,∀c,frO (U (fL us c,V))=U (fL us c):=λ_ _=>rfl
   simp only[seqO_n,IE,ID,rd_1,rd_0,t1,t2,r.hp,consO_s,bindO_s,r.hd,frO_s,ew,fr];rfl
theorem He (hrs:rs.length<=25) (L:List (RI rs)) (hL:L.length<=100):
  ((∀r∈L,r.fd=[])/\f_next_broken [.lst (rs.map rowD),.lst (L.map (·.R))]=U (.non,Y))\/∃k r c vs ψ,Ch L k r c vs ψ/\f_next_broken [.lst (rs.map rowD),.lst (L.map (·.R))]=U (.tup [.int (k:Int),fL vs (vs.map ψ)],Y):=by
 have e3:rD (U (.int 3))=U [.int 0,.int 1,.int 2]:=by rw[mQ 3 (by lia)];rfl
 have go:f_next_broken [.lst (rs.map rowD),.lst (L.map (·.R))]=jC (ak (am (λd δ=>ae ((af 2) d δ) aN) [.int 0,.int 1,.int 2] [U (.lst (rs.map rowD),Y),U (.lst (L.map (·.R)),Y),B,B,B,B,B,B]) (λδ=>aW (U .non))):=by
  rw[ao (f:=f_next_broken) (δ:=[U (.lst (rs.map rowD),Y),U (.lst (L.map (·.R)),Y),B,B,B,B,B,B]) rfl rfl rfl]
  simp only[dH,e3,bindO_s]
 have tn:∀(u:Int) (x2 x3 x4 x5 x6 x7:Option (D×Bool)),af 2 (.int u) [U (.lst (rs.map rowD),Y),U (.lst (L.map (·.R)),Y),x2,x3,x4,x5,x6,x7]=U [U (.lst (rs.map rowD),Y),U (.lst (L.map (·.R)),Y),U (.int u,Y),x3,x4,x5,x6,x7]:=λu x2 x3 x4 x5 x6 x7=>by
  rfl
 rw[go];unfold am;rw[tn,bindO_s]
 by_cases h0:fnd 0 0 L=[]
 ·obtain⟨a3,a4,a5,e0⟩:=(iM hrs L hL 0 B B B B B).1 h0
  rw[e0];dsimp only;unfold am;rw[tn,bindO_s]
  by_cases h1:fnd 1 0 L=[]
  ·obtain⟨b3,b4,b5,e1⟩:=(iM hrs L hL 1 a3 a4 a5 B B).1 h1
   rw[e1];dsimp only;unfold am;rw[tn,bindO_s]
   by_cases h2:fnd 2 0 L=[]
   ·obtain⟨c3,c4,c5,e2⟩:=(iM hrs L hL 2 b3 b4 b5 B B).1 h2
    rw[e2];refine .inl ⟨λr hr=>?_,by rfl⟩
    rcases r.ur with h|h|h
    ·exact oC h0 r hr h
    ·exact oC h1 r hr h
    ·exact oC h2 r hr h
   ·obtain⟨k,r,c,vs,ψ,C,e2⟩:=(iM hrs L hL 2 b3 b4 b5 B B).2 h2
    rw[e2];exact .inr ⟨k,r,c,vs,ψ,C,rfl⟩
  ·obtain⟨k,r,c,vs,ψ,C,e1⟩:=(iM hrs L hL 1 a3 a4 a5 B B).2 h1
   rw[e1];exact .inr ⟨k,r,c,vs,ψ,C,rfl⟩
 ·obtain⟨k,r,c,vs,ψ,C,e0⟩:=(iM hrs L hL 0 B B B B B).2 h0
  rw[e0];exact .inr ⟨k,r,c,vs,ψ,C,rfl⟩
end K61
namespace K61
open PySem L2 JP
variable[Md]
variable{rs:List Row}
theorem C5 (hrs:rs.length<=25) {ps qs:List Pat}(h1:ps.length<=2) (h2:qs.length<=2) (h4:∀p∈ps,p.2.length<=4) (h5:∀p∈qs,p.2.length<=4):∃r:RI rs,r.R=dS ps qs/\r.ps=ps/\r.dl=dlM ps qs/\
  ∀x,x∈r.fd↔(∃φ:Fit,x=(dlM ps qs).map φ/\∀p∈ps,eG rs φ p)/\¬∃φ:Fit,x=(dlM ps qs).map φ/\∀p∈qs,eG rs φ p:=by
 obtain⟨fd,f1,f2,f3,f4⟩:=DB hrs h1 h2 h4 h5;obtain⟨u,hu,eu⟩:=zM h1 h2 h4 h5;exact⟨⟨dS ps qs,ps,dlM ps qs,u,fd,eu,f4,m1 ps qs,u7 h1 h2 h4 h5,λc hc=>((f3 c).mp hc).1,(zW qs).filter _,λl hl=>(cj ps l).mp (of_decide_eq_true (List.mem_filter.mp hl).2),h1,h4,f2,.inr hu⟩,rfl,rfl,rfl,f3⟩
theorem DN (hrs:rs.length<=25) {ps:List Pat}(h1:ps.length<=2) (h4:∀p∈ps,p.2.length<=4) {a b:Te}(hab:∀l,l∈aX [smP a b]->l∈aX ps):∃r:RI rs,r.R=cf ps a b/\r.ps=ps/\r.dl=uL [smP a b]/\
  ∀x,x∈r.fd↔∃φ:Fit,x=(uL [smP a b]).map φ/\(∀p∈ps,eG rs φ p)/\ev φ a≠ev φ b:=by
 obtain⟨fd,f1,f2,f3,f4⟩:=DM hrs h1 h4 hab;exact⟨⟨cf ps a b,ps,uL [smP a b],0,fd,AZ ps a b,f4,s1 ps a b,vz ps a b,λc hc=>by obtain⟨φ,e,h,_⟩:=(f3 c).mp hc;exact⟨φ,e,h⟩,zW _,λl hl=>hab l ((cj _ l).mp hl),h1,h4,f2,.inl rfl⟩,rfl,rfl,rfl,f3⟩
noncomputable abbrev rwF (ψ:Fit) (qs:List Pat):List Row:=qs.map λq=>(q.1,q.2.map (ev ψ))
theorem D6 {ps qs:List Pat}(h1:ps.length<=2) (h2:qs.length<=2) (h4:∀p∈ps,p.2.length<=4) (h5:∀p∈qs,p.2.length<=4) {vs:List IX}(nd:vs.Nodup) (vl:∀l,l∈vs↔l∈aX ps) (ψ:Fit) (u:Int):∃(χ:Fit) (f:D),(∀l∈aX ps,χ l=ψ l)/\(∀q∈uW (frL ps qs) u,χ q.1=q.2)/\
  pY (U (fL vs (vs.map ψ))) (U (.lst ((uW (frL ps qs) u).map cC)))=U f/\f_filled [.lst (qs.map az),f]=U (.lst ((rwF χ qs).map rowD),V):=by
 have hlets:(aX ps).length<=8:=IR (aF h4) (by lia)
 have hvl:vs.length<=8:=IR (Kq nd λl hl=>(vl l).mp hl) hlets
 have hq:(uL qs).length<=8:=IR (mA qs) (IR (aF h5) (by lia))
 have hbl:(uW (frL ps qs) u).length<=8:=by
  have:(uW (frL ps qs) u).length=(frL ps qs).length:=by rw[<-IC (f:=(·.1)),nZ]
  rw[this];exact IR (Ka ..) hq
 have ez:vs.zip (vs.map ψ)=vs.map λl=>(l,ψ l):=gM _
 have ek:((vs.map λl=>(l,ψ l))++uW (frL ps qs) u).map (·.1)=vs++frL ps qs:=by
  rw[Jd,nZ,JK];congr 1;exact MO _
 have ndk:(vs++frL ps qs).Nodup:=by
  rw[Lf];refine⟨nd,(zW qs).filter _,λx hx y hy e=>?_⟩
  subst e;have:=(List.mem_filter.mp hy).2;simp[cj,(vl x).mp hx]at this
 generalize hP:(vs.map λl=>(l,ψ l))++uW (frL ps qs) u=P at*
 obtain⟨χ,hχ⟩:=uq (kn:=P.map (·.1)) (x:=P.map (·.2)) (ek▸ndk) (by simp)
 have hp:∀q∈P,χ q.1=q.2:=λq hq=>by
  rw[JK]at hχ;exact(List.map_inj_left.mp hχ q hq).symm
 have egs:P=(P.map (·.1)).zip ((P.map (·.1)).map χ):=by
  rw[<-hχ];exact List.zip_of_prod rfl rfl
 refine⟨χ,fL (P.map (·.1)) ((P.map (·.1)).map χ),λl hl=>?_,λq hq=>hp q (by rw[<-hP];exact Kn _ hq),?_,?_⟩
 ·exact hp (l,ψ l) (by rw[<-hP];exact JU _ (List.mem_map.mpr ⟨l,(vl l).mpr hl,rfl⟩))
 ·have ef:fL vs (vs.map ψ)=.lst ((vs.map λl=>(l,ψ l)).map cC):=by unfold fL;rw[ez]
  rw[ef,catO_s _ _ (by simp;lia),<-Jd,hP]
  unfold fL;rw[<-egs]
 ·have hlen:(P.map (·.1)).length<=100:=by
   rw[ek,Jy];have:(frL ps qs).length<=8:=IR (Ka ..) hq
   lia
  rw[k9 (us:=P.map (·.1)) (ek▸ndk) hlen χ (by lia) h5 λl hl=>?_]
  ·rw[JK];rfl
  ·rw[ek]
   by_cases h:l∈uL ps
   ·exact JU _ ((vl l).mpr ((cj ps l).mp h))
   ·exact Kn _ (List.mem_filter.mpr ⟨(cj qs l).mpr hl,by simp[h]⟩)
noncomputable abbrev eF (a0:Option (D×Bool)) (RL:D) (mo:Int) (rs:List Row) (st:List D) (un:Int) (x6 x7 x8 x9:Option (D×Bool)):DEnv:=[a0,U (RL,Y),U (.int mo,Y),U (.lst (rs.map rowD),Y),U (.lst st,V),U (.int un,Y),x6,x7,x8,x9]
section
variable{L:List (RI rs)}{RL:D}(hRL:RL=.lst (L.map (·.R))) {a0 x6 x7 x8 x9:Option (D×Bool)}{mo un:Int}{st:List D}
include hRL
theorem xm (hn:f_next_broken [.lst (rs.map rowD),RL]=U (.non,Y)):ax (eF a0 RL mo rs st un x6 x7 x8 x9)=U (.ret (.tup [.str "full",.lst (rs.map rowD),.lst st]) Y):=by
 have i1:wP (U D.non)=U V:=rfl;simp only[ax,rd_1,rd_0,consO_s,bindO_s,hn,shO_s];rfl
variable{k:Nat}{r:RI rs}{f:D}(hk:L[k]?=U r) (hn:f_next_broken [.lst (rs.map rowD),RL]=U (.tup [.int (k:Int),f],Y))
include hk hn
theorem vZ (hc:f_is_clash [r.R,f]=U (.bl V,Y)):ax (eF a0 RL mo rs st un x6 x7 x8 x9)=U (.ret (.tup [.str "clash",.lst st,.int (k:Int),f]) Y):=by
 have i1:∀ds,wP (U (D.tup ds))=U Y:=λ_=>rfl
 have t0:ixO (U (.tup [.int (k:Int),f])) (U (.int 0))=U (.int (k:Int)):=rfl;have t1:ixO (U (.tup [.int (k:Int),f])) (U (.int 1))=U f:=rfl;have tR:ixO (U RL) (U (.int (k:Int)))=U r.R:=by
  rw[hRL,ixO_l];exact pM (by lia) (by rw[Kd,Ja,hk];rfl)
 simp only[ax,rd_1,rd_0,consO_s,bindO_s,hn,shO_s];rw[setO_s _ _ _ (by simp)]
 simp only[seqO_n,IE,ID,rd_1,rd_0,i1,ifO_f,nextO_s,t0,t1];rw[setO_s _ _ _ (by simp)]
 simp only[seqO_n,IE,ID,rd_1,rd_0,t0,tR];rw[setO_s _ _ _ (by simp)]
 simp only[seqO_n,IE,ID,rd_1,rd_0,consO_s,bindO_s,hc,shO_s,tyB_s,ifO_t,frzE_1,frzE_0,u8,t0];rfl
variable(hc:f_is_clash [r.R,f]=U (.bl Y,Y))
include hc
theorem wV:ax (eF a0 RL mo rs st un x6 x7 x8 x9)=(if mo<=st.length then U (.ret (.tup [.str "open",.lst (rs.map rowD),.lst st]) Y) else
  ak (ifO (eqO (ixO (U r.R) (U (.int 0))) (U (.str "same"))) (ak (aH 9 (frO (f_same_moves [r.R,f])) (eF a0 RL mo rs st un (U (.tup [.int (k:Int),f],Y)) (U (f,Y)) (U (r.R,Y)) x9)) (λδ=>aH 3 (frO (ae (aa (rd Y 3 δ) (aa (rd Y 9 δ) (U []))) f_moved)) δ))
   (ak (aH 9 (frO (f_fresh_moves [r.R,.int un])) (eF a0 RL mo rs st un (U (.tup [.int (k:Int),f],Y)) (U (f,Y)) (U (r.R,Y)) x9)) (λδ=>ak (aH 3 (frO (ae (aa (pY (rd Y 3 δ) (frO (ae (aa (ixO (rd Y 8 δ) (U (.int 2))) (aa (pY (rd Y 7 δ) (rd Y 9 δ)) (U []))) f_filled))) (U [])) f_stand_of)) δ) (λδ=>aH 5 (bY (rd Y 5 δ) (cE (rd Y 9 δ))) δ))))
   (λδ=>jA 4 (bF (aa (ixO (rd Y 6 δ) (U (.int 0))) (aa (rd Y 7 δ) (aa (rd Y 9 δ) (U []))))) δ)):=by
 have i1:∀ds,wP (U (D.tup ds))=U Y:=λ_=>rfl
 have t0:ixO (U (.tup [.int (k:Int),f])) (U (.int 0))=U (.int (k:Int)):=rfl;have t1:ixO (U (.tup [.int (k:Int),f])) (U (.int 1))=U f:=rfl;have tR:ixO (U RL) (U (.int (k:Int)))=U r.R:=by
  rw[hRL,ixO_l];exact pM (by lia) (by rw[Kd,Ja,hk];rfl)
 simp only[ax,rd_1,rd_0,consO_s,bindO_s,hn,shO_s];rw[setO_s _ _ _ (by simp)]
 simp only[seqO_n,IE,ID,rd_1,rd_0,i1,ifO_f,nextO_s,t0,t1];rw[setO_s _ _ _ (by simp)]
 simp only[seqO_n,IE,ID,rd_1,rd_0,t0,tR];rw[setO_s _ _ _ (by simp)]
 simp only[seqO_n,IE,ID,rd_1,rd_0,rd_0o,consO_s,bindO_s,hc,shO_s,tyB_s,ifO_f,nextO_s,lenL_l,cI_s]
 by_cases h:mo<=st.length
 ·rw[if_pos h,show gGe (st.length:Int) mo=V from decide_eq_true h]
  rfl
 ·rw[if_neg h,show gGe (st.length:Int) mo=Y from decide_eq_false h]
  rfl
end
end K61
namespace K61
open PySem L2 JP
variable[Md]
variable{rs:List Row}
theorem yN {L:List (RI rs)}{RL:D}(hRL:RL=.lst (L.map (·.R))) (hrs:rs.length<=20) {k:Nat}{r:RI rs}{c:List Ce}{vs:List IX}{ψ:Fit}(C:Ch L k r c vs ψ) (hn:f_next_broken [.lst (rs.map rowD),RL]=U (.tup [.int (k:Int),fL vs (vs.map ψ)],Y)) {qs:List Pat}(hR:r.R=dS r.ps qs) (h2:qs.length<=2) (h5:∀p∈qs,p.2.length<=4)
  (un:Int) (st:List D) (hst:st.length<=1000):
  ∃(χ:Fit) (rs':List Row) (t:D) (un':Int) (y6 y7 y8 y9:Option (D×Bool)),(∀q,q∈rs'↔q∈rs\/q∈rwF χ qs)/\rs'.length<=rs.length+2/\∀a0 x6 x7 x8 x9 mo,ax (eF a0 RL mo rs st un x6 x7 x8 x9)=if mo<=st.length then U (.ret (.tup [.str "open",.lst (rs.map rowD),.lst st]) Y) else U (.next (eF a0 RL mo rs' (st++[t]) un' y6 y7 y8 y9)):=by
 have hc:f_is_clash [r.R,fL vs (vs.map ψ)]=U (.bl Y,Y):=by rw[hR];exact vP _ _ _
 obtain⟨χ,f,hχ,hν,ef,eg⟩:=D6 r.pl h2 r.p4 h5 C.nd C.vl ψ un;obtain⟨rs',f1,f2,f3⟩:=kI (rs:=rs++rwF χ qs) (by simp;lia)
 have em:=lW r.pl h2 r.p4 h5 un;refine⟨χ,rs',.tup [.int (k:Int),fL vs (vs.map ψ),.lst ((uW (frL r.ps qs) un).map cC)],un+(((uW (frL r.ps qs) un).map cC).length:Int),U (.tup [.int (k:Int),fL vs (vs.map ψ)],Y),U (fL vs (vs.map ψ),Y),U (dS r.ps qs,Y),U (.lst ((uW (frL r.ps qs) un).map cC),Y),λq=>by rw[f1,Mx],by simp at f2;lia,λa0 x6 x7 x8 x9 mo=>?_⟩
 rw[wV hRL C.at' hn hc];split
 ·rfl
 rw[Jd]at f3;have t0:ixO (U (.tup [.int (k:Int),fL vs (vs.map ψ)])) (U (.int 0))=U (.int (k:Int)):=rfl;rw[hR];simp only[m0,aD,ms,decide_false,ifO_f,em,frO_s];rw[setO_s _ _ _ (by simp)]
 simp only[seqO_n,IE,ID,rd_1,rd_0,m2,ef,consO_s,bindO_s,eg,frO_s];rw[catO_s _ _ (by simp;lia)]
 simp only[consO_s,bindO_s,f3,frO_s];rw[setO_s _ _ _ (by simp)]
 simp only[seqO_n,IE,ID,rd_1,rd_0,lenL_l,addI_s];rw[setO_s _ _ _ (by simp)]
 simp only[seqO_n,IE,ID,rd_1,rd_0,t0,consO_s];rw[tupO_s _ (by simp),eR (ds:=st) _ (by rfl) (by simp;lia)]
 rfl
theorem w7 {L:List (RI rs)}{RL:D}(hRL:RL=.lst (L.map (·.R))) (hrs:rs.length<=20) (hr4:∀q∈rs,q.2.length<=4) {k:Nat}{r:RI rs}{c:List Ce}{vs:List IX}{ψ:Fit}(C:Ch L k r c vs ψ) (hn:f_next_broken [.lst (rs.map rowD),RL]=U (.tup [.int (k:Int),fL vs (vs.map ψ)],Y)) {a b:Te}(hR:r.R=cf r.ps a b) (hab:∀l∈aX [smP a b],l∈aX r.ps)
  (un:Int) (st:List D) (hst:st.length<=1000):
  ((isNm (ev ψ a)&&isNm (ev ψ b))=V->∀a0 x6 x7 x8 x9 mo,ax (eF a0 RL mo rs st un x6 x7 x8 x9)=U (.ret (.tup [.str "clash",.lst st,.int (k:Int),fL vs (vs.map ψ)]) Y))/\
  ((isNm (ev ψ a)&&isNm (ev ψ b))=Y->∃(n:Int) (e:Ce) (rs':List Row) (t:D) (y6 y7 y8 y9:Option (D×Bool)),(∀q,q∈rs'↔∃q'∈rs,q=pq [(n,e)] q')/\rs'.length<=rs.length/\∀a0 x6 x7 x8 x9 mo,ax (eF a0 RL mo rs st un x6 x7 x8 x9)=if mo<=st.length then U (.ret (.tup [.str "open",.lst (rs.map rowD),.lst st]) Y) else U (.next (eF a0 RL mo rs' (st++[t]) un y6 y7 y8 y9))):=by
 have hvl:vs.length<=100:=IR (Kq C.nd λl hl=>(C.vl l).mp hl) (IR (aF r.p4) (by have:=r.pl;lia))
 have hl:∀l∈aX [smP a b],l∈vs:=λl h=>(C.vl l).mpr (hab l h)
 have hc:f_is_clash [r.R,fL vs (vs.map ψ)]=U (.bl (isNm (ev ψ a)&&isNm (ev ψ b)),Y):=by rw[hR];exact wn r.ps a b C.nd hvl ψ hl
 refine⟨λh a0 x6 x7 x8 x9 mo=>?_,λh=>?_⟩
 ·rw[h]at hc
  exact vZ hRL C.at' hn hc
 ·rw[h]at hc
  obtain⟨n,e,hne,em⟩:=ou r.ps a b C.nd hvl ψ hl h;obtain⟨rs',f1,f2,f3⟩:=AF (rs:=rs) (by lia) hr4 (mv:=[(n,e)]) (by unfold nkM;simp) (by simp)
  refine⟨n,e,rs',.tup [.int (k:Int),fL vs (vs.map ψ),.lst [mvD (n,e)]],U (.tup [.int (k:Int),fL vs (vs.map ψ)],Y),U (fL vs (vs.map ψ),Y),U (cf r.ps a b,Y),U (.lst [mvD (n,e)],Y),f1,f2,λa0 x6 x7 x8 x9 mo=>?_⟩
  have t0:ixO (U (.tup [.int (k:Int),fL vs (vs.map ψ)])) (U (.int 0))=U (.int (k:Int)):=rfl;rw[wV hRL C.at' hn hc];split
  ·rfl
  rw[hR];simp only[s0,aD,decide_true,ifO_t,em,frO_s];rw[setO_s _ _ _ (by simp)]
  have f3':f_moved [.lst (rs.map rowD),.lst [mvD (n,e)]]=U (.lst (rs'.map rowD),V):=f3;simp only[seqO_n,IE,ID,rd_1,rd_0,consO_s,bindO_s,f3',frO_s];rw[setO_s _ _ _ (by simp)]
  simp only[seqO_n,IE,ID,rd_1,rd_0,t0,consO_s];rw[tupO_s _ (by simp),eR (ds:=st) _ (by rfl) (by simp;lia)]
  rfl
end K61
namespace K61
open PySem L2 JP
variable[Md]
theorem jj {n:Nat}{δ:DEnv}{v:D}(h:ax δ=U (.ret v Y)):aP bR ax (n+1) δ=U (.ret v Y):=by
 unfold aP;rw[show bR δ=U V from rfl,h]
theorem tu {n:Nat}{δ δ':DEnv}(h:ax δ=U (.next δ')):aP bR ax (n+1) δ=aP bR ax n δ':=by
 conv=>lhs;unfold aP
 rw[show bR δ=U V from rfl,h]
noncomputable def hc (h:Int->Ce):Ce->Ce|.bk n=>h n|.nm w=>.nm w
noncomputable def EV (h:Int->Ce) (r:Row):Row:=(r.1,r.2.map (hc h))
noncomputable def Into (h:Int->Ce) (rs H:List Row):Prop:=∀r∈rs,EV h r∈H
theorem HX (h:Int->Ce) (φ:Fit) (t:Te):ev (λl=>hc h (φ l)) t=hc h (ev φ t):=by cases t<;>rfl
theorem Into.fit {h:Int->Ce}{rs H:List Row}{φ:Fit}{p:Pat}(i:Into h rs H) (f:eG rs φ p):eG H (λl=>hc h (φ l)) p:=by
 obtain⟨r,h1,h2,h3⟩:=f;refine⟨EV h r,i r h1,h2,?_⟩
 show r.2.map (hc h)=_;rw[h3,JK];exact Js λt _=>(HX h φ t).symm
theorem Into.comp {g h:Int->Ce}{rs qs H:List Row}(i:Into g rs qs) (j:Into h qs H):Into (λn=>hc h (g n)) rs H:=λr hr=>by
 have:=j _ (i r hr);unfold EV at this⊢;rw[JK]at this;rwa[Js (g:=hc h ∘ hc g) λc _=>by cases c<;>rfl]
theorem Into.refl (rs:List Row):Into .bk rs rs:=λr hr=>by
 unfold EV;rwa[Js (g:=id) λc _=>by cases c<;>rfl,MO]
inductive Ru where|must (ps qs:List Pat)|same (ps:List Pat) (a b:Te)
noncomputable def ruD:Ru->D|.must ps qs=>dS ps qs|.same ps a b=>cf ps a b
noncomputable def Wf:Ru->Prop
 |.must ps qs=>ps.length<=2/\qs.length<=2/\(∀p∈ps,p.2.length<=4)/\∀p∈qs,p.2.length<=4
 |.same ps a b=>ps.length<=2/\(∀p∈ps,p.2.length<=4)/\∀l∈aX [smP a b],l∈aX ps
noncomputable def vV (H:List Row):Ru->Prop
 |.must ps qs=>∀φ:Fit,(∀p∈ps,eG H φ p)->∃χ:Fit,(∀l∈aX ps,χ l=φ l)/\∀q∈qs,eG H χ q
 |.same ps a b=>∀φ:Fit,(∀p∈ps,eG H φ p)->ev φ a=ev φ b
theorem Gh {χ:Fit}{qs:List Pat}{r:Row}(h:r∈rwF χ qs):∃q∈qs,r=(q.1,q.2.map (ev χ)):=by
 obtain⟨q,hq,e⟩:=List.mem_map.mp h;exact⟨q,hq,e.symm⟩
theorem Fe (n:Int) (e c:Ce):led [(n,e)] c=hc (λk=>if k=n then e else .bk k) c:=by
 cases c with
 |nm w=>rfl
 |bk k=>
  unfold led hc
  by_cases h:k=n
  ·simp[h]
  ·simp[h]
end K61
namespace K61
open PySem L2 JP
variable[Md]
theorem w9:∀cs:List Ce,aJ (au (af 4) (λδ=>eqO (ixO (rd Y 4 δ) (U (.int 0))) (U (.str "blank"))) dE [B,B,B,B,B]) (cs.map ceD)=U ((bls cs).map D.int)
 |[]=>rfl
 |c::cs=>by
  rw[IG];unfold aJ;rw[w9 cs];have e:au (af 4) (λδ=>eqO (ixO (rd Y 4 δ) (U (.int 0))) (U (.str "blank"))) dE [B,B,B,B,B] (ceD c)=U (match c with|.bk n=>U (.int n)|.nm _=>B):=by
   unfold au;rw[toName_s _ _ _ (by simp)]
   simp only[bindO_s,IE,ID,rd_1,rd_0,DC];cases c with
   |nm w=>rfl
   |bk n=>rfl
  cases c<;>rfl
theorem sr {n:Int}:∀{cs:List Ce},Ce.bk n∈cs->n∈bls cs
 |.bk m::cs,h=>by
  rcases List.mem_cons.mp h with e|h
  ·cases e;exact IN ..
  ·exact IK _ (sr h)
 |.nm w::cs,h=>by
  rcases List.mem_cons.mp h with e|h
  ·cases e
  ·exact sr (cs:=cs) h
theorem o6 {rs:List Row}(hrs:rs.length<=15) (h4:∀q∈rs,q.2.length<=4):∃ns:List Int,(∀q∈rs,∀n,Ce.bk n∈q.2->n∈ns)/\f_blanks_of [.lst (rs.map rowD)]=U (.lst (ns.map D.int),V):=by
 have hl:(rs.flatMap λq=>bls q.2).length<=4*rs.length:=uw λq hq=>IR (sP q.2) (h4 q hq)
 have hm:∀q∈rs,∀n,Ce.bk n∈q.2->n∈rs.flatMap λq=>bls q.2:=λq hq n hn=>List.mem_flatMap.mpr ⟨q,hq,sr hn⟩
 obtain⟨y,e⟩:=iv (γ:=Option (D×Bool)×Option (D×Bool)) (f:=rowD) (h:=λq:Row=>bls q.2) (xs:=rs) (acc:=[]) (y:=(B,B)) (PZ:=60) (body:=λd δ=>ae ((aL (ah (af 2) (ah (af 3) (toNil)))) d δ) hX) (E:=λacc y=>[U (.lst (rs.map rowD),Y),U (.lst (acc.map D.int),V),y.1,y.2,B]) (by rw[JZ];lia) λq hq acc y hb=>by
  have:=h4 q hq;refine⟨(U (.str q.1,Y),U (.tup (q.2.map ceD),Y)),bE rfl ?_⟩
  rw[Jd];exact Im (lO (ds:=q.2.map ceD) rfl (by rw[IC];lia) rfl (w9 q.2) (by rw[IC];lia)) rfl (by rw[IC,IC];lia)
 rw[Lz]at e;generalize rs.flatMap (λq=>bls q.2)=ms at hl hm e
 obtain⟨ns,en,_,h1,_⟩:=ze (f:=D.int) (λ_ _=>D.int.inj) ms
 exact⟨ns,λq hq n hn=>(h1 n).mpr (hm q hq n hn),opn rfl (stF (d:=.lst []) (lstO_s _ (by simp)) (stN e (rF ((Ey (λ_=>rfl) (λ_=>rfl) (λ_=>rfl) (sj (λ_=>rfl) λ_ _=>rfl) (by lia)).trans (by rw[en])))))⟩
theorem wz {rs:List Row}(hrs:rs.length<=15) (h4:∀q∈rs,q.2.length<=4) (RL:D):∃un:Int,∀mo:Int,f_full [.lst (rs.map rowD),RL,.int mo]=jC (aP bR ax 1000 (eF (U (.lst (rs.map rowD),Y)) RL mo rs [] un B B B B)):=by
 obtain⟨ns,hm,en⟩:=o6 hrs h4;have l0:cX (U [])=U (.lst []):=lstO_s _ (by simp)
 have em:qm (U (.lst (ns.map D.int))) (zF (U (.int 1)))=U (.int (if ns=[] then -1 else wE ns)):=by
  unfold qm zF;simp only[kT]
 refine⟨(if ns=[] then -1 else wE ns)+1,λmo=>?_⟩
 rw[ao (f:=f_full) (δ:=[U (.lst (rs.map rowD),Y),U (RL,Y),U (.int mo,Y),B,B,B,B,B,B,B]) rfl rfl rfl];simp only[xz,rd_1,rd_0,listO_l,l0]
 simp_all
theorem wJ {rs:List Row}(hrs:rs.length<=25) {ps:List Pat}(hps:ps.length<=2) (h4:∀p∈ps,p.2.length<=4) {wanted:List IX}(hw:wanted.length<=100) (hwp:∀l∈wanted,l∈aX ps):∃gs:List (List Ce),gs.Nodup/\(∀x,x∈gs↔∃φ:Fit,x=wanted.map φ/\∀p∈ps,eG rs φ p)/\(gs.map cD).Pairwise leD/\gs.length<=625/\
  f_answers [.lst (rs.map rowD),.tup [.lst (wanted.map D.str),.lst (ps.map az)]]=U (.lst (gs.map cD),V):=by
 obtain⟨fs,n1,m1,ej,hl⟩:=ln (rs:=rs) (by lia) (ps:=ps) (by lia) h4 (kn:=[]) (fd:=[[]]) (by simp) Kc (by simp) (by simp) (by simp) (by simp) (λk hk=>by
  simp only[IU,JZ,K4,Nat.one_mul];exact IR (GY hrs (by lia)) (by decide)) hw hwp
 obtain⟨gs,pg,eg⟩:=bO (ay (fs.map cD));have srt:=bU (vQ fs);rw[eg]at srt;refine⟨gs,pg.nodup_iff.mpr n1,λx=>by rw[pg.mem_iff,m1];simp,srt,by rw[pg.length_eq];exact IR hl (by simpa using GY hrs hps),?_⟩
 have t0:ixO (U (.tup [.lst (wanted.map D.str),.lst (ps.map az)])) (U (.int 0))=U (.lst (wanted.map D.str)):=rfl;have t1:ixO (U (.tup [.lst (wanted.map D.str),.lst (ps.map az)])) (U (.int 1))=U (.lst (ps.map az)):=rfl;have e1:f_joined [.lst (rs.map rowD),.lst (ps.map az),.lst (wanted.map D.str)]=U (.lst (gs.map cD),V):=by
  rw[ao (f:=f_joined) (δ:=[U (.lst (rs.map rowD),Y),U (.lst (ps.map az),Y),U (.lst (wanted.map D.str),Y)]) rfl rfl rfl];simp only[jM,rd_1,rd_0];rw[lstO_s [] (by simp),tupO_s [] (by simp)]
  simp only[consO_s];rw[lstO_s _ (by simp)]
  have ec:cD []=.tup []:=rfl;simp only[IG,LU,ec]at ej;simp only[consO_s,bindO_s,ej,frO_s,retF_s,outF_r,eg]
 rw[ao (f:=f_answers) (δ:=[U (.lst (rs.map rowD),Y),U (.tup [.lst (wanted.map D.str),.lst (ps.map az)],Y)]) rfl rfl rfl];simp only[lM,rd_1,rd_0,t0,t1,consO_s,bindO_s,e1,frO_s,retF_s,outF_r]
theorem uO:∀c:List Ce,aJ (au (af 7) (λδ=>U V) jL [B,B,B,B,B,B,B,B]) (c.map ceD)=U ((c.map isNm).map D.bl)
 |[]=>rfl
 |c::cs=>by
  rw[IG];unfold aJ;rw[uO cs];have e:au (af 7) (λδ=>U V) jL [B,B,B,B,B,B,B,B] (ceD c)=U (U (.bl (isNm c))):=by
   unfold au;rw[toName_s _ _ _ (by simp)]
   simp only[bindO_s,IE,ID,rd_1,rd_0,jL,Dm,ofB_s]
  rw[e];rfl
theorem CH {rows RL q:D}{mo:Int}{s:IX}{rs:List Row}{st:List D}{gs:List (List Ce)}(hs:s="full"\/s="open") (hf:f_full [rows,RL,.int mo]=U (.tup [.str s,.lst (rs.map rowD),.lst st],Y)) (ha:f_answers [.lst (rs.map rowD),q]=U (.lst (gs.map cD),V)) (hg:gs.length<=625) (hc:∀c∈gs,c.length<=1000):
  f_sure [rows,RL,q,.int mo]=U (.tup [.str (if s="full" then "sure" else "open"),.lst ((gs.filter λc=>c.all isNm).map cD)],Y):=by
 have t0:ixO (U (.tup [.str s,.lst (rs.map rowD),.lst st])) (U (.int 0))=U (.str s):=rfl;have t1:ixO (U (.tup [.str s,.lst (rs.map rowD),.lst st])) (U (.int 1))=U (.lst (rs.map rowD)):=rfl;have ne:s≠"clash":=by rcases hs with rfl|rfl<;>decide +kernel
 have em:∀a b c d e f g h:Option (D×Bool),aG Y [Y,Y,Y,Y,Y,Y,Y,Y] [a,b,c,d,e,f,g,h]=[B,B,B,B,B,B,B,B]:=λ_ _ _ _ _ _ _ _=>rfl
 rw[ao (f:=f_sure) (δ:=[U (rows,Y),U (RL,Y),U (q,Y),U (.int mo,Y),B,B,B,B]) rfl rfl rfl];simp only[uG,rd_1,rd_0,consO_s,bindO_s,hf,shO_s];rw[setO_s _ _ _ (by simp)]
 simp only[seqO_n,IE,ID,rd_1,rd_0,t0,t1,aD,ne,decide_false,ifO_f,nextO_s,consO_s,bindO_s,ha,frO_s,lstL_s];rw[bd (by simp;lia),em,bw (f:=cD) (h:=cD) (p:=λc=>c.all isNm) λc hcm=>by
  unfold au;rw[toName_s _ _ _ (by simp)]
  have et:rB (U (cD c))=U (c.map ceD):=rfl;have ea:Gf (U (.lst ((c.map isNm).map D.bl)))=U (.bl (c.all isNm)):=by
   unfold Gf;simp only[vB,bindO_s];rw[Ps];rfl
  simp only[bindO_s,IE,ID,rd_1,rd_0,et];rw[bd (by rw[IC,lim_eq];have:=hc c hcm;lia),em,uO,lstLim_s,ea,tyB_s]
  cases c.all isNm<;>rfl]
 rw[lstLim_s,setF_s _ _ _ (by simp)]
 simp only[seqO_n,IE,ID,frzE_1,frzE_0,vG,rd_1,rd_0,t0,aD]
 by_cases h:s="full"
 ·rw[if_pos h,decide_eq_true h]
  rfl
 ·rw[if_neg h,decide_eq_false h]
  rfl
theorem wH {rows RL q:D}{mo:Int}{ds:List D}(hf:f_full [rows,RL,.int mo]=U (.tup (.str "clash"::ds),Y)):f_sure [rows,RL,q,.int mo]=U (.tup [.str "clash"],Y):=by
 have t0:ixO (U (.tup (.str "clash"::ds))) (U (.int 0))=U (.str "clash"):=by rw[ixO_t,Hc]
 rw[ao (f:=f_sure) (δ:=[U (rows,Y),U (RL,Y),U (q,Y),U (.int mo,Y),B,B,B,B]) rfl rfl rfl];simp only[uG,rd_1,rd_0,consO_s,bindO_s,hf,shO_s];simp[seqO_n,IE,ID,rd_1,rd_0,t0,aD,decide_true,ifO_t,consO_s]
end K61
namespace K61
open PySem L2 JP
variable[Md]
structure RK (rs:List Row) (R:Ru) (r:RI rs):Prop where
 eq:r.R=ruD R
 ps:r.ps=(match R with|.must ps _=>ps|.same ps _ _=>ps)
 kp:r.fd=[]->vV rs R
 nk:∀c∈r.fd,¬vV rs R
theorem Hu {rs:List Row}(hrs:rs.length<=25):∀{R:Ru},Wf R->∃r:RI rs,RK rs R r
 |.must ps qs,⟨h1,h2,h4,h5⟩=>by
  obtain⟨r,e1,e2,e3,e4⟩:=C5 hrs h1 h2 h4 h5;refine⟨r,e1,e2,λh φ hφ=>?_,λc hc z=>by
   obtain⟨⟨φ,h1,h2⟩,h3⟩:=(e4 c).mp hc;obtain⟨χ,c1,c2⟩:=z φ h2;exact h3 ⟨χ,h1.trans (Js λl hl=>(c1 l ((cj ps l).mp (of_decide_eq_true (List.mem_filter.mp hl).2))).symm),c2⟩⟩
  obtain⟨χ,hx,hq⟩:=KJ λz=>by
   have:=(e4 ((dlM ps qs).map φ)).mpr ⟨⟨φ,rfl,hφ⟩,z⟩;rw[h]at this;cases this
  classical
  refine⟨λl=>if l∈aX ps then φ l else χ l,λl hl=>if_pos hl,λq hq'=>mL (λl hl=>?_) (hq q hq')⟩
  by_cases h':l∈aX ps
  ·rw[if_pos h']
   exact(List.map_inj_left.mp hx l (List.mem_filter.mpr ⟨(cj qs l).mpr (dI.mpr ⟨q,hq',hl⟩),decide_eq_true ((cj ps l).mpr h')⟩)).symm
  ·rw[if_neg h']
 |.same ps a b,⟨h1,h4,hab⟩=>by
  obtain⟨r,e1,e2,e3,e4⟩:=DN hrs h1 h4 hab;refine⟨r,e1,e2,λh φ hφ=>?_,λc hc z=>by
   obtain⟨φ,_,h2,h3⟩:=(e4 c).mp hc;exact h3 (z φ h2)⟩
  refine KJ λz=>?_
  have:=(e4 ((uL [smP a b]).map φ)).mpr ⟨φ,rfl,hφ,z⟩;rw[h]at this;cases this
theorem B0 {rs:List Row}(hrs:rs.length<=25):∀{RR:List Ru},(∀R∈RR,Wf R)->∃L:List (RI rs),L.map (·.R)=RR.map ruD/\(∀R∈RR,∃r∈L,RK rs R r)/\∀r∈L,∃R∈RR,RK rs R r
 |[],_=>⟨[],rfl,λ_ h=>(nomatch h),λ_ h=>nomatch h⟩
 |R::RR,h=>by
  obtain⟨r,k⟩:=Hu hrs (h R (.head _));obtain⟨L,e,h1,h2⟩:=B0 hrs λR hR=>h R (.tail _ hR)
  refine⟨r::L,by simp[e,k.eq],λR' hR=>?_,λr' hr=>?_⟩
  ·grind
  grind
noncomputable abbrev fuV (s:IX) (rs:List Row) (st:List D):D:=.tup [.str s,.lst (rs.map rowD),.lst st]
section
variable{RR:List Ru}(wf:∀R∈RR,Wf R) (hR:RR.length<=100)
include wf hR
theorem Fi {rs:List Row}(hrs:rs.length<=20) (hr4:∀q∈rs,q.2.length<=4) (un:Int) (st:List D) (hst:st.length<=1000):
  ((∀R∈RR,vV rs R)/\∀a0 x6 x7 x8 x9 mo,ax (eF a0 (.lst (RR.map ruD)) mo rs st un x6 x7 x8 x9)=U (.ret (fuV "full" rs st) Y))\/
  (¬∀R∈RR,vV rs R)/\((∃ds,ds.length=3/\∀a0 x6 x7 x8 x9 mo,ax (eF a0 (.lst (RR.map ruD)) mo rs st un x6 x7 x8 x9)=U (.ret (.tup (.str "clash"::ds)) Y))\/
  ∃(rs':List Row) (un':Int) (t:D) (y6 y7 y8 y9:Option (D×Bool)),(∃g,Into g rs rs')/\rs'.length<=rs.length+2/\(∀q∈rs',q.2.length<=4)/\∀a0 x6 x7 x8 x9 mo,ax (eF a0 (.lst (RR.map ruD)) mo rs st un x6 x7 x8 x9)=if mo<=st.length then U (.ret (fuV "open" rs st) Y) else U (.next (eF a0 (.lst (RR.map ruD)) mo rs' (st++[t]) un' y6 y7 y8 y9))):=by
 obtain⟨L,e,h1,h2⟩:=B0 (rs:=rs) (by lia) wf
 have hL:L.length<=100:=by have:=congrArg Kk e;simp at this;lia
 rw[<-e]
 rcases He (by lia) L hL with⟨h,hn⟩|⟨k,r,c,vs,ψ,C,hn⟩
 ·refine .inl ⟨λR hR=>?_,λ_ _ _ _ _ _=>xm rfl hn⟩
  obtain⟨r,hr,K⟩:=h1 R hR;exact K.kp (h r hr)
 ·obtain⟨R,hR,K⟩:=h2 r (Jq C.at')
  refine .inr ⟨λz=>K.nk c C.mem (z R hR),?_⟩
  cases R with
  |must ps qs=>
   obtain⟨w1,w2,w4,w5⟩:=wf _ hR;have ep:r.ps=ps:=K.ps;obtain⟨χ,rs',t,un',y6,y7,y8,y9,c4,c5,c6⟩:=yN rfl hrs C hn (qs:=qs) (by rw[ep];exact K.eq) w2 w5 un st hst
   refine .inr ⟨rs',un',t,y6,y7,y8,y9,⟨.bk,λr hr=>(c4 _).mpr (.inl (Into.refl rs r hr))⟩,c5,λq hq=>?_,c6⟩
   rcases(c4 q).mp hq with h|h
   ·exact hr4 q h
   ·obtain⟨p,hp,rfl⟩:=Gh h
    simpa using w5 p hp
  |same ps a b=>
   obtain⟨w1,w4,wab⟩:=wf _ hR;have ep:r.ps=ps:=K.ps;obtain⟨t1,t2⟩:=w7 rfl hrs hr4 C hn (a:=a) (b:=b) (by rw[ep];exact K.eq) (by rw[ep];exact wab) un st hst
   cases hb:isNm (ev ψ a)&&isNm (ev ψ b)with
   |true=>exact .inl ⟨_,rfl,t1 hb⟩
   |false=>
    obtain⟨n,e',rs',t,y6,y7,y8,y9,c2,c3,c4⟩:=t2 hb;refine .inr ⟨rs',un,t,y6,y7,y8,y9,⟨λk=>if k=n then e' else .bk k,λr hr=>(c2 _).mpr ⟨r,hr,?_⟩⟩,by lia,λq hq=>?_,c4⟩
    ·unfold EV pq
     rw[Js λc _=>(Fe n e' c).symm]
    ·obtain⟨q',hq',rfl⟩:=(c2 q).mp hq
     simpa[pq]using hr4 q' hq'
noncomputable def Fo (rs:List Row) (v:D):Prop:=(∃st,v=fuV "full" rs st)\/(∃ds:List D,ds.length=3/\v=.tup (.str "clash"::ds))\/∃st,v=fuV "open" rs st
theorem Ig (a0:Option (D×Bool)):∀(m fuel:Nat) (rs:List Row) (st:List D) (un:Int) (x6 x7 x8 x9:Option (D×Bool)),4<=st.length+m->m<fuel->rs.length+2*m<=20->(∀q∈rs,q.2.length<=4)->st.length+m<=1000->∃(rs':List Row) (v:D),(∃g,Into g rs rs')/\rs'.length<=20/\aP bR ax fuel (eF a0 (.lst (RR.map ruD)) 4 rs st un x6 x7 x8 x9)=U (.ret v Y)/\Fo rs' v
 |m,fuel+1,rs,st,un,x6,x7,x8,x9,h1,h2,h3,h4,h5=>by
  rcases Fi wf hR (by lia) h4 un st (by lia)with⟨_,e⟩|⟨_,⟨ds,hd,e⟩|⟨rs',un',t,y6,y7,y8,y9,⟨g,hg⟩,hl,h4',e⟩⟩
  ·exact⟨rs,_,⟨_,.refl _⟩,by lia,jj (e ..),.inl ⟨st,rfl⟩⟩
  ·exact⟨rs,_,⟨_,.refl _⟩,by lia,jj (e ..),.inr (.inl ⟨ds,hd,rfl⟩)⟩
  ·have e:=e a0 x6 x7 x8 x9 4
   split at e
   ·exact⟨rs,_,⟨_,.refl _⟩,by lia,jj e,.inr (.inr ⟨st,rfl⟩)⟩
   ·cases m with
    |zero=>lia
    |succ m=>
     obtain⟨rs'',v,⟨h,hh⟩,r⟩:=Ig a0 m fuel rs' (st++[t]) un' y6 y7 y8 y9 (by simp;lia) (by lia) (by lia) h4' (by simp;lia)
     exact⟨rs'',v,⟨_,hg.comp hh⟩,by rw[tu e];exact r⟩
structure Two (RR:List Ru) (mo:Int) (rs:List Row) (n:Nat) (v w:D):Prop where
 ex:∃rs1 rs4:List Row,(∃g,Into g rs rs1)/\(∃g,Into g rs1 rs4)/\rs1.length<=20/\rs4.length<=20/\
  ((∃st,v=fuV "full" rs1 st/\w=v/\(∀R∈RR,vV rs1 R)/\rs4=rs1)\/(∃ds:List D,ds.length=3/\v=.tup (.str "clash"::ds)/\w=v)\/(∃st,v=fuV "open" rs1 st)/\Fo rs4 w)/\
  ((∀R∈RR,vV rs R)->rs1=rs/\∃st,v=fuV "full" rs1 st)/\(mo<=n->rs1=rs)
theorem two (a0:Option (D×Bool)) (mo:Int) (hmo:mo<=4):∀(m fuel:Nat) (rs:List Row) (st:List D) (un:Int) (x6 x7 x8 x9:Option (D×Bool)),4<=st.length+m->m<fuel->rs.length+2*m<=20->(∀q∈rs,q.2.length<=4)->st.length+m<=1000->∃v w:D,Two RR mo rs st.length v w/\aP bR ax fuel (eF a0 (.lst (RR.map ruD)) mo rs st un x6 x7 x8 x9)=U (.ret v Y)/\aP bR ax fuel (eF a0 (.lst (RR.map ruD)) 4 rs st un x6 x7 x8 x9)=U (.ret w Y)
 |m,fuel+1,rs,st,un,x6,x7,x8,x9,h1,h2,h3,h4,h5=>by
  obtain⟨rs4,w,g4,l4,e4,f4⟩:=Ig wf hR a0 m (fuel+1) rs st un x6 x7 x8 x9 h1 h2 h3 h4 h5
  rcases Fi wf hR (by lia) h4 un st (by lia)with⟨k,e⟩|⟨k,⟨ds,hd,e⟩|⟨rs',un',t,y6,y7,y8,y9,⟨g,hg⟩,hl,h4',e⟩⟩
  ·exact⟨_,_,⟨rs,rs,⟨_,.refl _⟩,⟨_,.refl _⟩,by lia,by lia,.inl ⟨st,rfl,rfl,k,rfl⟩,λ_=>⟨rfl,st,rfl⟩,λ_=>rfl⟩,jj (e ..),jj (e ..)⟩
  ·exact⟨_,_,⟨rs,rs,⟨_,.refl _⟩,⟨_,.refl _⟩,by lia,by lia,.inr (.inl ⟨ds,hd,rfl,rfl⟩),λz=>absurd z k,λ_=>rfl⟩,jj (e ..),jj (e ..)⟩
  ·by_cases hm:mo<=st.length
   ·exact⟨_,w,⟨rs,rs4,⟨_,.refl _⟩,g4,by lia,l4,.inr (.inr ⟨⟨st,rfl⟩,f4⟩),λz=>absurd z k,λ_=>rfl⟩,jj ((e ..).trans (if_pos hm)),e4⟩
   ·cases m with
    |zero=>lia
    |succ m=>
     obtain⟨v,w,⟨rs1,rs5,⟨h,hh⟩,i2,i3,i4,i5,_⟩,e1,e2⟩:=two a0 mo hmo m fuel rs' (st++[t]) un' y6 y7 y8 y9 (by simp;lia) (by lia) (by lia) h4' (by simp;lia)
     exact⟨v,w,⟨rs1,rs5,⟨_,hg.comp hh⟩,i2,i3,i4,i5,λz=>absurd z k,λz=>absurd z hm⟩,by rw[tu ((e ..).trans (if_neg hm))];exact e1,by rw[tu ((e ..).trans (if_neg (by lia)))];exact e2⟩
theorem A7 {rs:List Row}(hrs:rs.length<=6) (h4:∀q∈rs,q.2.length<=4) {mo:Int}(hmo:mo<=4):∃v w:D,Two RR mo rs 0 v w/\f_full [.lst (rs.map rowD),.lst (RR.map ruD),.int mo]=U (v,Y)/\f_full [.lst (rs.map rowD),.lst (RR.map ruD),.int 4]=U (w,Y):=by
 obtain⟨un,e⟩:=wz (rs:=rs) (by lia) h4 (.lst (RR.map ruD))
 obtain⟨v,w,T,e1,e2⟩:=two wf hR (U (.lst (rs.map rowD),Y)) mo hmo 4 1000 rs [] un B B B B (by simp) (by lia) (by lia) h4 (by simp)
 exact⟨v,w,T,by rw[e,e1];rfl,by rw[e,e2];rfl⟩
end
end K61
namespace K61
open PySem L2 JP
variable[Md]
noncomputable def mx (c k:Int):Int:=((c%2147483647+40503*k*k+17*k)*48271%2147483647)*((c%2147483647+40503*k*k+17*k)*48271%2147483647%65537+3*k+1)%2147483629
theorem Hr (c k:Int):0<=mx c k:=by exact OL _ (by decide)
theorem jJ (c k:Int) (h0:0<=k) (h1:k<=1000):f__law_mixed [.int c,.int k]=U (.int (mx c k),Y):=by
 rw[ao (f:=f__law_mixed) (δ:=[U (.int c,Y),U (.int k,Y),B]) rfl rfl rfl];simp only[eK,rd_1,rd_0];rw[modI_s _ _ (by decide),mulI_s 40503 k (by lia),mulI_s (40503*k) k (by lia),addI_s,mulI_s 17 k (by lia),addI_s,mulI_s _ 48271 (by lia),modI_s _ _ (by decide),setO_s _ _ _ (by simp)]
 simp only[seqO_n,IE,ID,rd_1,rd_0];rw[modI_s _ _ (by decide),mulI_s 3 k (by lia),addI_s,addI_s,mulI_s _ _ (.inl (by lia)),modI_s _ _ (by decide)]
 rfl
theorem FK:∀n:Nat,n<26->AN (U (.str "abcdefghijklmnopqrstuvwxyz")) (U (.int n))=U (.str ⟨#[97+n]⟩):=by decide +kernel
theorem Du (a b:IX):(a++b).cps.toList=a.cps.toList++b.cps.toList:=JS
theorem Ec {a b:IX}{x y:Nat}(h:a++⟨#[x]⟩++b=a++⟨#[y]⟩++b):x=y:=by
 have:=congrArg (λs:IX=>s.cps.toList) h
 grind [Du,J0,List.append_cancel_left]
theorem Ah (c m:Int) (hm0:1<=m) (hm:m<=20):∃ws:List IX,ws.length=m.toNat/\ws.Nodup/\(∀w∈ws,w.length<=20)/\f__law_words [.int c,.int m]=U (.lst (ws.map .str),V):=by
 generalize hsz:1+c%8=sz;have at_abc:∀i:Int,0<=i->i<26->AN (U (.str "abcdefghijklmnopqrstuvwxyz")) (U (.int i))=U (.str ⟨#[97+i.toNat]⟩):=λi h0 h1=>by
  have:=FK i.toNat (by lia)
  rwa[NR h0]at this
 obtain⟨g,eg,gl,gp⟩:=uJ (ds:=iK 0 sz.toNat) (P:=λ_ y=>∃x:IX,x.length=1/\y=.str x)
  (h:=au (af 6) (λδ=>U V) cS [U (.int c,Y),B,U (.str "abcdefghijklmnopqrstuvwxyz",Y),B,B,B,B]) λd hd=>by
   obtain⟨i,hi,rfl⟩:=nt hd;have ex:=at_abc (mx c (0+(i:Int))%26) (by lia) (by lia)
   refine⟨.str ⟨#[97+(mx c (0+(i:Int))%26).toNat]⟩,?_,⟨#[97+(mx c (0+(i:Int))%26).toNat]⟩,rfl,rfl⟩
   unfold au;rw[toName_s _ _ _ (by simp)]
   simp only[bindO_s,IE,ID,rd_1,rd_0,cS,consO_s,jJ c (0+(i:Int)) (by lia) (by lia),shO_s]
   rw[modI_s _ _ (by decide),ex]
 obtain⟨ss,rfl,hss⟩:=EH (Q:=λx=>x.length=1) gl gp λd y hz=>by obtain⟨x,hx,e⟩:=hz;exact⟨x,e,hx⟩
 rw[dL,IC]at gl;have hj:=Dy "" ss (by rw[vq hss,show NZ ""=0 by rfl];lia)
 have hjl:(OZ "" ss).length=ss.length:=by rw[yh,vq hss]
 generalize OZ "" ss=stem at hj hjl;generalize hat:mx c 19%(stem.length:Int)=at';have c1:=nJ stem B (U at');have c2:=nJ stem (U (at'+1)) B;have hlim:lim=1000000:=rfl;have ecomp:aJ (au (af 6) (λδ=>U V) cQ [B,B,U (.str "abcdefghijklmnopqrstuvwxyz",Y),U (.str stem,Y),U (.int at',Y),U (.int (mx c 20),Y),B]) (iK 0 m.toNat)=U (((JA m.toNat).map λk=>oX stem B (U at')++⟨#[97+((mx c 20+(0+(k:Int)))%26).toNat]⟩++oX stem (U (at'+1)) B).map D.str):=by
  unfold iK;rw[aM (f:=λk:Nat=>D.int (0+(k:Int))) (h:=λk=>.str (oX stem B (U at')++⟨#[97+((mx c 20+(0+(k:Int)))%26).toNat]⟩++oX stem (U (at'+1)) B)) λk _=>by
   unfold au;rw[toName_s _ _ _ (by simp)]
   simp only[bindO_s,IE,ID,rd_1,rd_0,cQ,partI_s,addI_s];rw[cutSO_s _ _ _ (by lia),cutSO_s _ _ _ (by lia),modI_s _ _ (by decide),at_abc _ (by lia) (by lia),addS_s _ _ (by show _+1<=_;lia),addS_s _ _ (by rw[Mh];show _+1+_<=_;lia)]]
  rw[JK];rfl
 refine⟨(JA m.toNat).map λk=>oX stem B (U at')++⟨#[97+((mx c 20+(0+(k:Int)))%26).toNat]⟩++oX stem (U (at'+1)) B,by simp,?_,?_,?_⟩
 ·refine List.pairwise_map.mpr (List.Pairwise.imp_of_mem (R:=λa b=>a<b) (λ{a b} ha hb hab e=>?_) Pm)
  have:=Ec e;have hb':=List.mem_range.mp hb
  lia
 ·intro w hw
  obtain⟨k,_,rfl⟩:=List.mem_map.mp hw;rw[Mh,Mh];show _+1+_<=20
  lia
 ·rw[ao (f:=f__law_words) (δ:=[U (.int c,Y),U (.int m,Y),B,B,B,B,B]) rfl rfl rfl]
  have em1:∀(a d e f g:Option (D×Bool)) (x y:D),aG Y [V,Y,V,Y,Y,Y,Y] [U (x,Y),a,U (y,Y),d,e,f,g]=[U (x,Y),B,U (y,Y),B,B,B,B]:=λ_ _ _ _ _ _ _=>rfl
  have em2:∀(a b g:Option (D×Bool)) (x y z w:D),aG Y [Y,Y,V,V,V,V,Y] [a,b,U (x,Y),U (y,Y),U (z,Y),U (w,Y),g]=[B,B,U (x,Y),U (y,Y),U (z,Y),U (w,Y),B]:=λ_ _ _ _ _ _ _=>rfl
  simp only[fI];rw[setO_s _ _ _ (by simp)]
  simp only[seqO_n,IE,ID,rd_1,rd_0];rw[modI_s _ _ (by decide),addI_s,hsz,mQ sz (by lia),bindO_s,bd (by rw[dL,lim_eq];lia),em1,eg,lstLim_s,hj,setO_s _ _ _ (by simp)]
  simp only[seqO_n,IE,ID,rd_1,rd_0,consO_s,bindO_s,jJ c 19 (by lia) (by lia),shO_s]
  rw[lenS_s _ (by lia),modI_s _ _ (by lia),hat,setO_s _ _ _ (by simp)]
  simp only[seqO_n,IE,ID,rd_1,rd_0,consO_s,bindO_s,jJ c 20 (by lia) (by lia),shO_s]
  rw[setO_s _ _ _ (by simp)]
  simp only[seqO_n,IE,ID,rd_1,rd_0];rw[mQ m (by lia),bindO_s,bd (by rw[dL,lim_eq];lia),em2,ecomp,lstLim_s]
  rfl
end K61
namespace K61
open PySem L2 JP
variable[Md]
section
variable{x y:Option D}{a b:Int}
theorem zE {c k:Int}(h:x=U (.int c)) (h':y=U (.int k)) (h0:0<=k) (h1:k<=1000):shO (ae (aa x (aa y (U []))) f__law_mixed)=U (.int (mx c k)):=by subst h h';simp only[consO_s,bindO_s,jJ c k h0 h1,shO_s]
end
noncomputable abbrev tbD (t:IX×Int):D:=.tup [.str t.1,.int t.2]
structure Dr (tb:List (IX×Int)) (ns:List IX) (nu:List Int):Prop where
 tn:tb≠[]
 ta:∀t∈tb,1<=t.2/\t.2<=3
 nl:ns.length=3
 ul:nu.length=3
theorem o9 {α:Type}{f:α->D}{xs:List α}(h:xs≠[]) (k:Int):∃x∈xs,atI (xs.map f) (k%(xs.length:Int))=U (f x):=by
 have l:=List.length_pos_iff.mpr h;obtain⟨v,hv,_,e⟩:=yK (xs:=xs.map f) (i:=k%(xs.length:Int)) (OL _ (by lia)) (by rw[IC];exact Int.emod_lt_of_pos _ (by lia))
 obtain⟨x,hx,rfl⟩:=List.mem_map.mp hv;exact⟨x,hx,e⟩
theorem qg {α:Type}{f:α->D}{xs:List α}{i:Int}(h0:0<=i) (h1:i<xs.length):∃x∈xs,atI (xs.map f) i=U (f x):=by
 obtain⟨v,hv,_,e⟩:=yK (xs:=xs.map f) h0 (by rw[IC];exact h1)
 obtain⟨x,hx,rfl⟩:=List.mem_map.mp hv;exact⟨x,hx,e⟩
theorem Am {ns:List IX}(hn:ns≠[]) {nu:List Int}(hu:nu≠[]) (k:Int):∃e:Ce,f__law_drawn [.int k,.lst (ns.map D.str),.lst (nu.map D.int)]=U (ceD e,Y):=by
 have l1:=List.length_pos_iff.mpr hn;have l2:=List.length_pos_iff.mpr hu;obtain⟨w,_,ew⟩:=o9 (f:=D.str) hn (k / 2);obtain⟨n,_,en⟩:=o9 (f:=D.int) hu (k / 2);rw[ao (f:=f__law_drawn) (δ:=[U (.int k,Y),U (.lst (ns.map D.str),Y),U (.lst (nu.map D.int),Y)]) rfl rfl rfl];unfold fz;rw[eqG (gP (rfl:rd Y 0 _=U (.int k)) rfl (by decide)) rfl]
 cases decide (k%2=1)with
 |true=>
  exact⟨.bk n,stR rfl (rE rfl (ixG rfl (gP (oE rfl rfl (by decide)) (zu rfl) (by rw[IC];lia)) (by rw[IC];exact en)))⟩
 |false=>exact⟨.nm w,stI rfl (rO (rE rfl (ixG rfl (gP (oE rfl rfl (by decide)) (zu rfl) (by rw[IC];lia)) (by rw[IC];exact ew))))⟩
theorem ww (c:Int):∃nu:List Int,nu.length=3/\f__law_numbers [.int c,.int 3]=U (.lst (nu.map D.int),V):=by
 rw[ao (f:=f__law_numbers) (δ:=[U (.int c,Y),U (.int 3,Y),B]) rfl rfl rfl];unfold cV;rw[eqG (gP (rfl:rd Y 0 _=U (.int c)) rfl (by decide)) rfl]
 cases decide (c%3=0)with
 |true=>exact⟨[0,1,2],rfl,rfl⟩
 |false=>
  obtain⟨nu,h1,_,h3⟩:=oU (n:=3) (g:=D.int) (P:=λ_=>True) (F:=au (af 2) (λδ=>U V) dZ [U (.int c,Y),B,B]) λk hk=>by
   exact⟨_,trivial,itG (gP (lJ (gP (zE rfl rfl (by decide) (by decide)) rfl (by decide)) (mulI_s 7 (0+(k:Int)) (by lia))) rfl (by decide))⟩
  exact⟨nu,h1,stI rfl (rF (lO (mQ 3 (by decide)) (by trivial) rfl h3 (by simp[h1])))⟩
end K61
namespace K61
open PySem L2 JP
variable[Md]
theorem Ea (xs:List D) (x:D) (hl:xs.length<=1000):atI (xs++[x]) (-1)=U x:=by
 unfold atI ixN;rw[if_neg (by decide),if_pos (by simp;lia),Jy,LD,show(-1+((xs.length+1:Nat):Int)).toNat=xs.length by lia]
 simp
theorem Cu (r q:Row):neO (U (rowD r)) (U (rowD q))=U (!decide (r=q)):=by
 rw[CJ _ _ (by unfold ok2;rw[uj r 13,uj q 13];rfl)]
 congr 2;exact decide_eq_decide.mpr ⟨um,λh=>by rw[h]⟩
theorem yv (a0:Option (D×Bool)):∀(qs fs:List Row) (x2:Option (D×Bool)),fs.length+qs.length<=100->∃(fs':List Row) (y2:Option (D×Bool)),(∀r,r∈fs'↔r∈fs\/r∈qs)/\fs'.length<=fs.length+qs.length/\
  am (λd δ=>ae ((af 2) d δ) aK) (qs.map rowD) [a0,U (.lst (fs.map rowD),V),x2]=U (.next [a0,U (.lst (fs'.map rowD),V),y2])
 |[],fs,x2,_=>⟨fs,x2,λr=>by simp,by simp,by simp[am]⟩
 |q::qs,fs,x2,hl=>by
  rw[IU]at hl;have r1:∀x2:Option (D×Bool),rd V 1 [a0,U (.lst (fs.map rowD),V),x2]=U (.lst (fs.map rowD)):=λ_=>rfl
  have go:∀fs1:List Row,(∀r,r∈fs1↔r∈fs\/r=q)->fs1.length<=fs.length+1->ae ((af 2) (rowD q) [a0,U (.lst (fs.map rowD),V),x2]) aK=U (.next [a0,U (.lst (fs1.map rowD),V),U (rowD q,Y)])->∃(fs':List Row) (y2:Option (D×Bool)),(∀r,r∈fs'↔r∈fs\/r∈q::qs)/\fs'.length<=fs.length+(q::qs).length/\
    am (λd δ=>ae ((af 2) d δ) aK) ((q::qs).map rowD) [a0,U (.lst (fs.map rowD),V),x2]=U (.next [a0,U (.lst (fs'.map rowD),V),y2]):=λfs1 h1 h2 e=>by
   obtain⟨fs',y2,g1,g2,e2⟩:=yv a0 qs fs1 (U (rowD q,Y)) (by lia)
   refine⟨fs',y2,λr=>by rw[g1,h1,Jo,or_assoc],by rw[IU];lia,?_⟩
   rw[IG];unfold am;rw[e];exact e2
  have ap:jA 1 (U (rowD q)) [a0,U (.lst (fs.map rowD),V),U (rowD q,Y)]=U (.next [a0,U (.lst ((fs++[q]).map rowD),V),U (rowD q,Y)]):=by
   rw[eR (ds:=fs.map rowD) _ rfl (by rw[IC,lim_eq];lia)]
   simp
  have ng:zF (U (.int 1))=U (.int (-1)):=rfl
  rcases List.eq_nil_or_concat fs with rfl|⟨f0,l,rfl⟩
  ·refine go [q] (λr=>by simp) (by simp) ?_
   rw[toName_s _ _ _ (by simp)]
   simp only[bindO_s,IE,ID,aK,rd_1,rd_0,rd_0o,lenL_l,LU,JZ,eqO_int]
   simpa using ap
  ·rw[List.concat_eq_append]at*
   have hne:eqO (U (.int (((f0++[l]).map rowD).length:Int))) (U (.int 0))=U Y:=by
    rw[eqO_int,decide_eq_false (by simp;lia)]
   have hlast:atI ((f0++[l]).map rowD) (-1)=U (rowD l):=by
    rw[Jd];exact Ea (f0.map rowD) (rowD l) (by simp at hl⊢;lia)
   by_cases h:l=q
   ·subst h
    refine go (f0++[l]) (λr=>?_) (by lia) ?_
    ·constructor
     ·exact .inl
     ·rintro(h1|h1)
      ·exact h1
      ·rw[h1];simp
    ·rw[toName_s _ _ _ (by simp)]
     simp only[bindO_s,IE,ID,aK,rd_1,rd_0,rd_0o,lenL_l,hne,ng,ixO_l,hlast,Cu,decide_true,KG,orO_f,ifO_f,nextO_s]
   ·refine go (f0++[l]++[q]) (λr=>by simp[or_assoc]) (by simp) ?_
    rw[toName_s _ _ _ (by simp)]
    simp only[bindO_s,IE,ID,aK,rd_1,rd_0,rd_0o,lenL_l,hne,ng,ixO_l,hlast,Cu,h,decide_false,Ll,orO_f,ifO_t];exact ap
theorem Af (rs:List Row) (h:rs.length<=60):∃fs:List Row,(∀r,r∈fs↔r∈rs)/\fs.length<=rs.length/\f__law_stand [.lst (rs.map rowD)]=U (.lst (fs.map rowD),V):=by
 obtain⟨ss,pss,es⟩:=bO (ay (rs.map rowD));have hsl:=pss.length_eq;obtain⟨fs,y2,h1,h2,h3⟩:=yv (U (.lst (rs.map rowD),Y)) ss [] B (by simp;lia)
 refine⟨fs,λr=>by rw[h1,<-pss.mem_iff];simp,by simp at h2;lia,?_⟩
 rw[ao (f:=f__law_stand) (δ:=[U (.lst (rs.map rowD),Y),B,B]) rfl rfl rfl];have hso:eB .ts (U (.lst (rs.map rowD)))=U (.lst (ss.map rowD)):=by
  rw[fQ (uo rs) (.inr (Eo rs)),es]
 simp only[eI,rd_0];rw[lstO_s [] (by simp),setF_s _ _ _ (by simp)]
 simp only[seqO_n,IE,ID,rd_0,hso,lstL_s,bindO_s];rw[LU]at h3;rw[h3];simp only[seqO_n,rdOwn_1,rdOwn_0,retF_s,outF_r]
theorem yd {x y:Option D}{c m:Int}(h:x=U (.int c)) (h':y=U (.int m)) (hm0:1<=m) (hm:m<=20):∃ws:List IX,ws.length=m.toNat/\frO (ae (aa x (aa y (U []))) f__law_words)=U (.lst (ws.map .str)):=by
 subst h h';obtain⟨ws,h1,_,_,e⟩:=Ah c m hm0 hm;exact⟨ws,h1,by simp only[consO_s,bindO_s,e];rfl⟩
theorem yf (c:Int):∃tb:List (IX×Int),tb≠[]/\(∀t∈tb,1<=t.2/\t.2<=3)/\f__law_tables [.int c,.int 3]=U (.lst (tb.map tbD),V):=by
 rw[ao (f:=f__law_tables) (δ:=[U (.int c,Y),U (.int 3,Y),B,B]) rfl rfl rfl];obtain⟨ws,hw,ew⟩:=yd (x:=U (.int c)) (y:=U (.int 3)) rfl rfl (by decide) (by decide)
 have hn:(1+c / 8%3).toNat<=3:=by lia
 obtain⟨tb,h1,h2,h3⟩:=oU (n:=(1+c / 8%3).toNat) (g:=tbD) (P:=λt=>1<=t.2/\t.2<=3) (F:=au (af 3) (λδ=>U V) fJ [U (.int c,Y),U (.int 3,Y),U (.lst (ws.map .str),Y),B]) λk hk=>by
  have hk':(0:Int)+(k:Int)<ws.length:=by rw[hw];show _<((3:Nat):Int);lia
  obtain⟨w,_,e⟩:=qg (f:=D.str) (xs:=ws) (i:=0+(k:Int)) (by lia) hk'
  exact⟨(w,1+mx c (40+(0+(k:Int)))%3),by have:=Hr c (40+(0+(k:Int)));lia,itG (rE (ixG rfl rfl e) (lJ rfl (gP (zE rfl (lJ rfl rfl) (by lia) (by lia)) rfl (by decide))))⟩
 refine⟨tb,λz=>?_,h2,stO ew (rF (lO (ds:=iK 0 (1+c / 8%3).toNat) ?_ (by rw[dL];lia) rfl h3 (by rw[IC];lia)))⟩
 ·rw[z]at h1;simp at h1;lia
 ·exact G2 (lJ rfl (gP (oE rfl rfl (by decide)) rfl (by decide))) (by lia)
section
variable{tb:List (IX×Int)}{ns:List IX}{nu:List Int}(PY:Dr tb ns nu)
include PY
theorem Dr.nn:ns≠[]:=λz=>by have:=PY.nl;rw[z]at this;cases this
theorem Dr.un:nu≠[]:=λz=>by have:=PY.ul;rw[z]at this;cases this
theorem FN {x y z:Option D}{k:Int}(h:x=U (.int k)) (h':y=U (.lst (ns.map .str))) (h2:z=U (.lst (nu.map .int))):∃e:Ce,shO (ae (aa x (aa y (aa z (U [])))) f__law_drawn)=U (ceD e):=by
 subst h h' h2;obtain⟨e,he⟩:=Am PY.nn PY.un k;exact⟨e,by simp only[consO_s,bindO_s,he,shO_s]⟩
theorem FS (c:Int):∃r:Row,r.2.length<=4/\f__law_row [.int c,.lst (tb.map tbD),.lst (ns.map .str),.lst (nu.map .int)]=U (rowD r,Y):=by
 rw[ao (f:=f__law_row) (δ:=[U (.int c,Y),U (.lst (tb.map tbD),Y),U (.lst (ns.map .str),Y),U (.lst (nu.map .int),Y),B,B,B,B]) rfl rfl rfl];obtain⟨t,ht,et⟩:=o9 (f:=tbD) PY.tn (mx c 1);obtain⟨t1,t2⟩:=PY.ta t ht;have l:=List.length_pos_iff.mpr PY.tn;obtain⟨cs,h1,_,h3⟩:=oU (n:=t.2.toNat) (g:=ceD) (P:=λ_=>True) (F:=au (af 7) (λδ=>U V) ja [U (.int c,Y),B,U (.lst (ns.map .str),Y),U (.lst (nu.map .int),Y),B,B,B,B]) λk hk=>by
  obtain⟨e,he⟩:=FN PY (x:=shO (ae (aa (U (.int c)) (aa (bY (U (.int 2)) (U (.int (0+(k:Int))))) (U []))) f__law_mixed)) (zE rfl (lJ rfl rfl) (by lia) (by lia)) rfl rfl
  exact⟨e,trivial,itG he⟩
 refine⟨(t.1,cs),by show cs.length<=4;lia,stO (gP (zE rfl rfl (by decide) (by decide)) (zu rfl) (by rw[IC];lia)) (stO (d:=.int t.2) ?_ (stF (lO (mQ t.2 (by lia)) (by rw[dL];lia) rfl h3 (by rw[IC];lia)) (rO (rE (a:=.str t.1) ?_ ?_))))⟩
 ·rw[IC];exact(ixA (ixG (d:=tbD t) rfl rfl et)).2
 ·rw[IC];exact(ixA (ixG (d:=tbD t) rfl rfl et)).1
 ·exact tupleO_l _
end
end K61
namespace K61
open PySem L2 JP
variable[Md]
theorem v7 (rs:List Row):D.flats (rs.map rowD)=V:=by
 rw[D.flats_all,IW];intro d hd;obtain⟨r,_,rfl⟩:=List.mem_map.mp hd;have:D.flats (r.2.map ceD)=V:=by
  rw[D.flats_all,IW];intro d hd;obtain⟨c,_,rfl⟩:=List.mem_map.mp hd;exact sF c
 simp[rowD,D.flat,D.flats,this]
theorem GT {x:Option D}{rs:List Row}(h:x=U (.lst (rs.map rowD))) (hl:rs.length<=60):∃fs:List Row,(∀r,r∈fs↔r∈rs)/\fs.length<=rs.length/\frO (ae (aa x (U [])) f__law_stand)=U (.lst (fs.map rowD))/\flO (ae (aa x (U [])) f__law_stand)=U (.lst (fs.map rowD)):=by
 subst h;obtain⟨fs,h1,h2,e⟩:=Af rs hl;refine⟨fs,h1,h2,?_,?_⟩
 ·simp_all
 simp[consO_s,bindO_s,e,flO,v7,if_true]
end K61
namespace K61
open PySem L2 JP
variable[Md]
section
variable{tb:List (IX×Int)}{ns:List IX}{nu:List Int}(PY:Dr tb ns nu)
include PY
theorem Dj (k:Int) {s:IX}(s1:1<=s.length) (s2:s.length<=100):∃t:Te,f__law_term [.int k,.str s,.lst (ns.map .str)]=U (teD t,Y):=by
 have l1:=List.length_pos_iff.mpr PY.nn;obtain⟨w,_,ew⟩:=o9 (f:=D.str) PY.nn (k / 4);have hl:lim=1000000:=rfl;obtain⟨z,_,ez⟩:=Dd s (k / 4%(s.length:Int)) (by lia) (OL _ (by lia)) (Int.emod_lt_of_pos _ (by lia))
 rw[ao (f:=f__law_term) (δ:=[U (.int k,Y),U (.str s,Y),U (.lst (ns.map D.str),Y)]) rfl rfl rfl];unfold gN;rw[eqG (gP (rfl:rd Y 0 _=U (.int k)) rfl (by decide)) rfl]
 cases decide (k%4=0)with
 |true=>exact⟨.nm w,stR rfl (rE rfl (ixG rfl (gP (oE rfl rfl (by decide)) (zu rfl) (by rw[IC];lia)) (by rw[IC];exact ew)))⟩
 |false=>
  refine⟨.any z,stI rfl (rO (rE (b:=.str z) rfl ?_))⟩
  show AN (U (.str s)) (bW (gO (U (.int k)) (U (.int 4))) (EL (U (.str s))))=_;rw[gP (oE rfl rfl (by decide)) (lenS_s s (by lia)) (by lia)]
  exact ez
theorem sg (c st:Int) (h0:0<=st) (h1:st<=300) (m:Nat) (hm:m<=2) {s:IX}(s1:1<=s.length) (s2:s.length<=100):∃ps:List Pat,ps.length=m/\(∀p∈ps,p.2.length<=4)/\f__law_patterns [.int c,.int st,.int m,.lst (tb.map tbD),.str s,.lst (ns.map .str)]=U (.lst (ps.map az),V):=by
 rw[ao (f:=f__law_patterns) (δ:=[U (.int c,Y),U (.int st,Y),U (.int m,Y),U (.lst (tb.map tbD),Y),U (.str s,Y),U (.lst (ns.map .str),Y),B,B,B,B,B]) rfl rfl rfl];have l:=List.length_pos_iff.mpr PY.tn;obtain⟨ps,⟨x7,x8,x9,x10⟩,p1,p2,e⟩:=vm (γ:=Option (D×Bool)×Option (D×Bool)×Option (D×Bool)×Option (D×Bool)) (n:=m) (P:=λp:Pat=>p.2.length<=4) (body:=λd δ=>ae ((af 7) d δ) dn) (y:=(B,B,B,B))
  (E:=λacc y=>[U (.int c,Y),U (.int st,Y),U (.int m,Y),U (.lst (tb.map tbD),Y),U (.str s,Y),U (.lst (ns.map .str),Y),U (.lst (acc.map az),V),y.1,y.2.1,y.2.2.1,y.2.2.2]) (by lia) λk hk acc ⟨x7,x8,x9,x10⟩ ha=>by
   obtain⟨t,ht,et⟩:=o9 (f:=tbD) PY.tn (mx c (st+10*(0+(k:Int))));obtain⟨t1,t2⟩:=PY.ta t ht;obtain⟨ts,y10,q1,_,e⟩:=vm (γ:=Option (D×Bool)) (n:=t.2.toNat) (P:=λ_:Te=>True) (body:=λd δ=>ae ((af 10) d δ) dt) (y:=x10)
    (E:=λts y=>[U (.int c,Y),U (.int st,Y),U (.int m,Y),U (.lst (tb.map tbD),Y),U (.str s,Y),U (.lst (ns.map .str),Y),U (.lst (acc.map az),V),U (.int (0+(k:Int)),Y),U (.int (mx c (st+10*(0+(k:Int)))%(tb.length:Int)),Y),U (.lst (ts.map teD),V),y]) (by lia) λj hj ts y hts=>by
     obtain⟨t',e⟩:=Dj PY (mx c (st+10*(0+(k:Int))+1+(0+(j:Int)))) s1 s2;refine⟨t',U (.int (0+(j:Int)),Y),trivial,?_⟩
     show jA 9 (shO (ae (aa (shO (ae (aa (U (.int c)) (aa (bY (bY (bY (U (.int st)) (uP (U (.int 10)) (U (.int (0+(k:Int)))))) (U (.int 1))) (U (.int (0+(j:Int))))) (U []))) f__law_mixed)) (aa (U (.str s)) (aa (U (.lst (ns.map .str))) (U [])))) f__law_term)) _=_;rw[zE rfl (lJ (lJ (lJ rfl (mulI_s 10 _ (by lia))) rfl) rfl) (by lia) (by lia)]
     simp only[consO_s,bindO_s,e,shO_s];rw[eR (ds:=ts.map teD) _ rfl (by simp;lia),Jd];rfl
   refine⟨(t.1,ts),(U (.int (0+(k:Int)),Y),U (.int (mx c (st+10*(0+(k:Int)))%(tb.length:Int)),Y),U (.lst (ts.map teD),Y),y10),by show ts.length<=4;lia,?_⟩
   show ak (aH 8 (bW (shO (ae (aa (U (.int c)) (aa (bY (U (.int st)) (uP (U (.int 10)) (U (.int (0+(k:Int)))))) (U []))) f__law_mixed)) (cE (U (.lst (tb.map tbD))))) _) _=_;rw[gP (zE rfl (lJ rfl (mulI_s 10 _ (by lia))) (by lia) (by lia)) (zu rfl) (by rw[IC];lia),IC]
   show ak (ae (rD (ixO (ixO (U (.lst (tb.map tbD))) (U (.int (mx c (st+10*(0+(k:Int)))%(tb.length:Int))))) (U (.int 1)))) _) _=_;rw[G2 (ixA (ixG (d:=tbD t) rfl rfl et)).2 (by lia),bindO_s]
   refine(congrArg (λz=>ak z _) e).trans ?_
   show jA 6 (bF (aa (ixO (ixO (U (.lst (tb.map tbD))) (U (.int (mx c (st+10*(0+(k:Int)))%(tb.length:Int))))) (U (.int 0))) (aa (U (.tup (ts.map teD))) (U [])))) _=_;rw[rE (ixA (ixG (d:=tbD t) rfl rfl et)).1 rfl,eR (ds:=acc.map az) _ rfl (by simp;lia),Jd];rfl
 exact⟨ps,p1,p2,stF (d:=.lst []) (lstO_s _ (by simp)) (stN (bE (G2 rfl (by lia)) e) (rF rfl))⟩
end
theorem F9 (a0 a2 a3:Option (D×Bool)):∀(ts:List Te) (acc:List IX) (x4:Option (D×Bool)),acc.Nodup->acc.length+ts.length<=100->∃(acc':List IX) (y4:Option (D×Bool)),acc'.Nodup/\(∀l,l∈acc'↔l∈acc\/l∈ans ts)/\acc'.length<=acc.length+ts.length/\
  am (λd δ=>ae ((af 4) d δ) aS) (ts.map teD) [a0,U (.lst (acc.map .str),V),a2,a3,x4]=U (.next [a0,U (.lst (acc'.map .str),V),a2,a3,y4])
 |[],acc,x4,nd,_=>⟨acc,x4,nd,by simp[ans],by simp,by rfl⟩
 |t::ts,acc,x4,nd,hl=>by
  rw[IU]at hl;have go:∀acc1:List IX,acc1.Nodup->(∀l,l∈acc1↔l∈acc\/l∈ans [t])->acc1.length<=acc.length+1->ae ((af 4) (teD t) [a0,U (.lst (acc.map .str),V),a2,a3,x4]) aS=U (.next [a0,U (.lst (acc1.map .str),V),a2,a3,U (teD t,Y)])->∃(acc':List IX) (y4:Option (D×Bool)),acc'.Nodup/\(∀l,l∈acc'↔l∈acc\/l∈ans (t::ts))/\acc'.length<=acc.length+(t::ts).length/\
    am (λd δ=>ae ((af 4) d δ) aS) ((t::ts).map teD) [a0,U (.lst (acc.map .str),V),a2,a3,x4]=U (.next [a0,U (.lst (acc'.map .str),V),a2,a3,y4]):=λacc1 n1 m1 l1 e=>by
   obtain⟨acc',y4,h1,h2,h3,h4⟩:=F9 a0 a2 a3 ts acc1 (U (teD t,Y)) n1 (by lia)
   refine⟨acc',y4,h1,λl=>?_,by simp;lia,?_⟩
   ·rw[h2,m1,or_assoc]
    cases t<;>simp[ans]
   ·rw[IG];unfold am;rw[e];exact h4
  cases t with
  |nm w=>
   refine go acc nd (λl=>by simp[ans]) (by lia) ?_
   rfl
  |any l=>
   have e1:ae ((af 4) (teD (.any l)) [a0,U (.lst (acc.map .str),V),a2,a3,x4]) aS=ifO (U (!decide (l∈acc))) (jA 1 (U (.str l)) [a0,U (.lst (acc.map .str),V),a2,a3,U (teD (.any l),Y)]) (nextO [a0,U (.lst (acc.map .str),V),a2,a3,U (teD (.any l),Y)]):=by
    show ifO (mN (eqO (U (.str "any")) (U (.str "any"))) (bC (U (.str l)) (U (.lst (acc.map .str))))) (jA 1 (U (.str l)) [a0,U (.lst (acc.map .str),V),a2,a3,U (teD (.any l),Y)]) (nextO [a0,U (.lst (acc.map .str),V),a2,a3,U (teD (.any l),Y)])=_;rw[aD,decide_eq_true rfl,xu];rfl
   by_cases h:l∈acc
   ·exact go acc nd (λx=>⟨.inl,λz=>z.elim id λz=>by simp_all [ans]⟩) (by lia) (by rw[e1,decide_eq_true h];rfl)
   ·refine go (acc++[l]) (List.nodup_append.mpr ⟨nd,by simp,λx hx y hy e=>h (by simp_all)⟩) (λx=>by simp[ans]) (by simp) ?_
    rw[e1,decide_eq_false h,Ll,ifO_t,eR (ds:=acc.map .str) _ rfl (by simp;lia),Jd];rfl
theorem B9 (a0:Option (D×Bool)):∀(ps:List Pat) (acc:List IX) (x2 x3 x4:Option (D×Bool)),(∀p∈ps,p.2.length<=4)->acc.Nodup->acc.length+4*ps.length<=100->∃(acc':List IX) (y2 y3 y4:Option (D×Bool)),acc'.Nodup/\(∀l,l∈acc'↔l∈acc\/l∈aX ps)/\acc'.length<=acc.length+4*ps.length/\
  am (λd δ=>ae ((aL (ah (af 2) (ah (af 3) (toNil)))) d δ) b7) (ps.map az) [a0,U (.lst (acc.map .str),V),x2,x3,x4]=U (.next [a0,U (.lst (acc'.map .str),V),y2,y3,y4])
 |[],acc,x2,x3,x4,_,nd,_=>⟨acc,x2,x3,x4,nd,by simp[aX],by simp,by rfl⟩
 |p::ps,acc,x2,x3,x4,h4,nd,hl=>by
  rw[IU]at hl;have:=h4 p (.head _);obtain⟨acc1,y4,n1,m1,l1,e1⟩:=F9 a0 (U (.str p.1,Y)) (U (.tup (p.2.map teD),Y)) p.2 acc x4 nd (by lia)
  obtain⟨acc',z2,z3,z4,h1,h2,h3,h5⟩:=B9 a0 ps acc1 (U (.str p.1,Y)) (U (.tup (p.2.map teD),Y)) y4 (λq hq=>h4 q (.tail _ hq)) n1 (by lia)
  refine⟨acc',z2,z3,z4,h1,λl=>by rw[h2,m1,or_assoc];simp[aX],by simp;lia,?_⟩
  rw[IG];unfold am;have:ae ((aL (ah (af 2) (ah (af 3) (toNil)))) (az p) [a0,U (.lst (acc.map .str),V),x2,x3,x4]) b7=U (.next [a0,U (.lst (acc1.map .str),V),U (.str p.1,Y),U (.tup (p.2.map teD),Y),y4]):=e1;rw[this];exact h5
theorem yT (us:List IX):∃vs:List IX,vs.Perm us/\eB .st (U (.lst (us.map .str)))=U (.lst (vs.map .str)):=by
 obtain⟨vs,p,e⟩:=bO (ay (us.map D.str));refine⟨vs,p,?_⟩
 rw[fQ,e]
 ·exact uv us
 ·exact .inr (dR (λ_=>rfl) us)
theorem zZ {ps:List Pat}(hp:ps.length<=2) (h4:∀p∈ps,p.2.length<=4):∃us:List IX,us.length<=8/\(∀l,l∈us↔l∈aX ps)/\f__law_letters [.lst (ps.map az)]=U (.lst (us.map .str),V):=by
 obtain⟨us,y2,y3,y4,h1,h2,h3,e⟩:=B9 (U (.lst (ps.map az),Y)) ps [] B B B h4 Kc (by simp;lia)
 obtain⟨vs,p,ev⟩:=yT us;exact⟨vs,by rw[p.length_eq];simp at h3;lia,λl=>by rw[p.mem_iff,h2];simp,stF (d:=.lst []) (lstO_s _ (by simp)) (stN e (rF ev))⟩
theorem Ip:∀f:Nat,f<21->(oX "ABCDEFGHIJKLMNOPQRSTUVWXYZ" (U (f:Int)) (U ((f:Int)+5))).length=5/\(oX (oX "ABCDEFGHIJKLMNOPQRSTUVWXYZ" (U (f:Int)) (U ((f:Int)+5))) (U 2) B).length=3:=by decide +kernel
theorem Ir:∀f:Nat,f<24->(oX "ABCDEFGHIJKLMNOPQRSTUVWXYZ" (U (f:Int)) (U ((f:Int)+3))).length=3:=by decide +kernel
end K61
namespace K61
open PySem L2 JP
variable[Md]
theorem H4 {x:Option D}{ps:List Pat}(h:x=U (.lst (ps.map az))) (hp:ps.length<=2) (h4:∀p∈ps,p.2.length<=4):∃us:List IX,us.length<=8/\(∀l,l∈us↔l∈aX ps)/\frO (ae (aa x (U [])) f__law_letters)=U (.lst (us.map .str)):=by
 subst h;obtain⟨us,h1,h2,e⟩:=zZ hp h4;exact⟨us,h1,h2,by simp_all⟩
theorem HZ {x:Option D}{l u:Option (Option Int)}{z:IX}{a b:Option Int}(h:x=U (.str z)) (h1:l=U a) (h2:u=U b) (hz:z.length<=100):iZ x l u=U (.str (oX z a b)):=by subst h h1 h2;exact cutSO_s _ _ _ (by simp;lia)
theorem ph {x:Option D}{i:Int}(h:x=U (.int i)):cx x=U (U i):=by subst h;rfl
section
variable{tb:List (IX×Int)}{ns:List IX}{nu:List Int}(PY:Dr tb ns nu)
include PY
theorem HU {x y z u v w:Option D}{c st:Int}{m:Nat}{s:IX}(h:x=U (.int c)) (e1:y=U (.int st)) (e2:z=U (.int m)) (e3:u=U (.lst (tb.map tbD))) (e4:v=U (.str s)) (e5:w=U (.lst (ns.map .str))) (h0:0<=st) (h1:st<=300) (hm:m<=2) (s1:1<=s.length) (s2:s.length<=100):∃ps:List Pat,ps.length=m/\(∀p∈ps,p.2.length<=4)/\frO (ae (aa x (aa y (aa z (aa u (aa v (aa w (U []))))))) f__law_patterns)=U (.lst (ps.map az)):=by
 subst h e1 e2 e3 e4 e5;obtain⟨ps,p1,p2,e⟩:=sg PY c st h0 h1 m hm s1 s2;exact⟨ps,p1,p2,by simp_all⟩
theorem CO (c:Int):∃R:Ru,Wf R/\f__law_rule [.int c,.lst (tb.map tbD),.lst (ns.map .str)]=U (ruD R,Y):=by
 obtain⟨f,hf,ef⟩:∃f:Nat,f<21/\mx c 99%21=(f:Int):=⟨(mx c 99%21).toNat,by lia,by lia⟩
 obtain⟨a5,a3⟩:=Ip f hf;have L26:NZ "ABCDEFGHIJKLMNOPQRSTUVWXYZ"=26:=by decide +kernel
 generalize hs:oX "ABCDEFGHIJKLMNOPQRSTUVWXYZ" (U (f:Int)) (U ((f:Int)+5))=s at a5 a3;have e0:bW (shO (ae (aa (U (.int c)) (aa (U (.int 99)) (U []))) f__law_mixed)) (U (.int 21))=U (.int (f:Int)):=ef▸gP (zE rfl rfl (by decide) (by decide)) rfl (by decide)
 have e1:iZ (U (.str "ABCDEFGHIJKLMNOPQRSTUVWXYZ")) (cx (U (.int (f:Int)))) (cx (bY (U (.int (f:Int))) (U (.int 5))))=U (.str s):=hs▸HZ rfl (ph rfl) (ph (lJ rfl rfl)) (by lia)
 have e2:iZ (U (.str s)) (cx (U (.int 2))) (U B)=U (.str (oX s (U 2) B)):=HZ rfl rfl rfl (by lia)
 obtain⟨ps,p1,p2,ep⟩:=HU PY (x:=U (.int c)) (y:=U (.int 100)) (z:=bY (U (.int 1)) (bW (U (.int c)) (U (.int 2)))) (u:=U (.lst (tb.map tbD))) (v:=iZ (U (.str s)) (cx (U (.int 2))) (U B)) (w:=U (.lst (ns.map .str))) (m:=(1+c%2).toNat) rfl rfl (by rw[lJ rfl (gP rfl rfl (by decide))];congr 2;lia) rfl e2 rfl (by decide) (by decide) (by lia) (by lia) (by lia)
 obtain⟨us,u1,u2,eu⟩:=H4 (x:=U (.lst (ps.map az))) rfl (by lia) p2
 cases hc:decide (c / 2%3=0)with
 |false=>
  obtain⟨qs,q1,q2,eq⟩:=HU PY (x:=U (.int c)) (y:=U (.int 140)) (z:=bY (U (.int 1)) (bW (gO (U (.int c)) (U (.int 6))) (U (.int 2)))) (u:=U (.lst (tb.map tbD))) (v:=U (.str s)) (w:=U (.lst (ns.map .str))) (m:=(1+c / 6%2).toNat) rfl rfl (by rw[lJ rfl (gP (oE rfl rfl (by decide)) rfl (by decide))];congr 2;lia) rfl rfl rfl (by decide) (by decide) (by lia) (by lia) (by lia)
  exact⟨.must ps qs,⟨by lia,by lia,p2,q2⟩,stO e0 (stO e1 (stO ep (stO eu (stI ((eqG (gP (oE rfl rfl (by decide)) rfl (by decide)) rfl).trans (congrArg U hc)) (rO (Ia rfl rfl eq))))))⟩
 |true=>
  have l3:(ns.length:Int)=3:=by rw[PY.nl];rfl
  obtain⟨w1,_,ew1⟩:=qg (f:=D.str) (xs:=ns) (i:=c / 6%3) (by lia) (by lia)
  obtain⟨w2,_,ew2⟩:=qg (f:=D.str) (xs:=ns) (i:=(c / 6+1)%3) (by lia) (by lia)
  obtain⟨T,hT⟩:∃T:List Te,T=us.map Te.any++[Te.nm w1,Te.nm w2]:=⟨_,rfl⟩;have hne:T≠[]:=by rw[hT];simp
  have hTl:=List.length_pos_iff.mpr hne;obtain⟨a,ha,ea⟩:=o9 (f:=teD) hne (c / 24);obtain⟨b,hb,eb⟩:=o9 (f:=teD) hne (c / 24+1+c / 120%3);have hw:∀t∈T,∀l,t=.any l->l∈aX ps:=λt ht l e=>by
   simp_all
  refine⟨.same ps a b,⟨by lia,p2,λl hl=>?_⟩,stO e0 (stO e1 (stO ep (stO eu (stT ((eqG (gP (oE rfl rfl (by decide)) rfl (by decide)) rfl).trans (congrArg U hc)) ?_))))⟩
  ·rcases Gi hl with e|e
   ·exact hw a ha l e
   ·exact hw b hb l e
  ·have ec:aJ (au (af 8) (λδ=>U V) ic [B,B,B,B,B,B,B,B,B]) (us.map D.str)=U (us.map λl=>teD (.any l)):=aM λl _=>itG (rE rfl rfl)
   refine sqF (lO (ds:=us.map D.str) rfl (by simp;lia) rfl ec (by simp;lia)) (sqO (d:=.lst (T.map teD)) ?_ (rtG (Ie rfl rfl (d:=teD b) (c:=teD a) ?_ ?_)))
   ·show pY (U (.lst _)) (cX (aa (bF (aa (U (.str "name")) (aa (ixO (U (.lst (ns.map .str))) (bW (gO (U (.int c)) (U (.int 6))) (U (.int 3)))) (U [])))) (aa (bF (aa (U (.str "name")) (aa (ixO (U (.lst (ns.map .str))) (bW (bY (gO (U (.int c)) (U (.int 6))) (U (.int 1))) (U (.int 3)))) (U [])))) (U []))))=_
    rw[rE rfl (ixG rfl (gP (oE rfl rfl (by decide)) rfl (by decide)) ew1),rE rfl (ixG rfl (gP (lJ (oE rfl rfl (by decide)) rfl) rfl (by decide)) ew2)]
    simp only[consO_s];rw[lstO_s _ (by simp),catO_s _ _ (by simp;lia),hT]
    simp[teD]
   ·exact ixG rfl (gP (oE rfl rfl (by decide)) (zu rfl) (by rw[IC];lia)) (by rw[IC];exact ea)
   ·exact ixG rfl (gP (lJ (lJ (oE rfl rfl (by decide)) rfl) (gP (oE rfl rfl (by decide)) rfl (by decide))) (zu rfl) (by rw[IC];lia)) (by rw[IC];exact eb)
theorem tD (c:Int):∃(as:List IX) (ps:List Pat),ps.length<=2/\(∀p∈ps,p.2.length<=4)/\as.length<=100/\(∀l∈as,l∈aX ps)/\f__law_question [.int c,.lst (tb.map tbD),.lst (ns.map .str)]=U (.tup [.lst (as.map .str),.lst (ps.map az)],Y):=by
 obtain⟨f,hf,ef⟩:∃f:Nat,f<24/\mx c 98%24=(f:Int):=⟨(mx c 98%24).toNat,by lia,by lia⟩
 have a3:=Ir f hf;have L26:NZ "ABCDEFGHIJKLMNOPQRSTUVWXYZ"=26:=by decide +kernel
 generalize hs:oX "ABCDEFGHIJKLMNOPQRSTUVWXYZ" (U (f:Int)) (U ((f:Int)+3))=s at a3;have e0:bW (shO (ae (aa (U (.int c)) (aa (U (.int 98)) (U []))) f__law_mixed)) (U (.int 24))=U (.int (f:Int)):=ef▸gP (zE rfl rfl (by decide) (by decide)) rfl (by decide)
 have e1:iZ (U (.str "ABCDEFGHIJKLMNOPQRSTUVWXYZ")) (cx (U (.int (f:Int)))) (cx (bY (U (.int (f:Int))) (U (.int 3))))=U (.str s):=hs▸HZ rfl (ph rfl) (ph (lJ rfl rfl)) (by lia)
 obtain⟨ps,p1,p2,ep⟩:=HU PY (x:=U (.int c)) (y:=U (.int 160)) (z:=bY (U (.int 1)) (bW (U (.int c)) (U (.int 2)))) (u:=U (.lst (tb.map tbD))) (v:=U (.str s)) (w:=U (.lst (ns.map .str))) (m:=(1+c%2).toNat) rfl rfl (by rw[lJ rfl (gP rfl rfl (by decide))];congr 2;lia) rfl rfl rfl (by decide) (by decide) (by lia) (by lia) (by lia)
 obtain⟨us,u1,u2,eu⟩:=H4 (x:=U (.lst (ps.map az))) rfl (by lia) p2
 obtain⟨δ',el,as,x8,a1,a2,rfl⟩:=kq (body:=λd δ=>ae ((af 8) d δ) cY) (λpre δ=>∃(as:List IX) (x8:Option (D×Bool)),as.length<=pre.length/\(∀l∈as,l∈us)/\δ=[U (.int c,Y),U (.lst (tb.map tbD),Y),U (.lst (ns.map .str),Y),U (.int (f:Int),Y),U (.str s,Y),U (.lst (ps.map az),Y),U (.lst (us.map .str),Y),U (.lst (as.map .str),V),x8]) (iK 0 (c / 2%4).toNat) [] _ ⟨[],B,IM _,(λ_ h=>nomatch h),rfl⟩
  λp d q δ hpq hz=>by
   obtain⟨as,x8,h1,h2,rfl⟩:=hz;have hp:=congrArg Kk hpq;simp[dL]at hp;obtain⟨k,hk,rfl⟩:=nt (show d∈iK 0 (c / 2%4).toNat by rw[Lz]at hpq;rw[<-hpq];simp)
   by_cases hu:us=[]
   ·refine⟨_,.inl ?_,as,U (.int (0+(k:Int)),Y),by simp;lia,h2,rfl⟩
    subst hu;rfl
   ·have l:=List.length_pos_iff.mpr hu
    obtain⟨w,hw,ew⟩:=o9 (f:=D.str) hu (mx c (190+(0+(k:Int))));refine⟨_,.inl ?_,as++[w],U (.int (0+(k:Int)),Y),by simp;lia,λx hx=>?_,rfl⟩
    ·show ifO (cI gGt (cE (U (.lst (us.map .str)))) (U (.int 0))) (jA 7 (ixO (U (.lst (us.map .str))) (bW (shO (ae (aa (U (.int c)) (aa (bY (U (.int 190)) (U (.int (0+(k:Int))))) (U []))) f__law_mixed)) (cE (U (.lst (us.map .str)))))) _) _=_
     rw[lenL_l,cI_s,show gGt ((us.map D.str).length:Int) 0=V from decide_eq_true (by rw[IC];lia),ifO_t,ixG rfl (gP (zE rfl (lJ rfl rfl) (by lia) (by lia)) rfl (by rw[IC];lia)) (by rw[IC];exact ew),eR (ds:=as.map .str) _ rfl (by simp;lia),Jd]
     rfl
    grind
 exact⟨as,ps,by lia,p2,by simp[dL]at a1;lia,λl hl=>(u2 l).mp (a2 l hl),stO e0 (stO e1 (stO ep (stO eu (stF (d:=.lst []) (lstO_s _ (by simp)) (stN (bE (G2 (gP (oE rfl rfl (by decide)) rfl (by decide)) (by lia)) el) (rO (rE rfl rfl)))))))⟩
end
end K61
namespace K61
open PySem L2 JP
variable[Md]
noncomputable def pkC (l:IX):Bi->Ce->Ce
 |[],t=>t
 |q::b,t=>pkC l b (if q.1=l then q.2 else t)
theorem xU {l:IX}:∀{b:Bi}{t:Ce},l∉b.map (·.1)->pkC l b t=t
 |[],_,_=>rfl
 |q::b,t,h=>by
  rw[IG,Jo,not_or]at h;unfold pkC;rw[if_neg λz=>h.1 z.symm,xU h.2]
set_option tactic.hygienic true in
theorem mu {l:IX}{c:Ce}:∀{b:Bi}{t:Ce},(b.map (·.1)).Nodup->gt b l=U c->pkC l b t=c/\(l,c)∈b
 |q::b,t,nd,h=>by
  obtain⟨h1,h2⟩:=List.nodup_cons.mp nd;rw[iH]at h;unfold pkC;split at h
  ·rename_i z
   cases h;subst z;exact⟨by rw[if_pos rfl];exact xU h1,IN ..⟩
  ·rename_i z
   exact⟨(mu h2 h).1,IK _ (mu (t:=t) h2 h).2⟩
theorem xA (a0 a1 a2 a3 a5:Option (D×Bool)) (l:IX):∀(b:Bi) (t:Ce) (x7 x8:Option (D×Bool)),∃y7 y8,tE 6 (aL (ah (af 7) (ah (af 8) (toNil)))) bJ cw (b.map cC) [a0,a1,a2,a3,U (teD (.any l),Y),a5,U (ceD t,Y),x7,x8]=U (.next [a0,a1,a2,a3,U (teD (.any l),Y),a5,U (ceD (pkC l b t),Y),y7,y8])
 |[],t,x7,x8=>⟨x7,x8,rfl⟩
 |q::b,t,x7,x8=>by
  obtain⟨y7,y8,e⟩:=xA a0 a1 a2 a3 a5 l b (if q.1=l then q.2 else t) (U (.str q.1,Y)) (U (ceD q.2,Y))
  refine⟨y7,y8,?_⟩
  rw[IG,show pkC l (q::b) t=pkC l b (if q.1=l then q.2 else t) from rfl]
  refine bE (a:=[a0,a1,a2,a3,U (teD (.any l),Y),a5,U (ceD t,Y),U (.str q.1,Y),U (ceD q.2,Y)]) rfl ?_
  have ht:bJ [a0,a1,a2,a3,U (teD (.any l),Y),a5,U (ceD t,Y),U (.str q.1,Y),U (ceD q.2,Y)]=U (decide (q.1=l)):=aD _ _;rw[ht]
  by_cases h:q.1=l
  ·rw[if_pos h]at e⊢;rw[decide_eq_true h];exact e
  ·rw[if_neg h]at e⊢;rw[decide_eq_false h];exact e
theorem ya (q:IX×Ce) (b:Bi):bC (U (cC q)) (U (.lst (b.map cC)))=U (!decide (q∈b)):=xD (λ_ _=>Aj) (λa=>Ci a 13) q b
theorem H8 (l:IX) (c:Ce):bF (aa (U (.str l)) (aa (U (ceD c)) (U [])))=U (cC (l,c)):=rE rfl rfl
theorem Eb (b:Bi):D.flats (b.map cC)=V:=by
 simp[D.flats_all,IW,cC,D.flat,D.flats,sF]
noncomputable abbrev eT (a0 a1 a2:Option (D×Bool)) (b:Bi) (x4 x5 x6 x7 x8:Option (D×Bool)):DEnv:=[a0,a1,a2,U (.lst (b.map cC),V),x4,x5,x6,x7,x8]
theorem jF (a0 a1 a2:Option (D×Bool)):∀(ts:List Te) (cs:List Ce) (b:Bi) (x4 x5 x6 x7 x8:Option (D×Bool)),(b.map (·.1)).Nodup->b.length+ts.length<=100->
  (match bnd ts cs b with
  |some b'=>∃y4 y5 y6 y7 y8,am (λd δ=>ae ((aL (ah (af 4) (ah (af 5) (toNil)))) d δ) ba) ((ts.zip cs).map λq=>.tup [teD q.1,ceD q.2]) (eT a0 a1 a2 b x4 x5 x6 x7 x8)=U (.next (eT a0 a1 a2 b' y4 y5 y6 y7 y8))
  |none=>am (λd δ=>ae ((aL (ah (af 4) (ah (af 5) (toNil)))) d δ) ba) ((ts.zip cs).map λq=>.tup [teD q.1,ceD q.2]) (eT a0 a1 a2 b x4 x5 x6 x7 x8)=U (.ret .non Y))
 |[],cs,b,x4,x5,x6,x7,x8,_,_=>⟨x4,x5,x6,x7,x8,by rfl⟩
 |.any l::ts,[],b,x4,x5,x6,x7,x8,_,_=>⟨x4,x5,x6,x7,x8,by rfl⟩
 |.nm l::ts,[],b,x4,x5,x6,x7,x8,_,_=>⟨x4,x5,x6,x7,x8,by rfl⟩
 |.nm w::ts,c::cs,b,x4,x5,x6,x7,x8,nd,hl=>by
  rw[IU]at hl;have ih:=jF a0 a1 a2 ts cs b (U (teD (.nm w),Y)) (U (ceD c,Y)) (U (teD (.nm w),Y)) x7 x8 nd (by lia)
  have h0:eqO (U (.str "name")) (U (.str "any"))=U Y:=by rw[aD];simp[na]
  have e:ae ((aL (ah (af 4) (ah (af 5) (toNil)))) (.tup [teD (.nm w),ceD c]) (eT a0 a1 a2 b x4 x5 x6 x7 x8)) ba=ifO (U (!decide (Ce.nm w=c))) (aW (U .non)) (nextO (eT a0 a1 a2 b (U (teD (.nm w),Y)) (U (ceD c,Y)) (U (teD (.nm w),Y)) x7 x8)):=
   bE rfl (sqO rfl (ifF h0 (by rw[<-BV];rfl)))
  rw[Lv,IG];unfold am bnd;rw[e]
  by_cases hc:Ce.nm w=c
  ·rw[if_pos hc,decide_eq_true hc];exact ih
  simp_all
 |.any l::ts,c::cs,b,x4,x5,x6,x7,x8,nd,hl=>by
  rw[IU]at hl;obtain⟨y7,y8,ep⟩:=xA a0 a1 a2 (U (.lst (b.map cC),V)) (U (ceD c,Y)) l b c x7 x8;have epo:BA 6 (aL (ah (af 7) (ah (af 8) (toNil)))) bJ cw (bA (rd V 3 (eT a0 a1 a2 b (U (teD (.any l),Y)) (U (ceD c,Y)) (U (ceD c,Y)) x7 x8))) (eT a0 a1 a2 b (U (teD (.any l),Y)) (U (ceD c,Y)) (U (ceD c,Y)) x7 x8)=U (.next (eT a0 a1 a2 b (U (teD (.any l),Y)) (U (ceD c,Y)) (U (ceD (pkC l b c),Y)) y7 y8)):=by
   show(if D.flats (b.map cC)=V then _ else B)=_
   rw[if_pos (Eb b)];exact ep
  have ha:eqO (U (.str "any")) (U (.str "any"))=U V:=by rw[aD,decide_eq_true rfl]
  have e:∀b1:Bi,ifO (bC (bF (aa (U (.str l)) (aa (U (ceD (pkC l b c))) (U [])))) (U (.lst (b.map cC)))) (jA 3 (bF (aa (U (.str l)) (aa (U (ceD (pkC l b c))) (U [])))) (eT a0 a1 a2 b (U (teD (.any l),Y)) (U (ceD c,Y)) (U (ceD (pkC l b c),Y)) y7 y8)) (nextO (eT a0 a1 a2 b (U (teD (.any l),Y)) (U (ceD c,Y)) (U (ceD (pkC l b c),Y)) y7 y8))=U (.next (eT a0 a1 a2 b1 (U (teD (.any l),Y)) (U (ceD c,Y)) (U (ceD (pkC l b c),Y)) y7 y8))->
    ae ((aL (ah (af 4) (ah (af 5) (toNil)))) (.tup [teD (.any l),ceD c]) (eT a0 a1 a2 b x4 x5 x6 x7 x8)) ba=ifO (U (!decide (pkC l b c=c))) (aW (U .non)) (nextO (eT a0 a1 a2 b1 (U (teD (.any l),Y)) (U (ceD c,Y)) (U (ceD (pkC l b c),Y)) y7 y8)):=λb1 hb=>
   bE rfl (sqO rfl (ifT ha (sqA (sqO rfl (sqA (sqN epo (sqN hb (by rw[<-m5];rfl))))))))
  rw[Lv,IG];unfold am bnd;cases eg:gt b l with
  |some c'=>
   obtain⟨k1,k2⟩:=mu (t:=c) nd eg;rw[k1]at e;rw[e b (by rw[H8,ya,decide_eq_true k2];rfl)]
   by_cases hc:c'=c
   ·have:=jF a0 a1 a2 ts cs b (U (teD (.any l),Y)) (U (ceD c,Y)) (U (ceD c',Y)) y7 y8 nd (by lia)
    simp only;rw[if_pos hc,decide_eq_true hc];exact this
   simp_all
  |none=>
   have hn:=ny eg;rw[xU hn]at e;have nd':((b++[(l,c)]).map (·.1)).Nodup:=by
    rw[Jd];exact List.nodup_append.mpr ⟨nd,by simp,λx hx y hy e=>hn (by simp at hy;rw[<-hy,<-e];exact hx)⟩
   have hm:(l,c)∉b:=λz=>hn (List.mem_map.mpr ⟨_,z,rfl⟩)
   rw[e (b++[(l,c)]) (by rw[H8,ya,decide_eq_false hm,Ll,ifO_t,eR (ds:=b.map cC) _ rfl (by simp;lia),show b.map cC++[cC (l,c)]=(b++[(l,c)]).map cC by simp];rfl)]
   have:=jF a0 a1 a2 ts cs (b++[(l,c)]) (U (teD (.any l),Y)) (U (ceD c,Y)) (U (ceD c,Y)) y7 y8 nd' (by simp;lia)
   simp only[decide_true,KG,ifO_f];exact this
theorem y0 {ts:List Te}{cs:List Ce}{b:Bi}(nd:(b.map (·.1)).Nodup) (hl:b.length+ts.length<=100):f__law_fitted [.tup (ts.map teD),.tup (cs.map ceD),.lst (b.map cC)]=U (match bnd ts cs b with|some b'=>(.lst (b'.map cC),V)|none=>(.non,Y)):=by
 have:=jF (U (.tup (ts.map teD),Y)) (U (.tup (cs.map ceD),Y)) (U (.lst (b.map cC),Y)) ts cs b B B B B B nd hl;have ez:∀k:List D->Option Out,ae (xI V V (U (.tup (ts.map teD))) (U (.tup (cs.map ceD)))) k=k ((ts.zip cs).map λq=>.tup [teD q.1,ceD q.2]):=λk=>by
  simp only[xI,Ge,if_true,tupL_s,bindO_s,jP]
 show jC (ak (ae (xI V V (U (.tup (ts.map teD))) (U (.tup (cs.map ceD)))) _) _)=_;rw[ez];cases eb:bnd ts cs b with
 |some b'=>
  rw[eb]at this;obtain⟨y4,y5,y6,y7,y8,e⟩:=this;exact stN e (rF rfl)
 |none=>
  rw[eb]at this;exact(congrArg (λz=>jC (ak z _)) this).trans rfl
end K61
namespace K61
open PySem L2 JP
variable[Md]
noncomputable def lfR (rows:List Row) (p:Pat) (b:Bi):List Bi:=rows.filterMap λr=>if r.1=p.1/\r.2.length=p.2.length then bnd p.2 r.2 b else B
noncomputable def lf (rows:List Row):List Pat->List Bi->List Bi
 |[],S=>S
 |p::ps,S=>lf rows ps (S.flatMap (lfR rows p))
set_option tactic.hygienic true in
theorem ue:∀{ts:List Te}{cs:List Ce}{b b':Bi},ts.length=cs.length->(b.map (·.1)).Nodup->bnd ts cs b=U b'->(b'.map (·.1)).Nodup/\(∀l,l∈b'.map (·.1)↔l∈b.map (·.1)\/l∈ans ts)/\b'.length<=b.length+ts.length
 |[],[],b,b',_,nd,h=>by cases h;simp[ans];lia
 |.nm w::ts,c::cs,b,b',hl,nd,h=>by
  unfold bnd at h;split at h
  ·obtain⟨h1,h2,h3⟩:=ue (by simpa using hl) nd h
   exact⟨h1,h2,by simp;lia⟩
  ·cases h
 |.any l::ts,c::cs,b,b',hl,nd,h=>by
  unfold bnd at h;split at h
  ·rename_i c' eg
   split at h
   ·obtain⟨h1,h2,h3⟩:=ue (by simpa using hl) nd h
    refine⟨h1,λx=>?_,by simp;lia⟩
    rw[h2];have hm:l∈b.map (·.1):=List.mem_map.mpr ⟨_,(mu (t:=c) nd eg).2,rfl⟩
    simp only[ans,Jo];constructor
    ·exact λz=>z.imp id .inr
    ·lia
   ·cases h
  ·rename_i eg
   have hn:=ny eg;have nd':((b++[(l,c)]).map (·.1)).Nodup:=by
    rw[Jd];exact List.nodup_append.mpr ⟨nd,by simp,λx hx y hy e=>hn (by simp at hy;rw[<-hy,<-e];exact hx)⟩
   obtain⟨h1,h2,h3⟩:=ue (by simpa using hl) nd' h
   refine⟨h1,λx=>?_,by simp at h3⊢;lia⟩
   simp[h2,Jd,ans,or_assoc]
structure Bg (rows:List Row) (ps:List Pat) (b0 b:Bi):Prop where
 nd:(b.map (·.1)).Nodup
 ks:∀l,l∈b.map (·.1)↔l∈b0.map (·.1)\/l∈aX ps
 lb:∀l c,gt b0 l=U c->gt b l=U c
 ft:∀φ:Fit,(∀l c,gt b l=U c->φ l=c)->∀p∈ps,eG rows φ p
theorem BO {b:Bi}{l:IX}(h:l∈b.map (·.1)):∃c,gt b l=U c:=by
 cases e:gt b l with
 |some c=>lia
 |none=>exact absurd h (ny e)
set_option tactic.hygienic true in
theorem BR {rows:List Row}{ps:List Pat}{p:Pat}{b0 b b':Bi}(PZ:Bg rows ps b0 b) (h:b'∈lfR rows p b):Bg rows (ps++[p]) b0 b'/\b'.length<=b.length+p.2.length:=by
 obtain⟨r,hr,e⟩:=List.mem_filterMap.mp h;split at e
 ·rename_i hc
  obtain⟨h1,h2,h3⟩:=ue hc.2.symm PZ.nd e;obtain⟨s1,s2,s3⟩:=eN hc.2.symm e;refine⟨⟨h1,λl=>?_,λl c z=>s1 l c (PZ.lb l c z),λφ hφ q hq=>?_⟩,h3⟩
  ·rw[h2,PZ.ks,or_assoc];simp[aX]
  ·rcases List.mem_append.mp hq with hq|hq
   ·exact PZ.ft φ (λl c z=>hφ l c (s1 l c z)) q hq
   ·rw[List.mem_singleton.mp hq]
    refine⟨r,hr,hc.1,s3 φ λl hl=>?_⟩
    obtain⟨c,ec⟩:=s2 l hl;rw[ec,hφ l c ec]
 ·cases e
theorem Gp {rows:List Row}{b0:Bi}:∀{qs ps:List Pat}{S:List Bi}{n:Nat},(∀p∈qs,p.2.length<=4)->(∀b∈S,Bg rows ps b0 b/\b.length<=n)->∀b∈lf rows qs S,Bg rows (ps++qs) b0 b/\b.length<=n+4*qs.length
 |[],ps,S,n,_,h,b,hb=>by rw[Kb];exact h b hb
 |q::qs,ps,S,n,h4,h,b,hb=>by
  have:=Gp (qs:=qs) (ps:=ps++[q]) (n:=n+4) (λp hp=>h4 p (.tail _ hp)) (λb' hb'=>by
   obtain⟨b1,h1,h2⟩:=List.mem_flatMap.mp hb';obtain⟨k1,k2⟩:=h b1 h1;obtain⟨k3,k4⟩:=BR k1 h2;have:=h4 q (.head _);exact⟨k3,by lia⟩) b hb
  rw[J0,PG]at this;exact⟨this.1,by have:=this.2;rw[IU];lia⟩
theorem xL {rows:List Row}{φ:Fit}:∀{qs:List Pat}{S:List Bi},(∀p∈qs,eG rows φ p)->(∃b∈S,∀l c,gt b l=U c->φ l=c)->∃b∈lf rows qs S,∀l c,gt b l=U c->φ l=c
 |[],S,_,h=>h
 |q::qs,S,hq,⟨b,hb,hφ⟩=>by
  obtain⟨r,h1,h2,h3⟩:=hq q (.head _);obtain⟨b',e,hb'⟩:=hZ q.2 b hφ;refine xL (qs:=qs) (S:=S.flatMap (lfR rows q)) (λp hp=>hq p (.tail _ hp)) ⟨b',List.mem_flatMap.mpr ⟨b,hb,List.mem_filterMap.mpr ⟨r,h1,?_⟩⟩,hb'⟩
  simp_all
theorem B4 {rows:List Row}{p:Pat}:∀S:List Bi,(S.flatMap (lfR rows p)).length<=S.length*rows.length
 |[]=>by simp
 |b::S=>by
  rw[LJ,Jy,IU,PE];have:=B4 (rows:=rows) (p:=p) S;have h2:(lfR rows p b).length<=rows.length:=KT ..
  lia
noncomputable abbrev bD2 (b:Bi):D:=.lst (b.map cC)
noncomputable abbrev eV (a0 a1 a2 a3:Option (D×Bool)) (p:Pat) (acc:List Bi) (x7 x8 x9:Option (D×Bool)):DEnv:=[a0,a1,a2,a3,U (.str p.1,Y),U (.tup (p.2.map teD),Y),U (.lst (acc.map bD2),V),x7,x8,x9]
theorem Ha (a0 a1 a2 a3:Option (D×Bool)) (p:Pat) (b:Bi) (nd:(b.map (·.1)).Nodup) (hb:b.length+p.2.length<=100) (rows:List Row) (acc:List Bi) (x8 x9:Option (D×Bool)) (hl:acc.length+rows.length<=1000):∃y8 y9,am (λd δ=>ae ((af 8) d δ) dz) (rows.map rowD) (eV a0 a1 a2 a3 p acc (U (bD2 b,Y)) x8 x9)=U (.next (eV a0 a1 a2 a3 p (acc++lfR rows p b) (U (bD2 b,Y)) y8 y9)):=by
 have hn:(lfR rows p b).length<=rows.length:=KT ..;unfold lfR at hn⊢;rw[<-sw]at hn⊢;obtain⟨y,e⟩:=iv (γ:=Option (D×Bool)×Option (D×Bool)) (f:=rowD) (h:=λr=>(if r.1=p.1/\r.2.length=p.2.length then bnd p.2 r.2 b else B).toList) (xs:=rows) (acc:=acc) (y:=(x8,x9)) (PZ:=1000) (body:=λd δ=>ae ((af 8) d δ) dz) (E:=λacc y=>eV a0 a1 a2 a3 p acc (U (bD2 b,Y)) y.1 y.2) (by lia) λr _ acc y ha=>by
  have hc:=zm r p
  by_cases h:r.1=p.1/\r.2.length=p.2.length
  ·rw[decide_eq_true h]at hc
   simp only[if_pos h]at ha⊢;have ef:=y0 (ts:=p.2) (cs:=r.2) nd hb;cases e:bnd p.2 r.2 b with
   |none=>
    rw[e]at ef;exact⟨(U (rowD r,Y),U (.non,Y)),bE rfl (by rw[MA,Kb];exact ifG hc (sqO (shG ef) rfl))⟩
   |some b'=>
    rw[e]at ef ha;refine⟨(U (rowD r,Y),U (bD2 b',Y)),bE rfl (ifG hc (sqO (shG ef) (ifG rfl ((Hp (ds:=acc.map bD2) rfl rfl (by rw[IC];simp at ha;lia)).trans ?_))))⟩
    show _=U (Out.next (eV a0 a1 a2 a3 p (acc++[b']) _ _ _));unfold eV;rw[Jd];rfl
  ·rw[decide_eq_false h]at hc
   simp only[if_neg h];exact⟨(U (rowD r,Y),y.2),bE rfl (by rw[MA,Kb];exact ifN hc rfl)⟩
 exact⟨y.1,y.2,e⟩
theorem BQ {rows:List Row}(a1 a2 a3:Option (D×Bool)) (p:Pat):∀(S acc:List Bi) (x7 x8 x9:Option (D×Bool)),(∀b∈S,(b.map (·.1)).Nodup/\b.length+p.2.length<=100)->acc.length+S.length*rows.length<=1000->∃y7 y8 y9,am (λd δ=>ae ((af 7) d δ) dP) (S.map bD2) (eV (U (.lst (rows.map rowD),Y)) a1 a2 a3 p acc x7 x8 x9)=U (.next (eV (U (.lst (rows.map rowD),Y)) a1 a2 a3 p (acc++S.flatMap (lfR rows p)) y7 y8 y9))
 |[],acc,x7,x8,x9,_,_=>⟨x7,x8,x9,by simp[am]⟩
 |b::S,acc,x7,x8,x9,hS,hl=>by
  rw[IU,PE]at hl;have hb:=hS b (.head _);have hn:(lfR rows p b).length<=rows.length:=KT ..;obtain⟨y8,y9,e⟩:=Ha (U (.lst (rows.map rowD),Y)) a1 a2 a3 p b hb.1 hb.2 rows acc x8 x9 (by generalize S.length*rows.length=k at hl;lia)
  obtain⟨z7,z8,z9,e2⟩:=BQ (rows:=rows) a1 a2 a3 p S (acc++lfR rows p b) (U (bD2 b,Y)) y8 y9 (λb hb=>hS b (.tail _ hb)) (by rw[Jy];generalize S.length*rows.length=k at hl⊢;lia)
  refine⟨z7,z8,z9,?_⟩
  rw[IG,LJ,<-J0];unfold am;have:ae ((af 7) (bD2 b) (eV (U (.lst (rows.map rowD),Y)) a1 a2 a3 p acc x7 x8 x9)) dP=U (.next (eV (U (.lst (rows.map rowD),Y)) a1 a2 a3 p (acc++lfR rows p b) (U (bD2 b,Y)) y8 y9)):=e;rw[this];exact e2
theorem B6 {rows:List Row}(hr:rows.length<=20) (a1 a2:Option (D×Bool)):∀(qs ps:List Pat) (b0:Bi) (S:List Bi) (x4 x5 x6 x7 x8 x9:Option (D×Bool)) (n:Nat),(∀p∈qs,p.2.length<=4)->(∀b∈S,Bg rows ps b0 b/\b.length<=n)->n+4*qs.length<=50->S.length*20 ^ qs.length<=1000->∃y4 y5 y6 y7 y8 y9,(lf rows qs S).length<=1000/\am (λd δ=>ae ((aL (ah (af 4) (ah (af 5) (toNil)))) d δ) dQ) (qs.map az) [U (.lst (rows.map rowD),Y),a1,a2,U (.lst (S.map bD2),Y),x4,x5,x6,x7,x8,x9]=U (.next [U (.lst (rows.map rowD),Y),a1,a2,U (.lst ((lf rows qs S).map bD2),Y),y4,y5,y6,y7,y8,y9])
 |[],ps,b0,S,x4,x5,x6,x7,x8,x9,n,_,_,_,h=>⟨x4,x5,x6,x7,x8,x9,by simpa[lf]using h,by rfl⟩
 |q::qs,ps,b0,S,x4,x5,x6,x7,x8,x9,n,h4,hS,hn,hl=>by
  have hq:=h4 q (.head _);rw[IU]at hn hl;have hk:S.length*rows.length<=S.length*20:=Nat.mul_le_mul_left _ hr;have hp:1<=20 ^ qs.length:=Nat.one_le_pow _ _ (by decide)
  have e20:S.length*20 ^ (qs.length+1)=S.length*20*20 ^ qs.length:=by rw[Oe,Pf,Nat.mul_comm 20]
  have h20:S.length*20<=1000:=IR (Nat.le_mul_of_pos_right _ hp) (e20▸hl);obtain⟨y7,y8,y9,e⟩:=BQ (rows:=rows) a1 a2 (U (.lst (S.map bD2),Y)) q S [] x7 x8 x9 (λb hb=>⟨(hS b hb).1.nd,by have:=(hS b hb).2;lia⟩) (by simp;lia)
  have fl:=B4 (rows:=rows) (p:=q) S;obtain⟨z4,z5,z6,z7,z8,z9,hz,e2⟩:=B6 hr a1 a2 qs (ps++[q]) b0 (S.flatMap (lfR rows q)) (U (.str q.1,Y)) (U (.tup (q.2.map teD),Y)) (U (.lst ((S.flatMap (lfR rows q)).map bD2),Y)) y7 y8 y9 (n+4) (λp hp=>h4 p (.tail _ hp)) (λb' hb'=>by
   obtain⟨b1,h1,h2⟩:=List.mem_flatMap.mp hb';obtain⟨k1,k2⟩:=hS b1 h1;obtain⟨k3,k4⟩:=BR k1 h2;exact⟨k3,by lia⟩) (by lia) (IR (Nat.mul_le_mul_right _ (IR fl hk)) (e20▸hl))
  refine⟨z4,z5,z6,z7,z8,z9,hz,?_⟩
  rw[IG];unfold am;have:ae ((aL (ah (af 4) (ah (af 5) (toNil)))) (az q) [U (.lst (rows.map rowD),Y),a1,a2,U (.lst (S.map bD2),Y),x4,x5,x6,x7,x8,x9]) dQ=U (.next [U (.lst (rows.map rowD),Y),a1,a2,U (.lst ((S.flatMap (lfR rows q)).map bD2),Y),U (.str q.1,Y),U (.tup (q.2.map teD),Y),U (.lst ((S.flatMap (lfR rows q)).map bD2),Y),y7,y8,y9]):=
   bE rfl (sqF (d:=.lst []) (lstO_s _ (by simp)) (sqN e rfl))
  rw[this];exact e2
end K61
namespace K61
open PySem L2 JP
variable[Md]
noncomputable abbrev Ft:=List IX×Fit
noncomputable abbrev ftD (q:Ft):D:=fL q.1 (q.1.map q.2)
theorem uR {α β:Type}{f:α->D}{g:β->D}{R:α->β->Prop}{F:D->Option (Option D)}:∀{xs:List α},(∀x∈xs,∃b,R x b/\F (f x)=U (U (g b)))->∃bs:List β,bs.length=xs.length/\(∀b∈bs,∃x∈xs,R x b)/\(∀x∈xs,∃b∈bs,R x b)/\aJ F (xs.map f)=U (bs.map g)
 |[],_=>⟨[],rfl,(λ_ h=>nomatch h),(λ_ h=>nomatch h),rfl⟩
 |x::xs,h=>by
  obtain⟨b,hb,e⟩:=h x (.head _);obtain⟨bs,h1,h2,h3,h4⟩:=uR λx hx=>h x (.tail _ hx)
  refine⟨b::bs,by simp[h1],λc hc=>?_,λz hz=>?_,?_⟩
  ·rcases List.mem_cons.mp hc with rfl|hc
   ·exact⟨x,.head _,hb⟩
   ·simp_all
  ·rcases List.mem_cons.mp hz with rfl|hz
   ·exact⟨b,.head _,hb⟩
   ·simp_all
  ·rw[IG];unfold aJ;rw[h4,e];rfl
theorem De {rows:List Row}(hr:rows.length<=20) {ps:List Pat}(hp:ps.length<=2) (h4:∀p∈ps,p.2.length<=4) {q0:Ft}(nd:q0.1.Nodup) (hu:q0.1.length<=30):∃L:List Ft,L.length<=1000/\
  (∀q∈L,q.1.Nodup/\q.1.length<=50/\(∀l,l∈q.1↔l∈q0.1\/l∈aX ps)/\(∀l∈q0.1,q.2 l=q0.2 l)/\∀p∈ps,eG rows q.2 p)/\
  (∀φ:Fit,(∀l∈q0.1,φ l=q0.2 l)->(∀p∈ps,eG rows φ p)->∃q∈L,∀l∈q.1,q.2 l=φ l)/\
  f__law_fits [.lst (rows.map rowD),.lst (ps.map az),ftD q0]=U (.lst (L.map ftD),V):=by
 obtain⟨us,φ0⟩:=q0;obtain⟨b0,hb0⟩:∃b0:Bi,b0=us.map λl=>(l,φ0 l):=⟨_,rfl⟩
 have k0:b0.map (·.1)=us:=by rw[hb0,JK];exact MO us
 have e0:ftD (us,φ0)=bD2 b0:=by rw[hb0];show fL us (us.map φ0)=_;unfold fL;rw[gM]
 have g0:∀l c,gt b0 l=U c->φ0 l=c/\l∈us:=λl c h=>by
  have hm:=(mu (t:=c) (by rw[k0];exact nd) h).2
  grind
 have bg:Bg rows [] b0 b0:=⟨by rw[k0];exact nd,λl=>by simp[aX],λ_ _ h=>h,λ_ _ _ h=>nomatch h⟩
 have hb0l:b0.length<=30:=by rw[hb0];simpa using hu
 have pw:(20:Nat) ^ ps.length<=400:=IR (NK (by decide) hp) (by decide)
 have hS:∀b∈[b0],Bg rows [] b0 b/\b.length<=30:=λb hb=>by rw[List.mem_singleton.mp hb];exact⟨bg,hb0l⟩
 obtain⟨y4,y5,y6,y7,y8,y9,hz,e⟩:=B6 hr (U (.lst (ps.map az),Y)) (U (bD2 b0,Y)) ps [] b0 [b0] B B B B B B 30 h4 hS (by lia) (by simp;lia)
 have hB:=Gp h4 hS;obtain⟨L,l1,l2,l3,l4⟩:=uR (f:=bD2) (g:=ftD) (R:=λb q=>q.1.Perm (b.map (·.1))/\∀l c,gt b l=U c->q.2 l=c) (xs:=lf rows ps [b0]) (F:=au (af 7) (λδ=>U V) hV [B,B,B,B,B,B,B,B,B,B]) λb hb=>by
  obtain⟨PZ,_⟩:=hB b hb;obtain⟨φ,hφ⟩:=uq (kn:=b.map (·.1)) (x:=b.map (·.2)) PZ.nd (by simp)
  have hp:∀q∈b,φ q.1=q.2:=λq hq=>by
   rw[JK]at hφ;exact(List.map_inj_left.mp hφ q hq).symm
  obtain⟨vs,pv,ev⟩:=uk (b.map (·.1)) φ
  refine⟨(vs,φ),⟨pv,λl c h=>hp (l,c) (mu (t:=c) PZ.nd h).2⟩,itG ?_⟩
  have eb:bD2 b=fL (b.map (·.1)) ((b.map (·.1)).map φ):=by
   unfold fL;rw[<-hφ,<-(List.zip_of_prod rfl rfl:b=(b.map (·.1)).zip (b.map (·.2)))]
  rw[eb];exact ev
 rw[Lz]at hB;refine⟨L,by lia,λq hq=>?_,λφ h1 h2=>?_,?_⟩
 ·obtain⟨b,hb,pv,hg⟩:=l2 q hq
  obtain⟨PZ,hbl⟩:=hB b hb;refine⟨pv.nodup_iff.mpr PZ.nd,by rw[pv.length_eq,IC];lia,λl=>by rw[pv.mem_iff,PZ.ks,k0],λl hl=>?_,PZ.ft q.2 hg⟩
  obtain⟨c,ec⟩:=BO (b:=b0) (l:=l) (by rw[k0];exact hl)
  rw[hg l c (PZ.lb l c ec)];exact(g0 l c ec).1.symm
 ·obtain⟨b,hb,hφ⟩:=xL (S:=[b0]) h2 ⟨b0,.head _,λl c h=>(h1 l (g0 l c h).2).trans (g0 l c h).1⟩
  obtain⟨q,hq,pv,hg⟩:=l3 b hb;refine⟨q,hq,λl hl=>?_⟩
  obtain⟨c,ec⟩:=BO (pv.mem_iff.mp hl);rw[hg l c ec,hφ l c ec]
 ·rw[e0,ao (f:=f__law_fits) (δ:=[U (.lst (rows.map rowD),Y),U (.lst (ps.map az),Y),U (bD2 b0,Y),B,B,B,B,B,B,B]) rfl rfl rfl]
  refine stO (d:=.lst ([b0].map bD2)) ?_ (stN e (rF (lO rfl (by simpa using hz) rfl l4 (by simp;lia))))
  rfl
theorem DU {x y z:Option D}{rows:List Row}{ps:List Pat}{q0:Ft}(e1:x=U (.lst (rows.map rowD))) (e2:y=U (.lst (ps.map az))) (e3:z=U (ftD q0)) (hr:rows.length<=20) (hp:ps.length<=2) (h4:∀p∈ps,p.2.length<=4) (nd:q0.1.Nodup) (hu:q0.1.length<=30):∃L:List Ft,L.length<=1000/\
  (∀q∈L,q.1.Nodup/\q.1.length<=50/\(∀l,l∈q.1↔l∈q0.1\/l∈aX ps)/\(∀l∈q0.1,q.2 l=q0.2 l)/\∀p∈ps,eG rows q.2 p)/\
  (∀φ:Fit,(∀l∈q0.1,φ l=q0.2 l)->(∀p∈ps,eG rows φ p)->∃q∈L,∀l∈q.1,q.2 l=φ l)/\
  frO (ae (aa x (aa y (aa z (U [])))) f__law_fits)=U (.lst (L.map ftD)):=by
 subst e1 e2 e3;obtain⟨L,l1,l2,l3,e⟩:=De hr hp h4 nd hu;exact⟨L,l1,l2,l3,by simp_all⟩
theorem yn (t:Te) (φ:Fit) (a1:Option (D×Bool)):∀(vs:List IX) (x2 x3:Option (D×Bool)),
  ((∃l∈vs,t=.any l)->am (λd δ=>ae ((aL (ah (af 2) (ah (af 3) (toNil)))) d δ) bp) ((vs.map λl=>(l,φ l)).map cC) [U (teD t,Y),a1,x2,x3]=U (.ret (ceD (ev φ t)) Y))/\
  ((¬∃l∈vs,t=.any l)->∃y2 y3,am (λd δ=>ae ((aL (ah (af 2) (ah (af 3) (toNil)))) d δ) bp) ((vs.map λl=>(l,φ l)).map cC) [U (teD t,Y),a1,x2,x3]=U (.next [U (teD t,Y),a1,y2,y3]))
 |[],x2,x3=>⟨λ⟨_,h,_⟩=>(nomatch h),λ_=>⟨x2,x3,by rfl⟩⟩
 |v::vs,x2,x3=>by
  have ih:=yn t φ a1 vs (U (.str v,Y)) (U (ceD (φ v),Y));have e:ae ((aL (ah (af 2) (ah (af 3) (toNil)))) (cC (v,φ v)) [U (teD t,Y),a1,x2,x3]) bp=ifO (U (decide (t=.any v))) (aW (U (ceD (φ v)))) (nextO [U (teD t,Y),a1,U (.str v,Y),U (ceD (φ v),Y)]):=by
   refine bE rfl ?_
   show ifO (eqO (U (teD t)) (bF (aa (U (.str "any")) (aa (U (.str v)) (U []))))) _ _=_;rw[rE rfl rfl,sZ _ _ (by unfold ok2;rw[uA t 15];rfl)]
   congr 2;refine decide_eq_decide.mpr ⟨λh=>?_,λh=>by rw[h];rfl⟩
   cases t with
   |any m=>simp[teD]at h;rw[h]
   |nm w=>simp[teD]at h;exact absurd h.1 (by decide +kernel)
  rw[IG,IG];unfold am;rw[e]
  by_cases h:t=.any v
  ·rw[decide_eq_true h]
   exact⟨λ_=>by rw[h];rfl,λz=>absurd ⟨v,.head _,h⟩ z⟩
  ·rw[decide_eq_false h]
   refine⟨λ⟨l,hl,el⟩=>ih.1 ⟨l,?_,el⟩,λz=>ih.2 λ⟨l,hl,el⟩=>z ⟨l,.tail _ hl,el⟩⟩
   rcases List.mem_cons.mp hl with rfl|hl
   ·exact absurd el h
   ·exact hl
theorem CQ {x y:Option D}{t:Te}{q:Ft}(h:x=U (teD t)) (h':y=U (ftD q)) (hl:∀l,t=.any l->l∈q.1):shO (ae (aa x (aa y (U []))) f__law_cell_of)=U (ceD (ev q.2 t)):=by
 subst h h';have ef:ftD q=.lst ((q.1.map λl=>(l,q.2 l)).map cC):=by show fL _ _=_;unfold fL;rw[gM]
 simp only[consO_s,bindO_s];rw[ef,ao (f:=f__law_cell_of) (δ:=[U (teD t,Y),U (.lst ((q.1.map λl=>(l,q.2 l)).map cC),Y),B,B]) rfl rfl rfl]
 obtain⟨h1,h2⟩:=yn t q.2 (U (.lst ((q.1.map λl=>(l,q.2 l)).map cC),Y)) q.1 B B
 cases t with
 |any l=>
  show shO (jC (ak (am _ _ _) _))=_;rw[h1 ⟨l,hl l rfl,rfl⟩];rfl
 |nm w=>
  obtain⟨y2,y3,e⟩:=h2 λ⟨_,_,z⟩=>nomatch z
  show shO (jC (ak (am _ _ _) _))=_;rw[e];rfl
end K61
namespace K61
open PySem L2 JP
variable[Md]
noncomputable def EQ:Ru->List Pat|.must ps _=>ps|.same ps _ _=>ps
theorem HK:∀{R:Ru},Wf R->(EQ R).length<=2/\∀p∈EQ R,p.2.length<=4
 |.must _ _,h=>⟨h.1,h.2.2.1⟩
 |.same _ _ _,h=>⟨h.1,h.2.1⟩
theorem ix1:∀R:Ru,ixO (U (ruD R)) (U (.int 1))=U (.lst ((EQ R).map az))
 |.must _ _=>rfl
 |.same _ _ _=>rfl
noncomputable def Ok1 (H:List Row) (q:Ft):Ru->Prop
 |.must _ qs=>∃χ:Fit,(∀l∈q.1,χ l=q.2 l)/\∀p∈qs,eG H χ p
 |.same _ a b=>ev q.2 a=ev q.2 b
theorem FE {φ ψ:Fit}{t:Te}(h:∀l,t=.any l->φ l=ψ l):ev φ t=ev ψ t:=by
 cases t with
 |any l=>exact h l rfl
 |nm w=>rfl
theorem smA {a b:Te}{l:IX}(h:a=.any l\/b=.any l):l∈aX [smP a b]:=by
 rcases h with rfl|rfl
 ·simp[aX,ans]
 ·cases a<;>simp[aX,ans]
section
variable{H:List Row}(hH:H.length<=20) {R:Ru}(wf:Wf R)
include hH wf
theorem GC {q:Ft}(nd:q.1.Nodup) (hu:q.1.length<=30) (hl:∀l,l∈q.1↔l∈aX (EQ R)):∃b,f__law_is_broken [.lst (H.map rowD),ruD R,ftD q]=U (.bl b,Y)/\(b=Y↔Ok1 H q R):=by
 cases R with
 |same ps a b=>
  have hc:eqO (U (.str "same")) (U (.str "same"))=U V:=by rw[aD,decide_eq_true rfl]
  have ha:=CQ (x:=U (teD a)) (y:=U (ftD q)) rfl rfl λl z=>(hl l).mpr (wf.2.2 l (smA (.inl z)))
  have hb:=CQ (x:=U (teD b)) (y:=U (ftD q)) rfl rfl λl z=>(hl l).mpr (wf.2.2 l (smA (.inr z)))
  refine⟨!decide (ev q.2 a=ev q.2 b),stR hc ?_,by simp[Ok1]⟩
  show ofB (neO (shO (ae (aa (U (teD a)) (aa (U (ftD q)) (U []))) f__law_cell_of)) (shO (ae (aa (U (teD b)) (aa (U (ftD q)) (U []))) f__law_cell_of)))=_;rw[ha,hb,m5];rfl
 |must ps qs=>
  have hc:eqO (U (.str "must")) (U (.str "same"))=U Y:=by rw[aD];simp[ms]
  obtain⟨L,l1,l2,l3,e⟩:=DU (x:=U (.lst (H.map rowD))) (y:=U (.lst (qs.map az))) (z:=U (ftD q)) rfl rfl rfl hH wf.2.1 wf.2.2.2 nd hu;refine⟨decide (((L.map ftD).length:Int)=0),stI hc (rO ?_),?_⟩
  ·show ofB (eqO (cE (frO (ae (aa (U (.lst (H.map rowD))) (aa (U (.lst (qs.map az))) (aa (U (ftD q)) (U [])))) f__law_fits))) (U (.int 0)))=_
   rw[e,lenL_l,eqO_int];rfl
  ·cases L with
   |nil=>
    refine⟨λh=>by simp at h,λ⟨χ,c1,c2⟩=>?_⟩
    obtain⟨_,h,_⟩:=l3 χ c1 c2;cases h
   |cons p L=>
    obtain⟨_,_,_,h3,h4⟩:=l2 p (.head _);exact⟨λ_=>⟨p.2,h3,h4⟩,λ_=>decide_eq_false (by simp;lia)⟩
theorem wG:∃ds,f__law_broken [.lst (H.map rowD),ruD R]=U (.lst ds,V)/\(ds=[]↔vV H R):=by
 classical
 obtain⟨w1,w4⟩:=HK wf;obtain⟨L,l1,l2,l3,e⟩:=DU (x:=U (.lst (H.map rowD))) (y:=U (.lst ((EQ R).map az))) (z:=U (ftD ([],λ_=>default))) rfl rfl rfl hH w1 w4 Kc (by simp)
 have hl:∀q∈L,∀l,l∈q.1↔l∈aX (EQ R):=λq hq l=>by rw[(l2 q hq).2.2.1];simp
 refine⟨(L.filter λq=>!decide (Ok1 H q R)).map ftD,rF (lO (ds:=L.map ftD) (ε:=[U (.lst (H.map rowD),Y),U (ruD R,Y),B]) ?_ (by simpa using l1) rfl (bw λq hq=>?_) (by rw[IC];exact IR (Ka ..) l1)),?_⟩
 ·show bA (frO (ae (aa (U (.lst (H.map rowD))) (aa (ixO (U (ruD R)) (U (.int 1))) (aa (cX (U [])) (U [])))) f__law_fits))=_
  rw[ix1,lstO_s _ (by simp)]
  exact congrArg bA e
 ·have hlen:q.1.length<=30:=IR (Kq (l2 q hq).1 λl h=>(hl q hq l).mp h) (IR (aF w4) (by lia))
  obtain⟨b,e,hb⟩:=GC hH wf (l2 q hq).1 hlen (hl q hq);unfold au;cases b with
  |false=>have:=hb.mp rfl;simp_all
  |true=>have:¬Ok1 H q R:=λz=>nomatch hb.mpr z;simp_all
 ·rw[List.map_eq_nil_iff,Pp]
  constructor
  ·intro h
   cases R with
   |must ps qs=>
    intro φ hφ;obtain⟨q,hq,hx⟩:=l3 φ (λ_ h=>nomatch h) hφ
    obtain⟨χ,c1,c2⟩:Ok1 H q (.must ps qs):=by simpa using h q hq
    exact⟨χ,λl z=>(c1 l ((hl q hq l).mpr z)).trans (hx l ((hl q hq l).mpr z)),c2⟩
   |same ps a b=>
    intro φ hφ;obtain⟨q,hq,hx⟩:=l3 φ (λ_ h=>nomatch h) hφ
    have hz:Ok1 H q (.same ps a b):=by simpa using h q hq
    change ev q.2 a=ev q.2 b at hz;rwa[FE λl z=>hx l ((hl q hq l).mpr (wf.2.2 l (smA (.inl z)))),FE λl z=>hx l ((hl q hq l).mpr (wf.2.2 l (smA (.inr z))))]at hz
  ·intro k q hq
   have:Ok1 H q R:=by
    obtain⟨_,_,_,_,q5⟩:=l2 q hq;cases R with
    |must ps qs=>
     obtain⟨χ,c1,c2⟩:=k q.2 q5;exact⟨χ,λl z=>c1 l ((hl q hq l).mp z),c2⟩
    |same ps a b=>exact k q.2 q5
   simp[this]
end
theorem w6 {H:List Row}(hH:H.length<=20) (a1:Option (D×Bool)):∀{RR:List Ru}(wf:∀R∈RR,Wf R) (x:Option (D×Bool)),((∀R∈RR,vV H R)->∃y,am (λd δ=>ae ((af 2) d δ) bP) (RR.map ruD) [U (.lst (H.map rowD),Y),a1,x]=U (.next [U (.lst (H.map rowD),Y),a1,y]))/\((¬∀R∈RR,vV H R)->am (λd δ=>ae ((af 2) d δ) bP) (RR.map ruD) [U (.lst (H.map rowD),Y),a1,x]=U (.ret (.bl Y) Y))
 |[],_,x=>⟨λ_=>⟨x,rfl⟩,λh=>absurd (λ_ z=>nomatch z) h⟩
 |R::RR,wf,x=>by
  obtain⟨ds,e,hd⟩:=wG hH (wf R (.head _));obtain⟨i1,i2⟩:=w6 hH a1 (RR:=RR) (λR h=>wf R (.tail _ h)) (U (ruD R,Y))
  have eb:ae ((af 2) (ruD R) [U (.lst (H.map rowD),Y),a1,x]) bP=ifO (U (decide ((ds.length:Int)>0))) (aW (U (.bl Y))) (nextO [U (.lst (H.map rowD),Y),a1,U (ruD R,Y)]):=by
   show ifO (cI gGt (cE (frO (f__law_broken [.lst (H.map rowD),ruD R]))) (U (.int 0))) _ _=_;rw[e];rfl
  rw[IG];unfold am;rw[eb];cases ds with
  |nil=>
   have k:=hd.mp rfl;refine⟨λh=>i1 λR hR=>h R (.tail _ hR),λh=>i2 λz=>h λR' hR'=>?_⟩
   rcases List.mem_cons.mp hR' with rfl|hR'
   ·exact k
   ·exact z R' hR'
  |cons d ds=>
   have k:¬vV H R:=λz=>nomatch hd.mpr z
   rw[decide_eq_true (by simp)]
   exact⟨λh=>absurd (h R (.head _)) k,λ_=>rfl⟩
theorem xV {H:List Row}(hH:H.length<=20) {RR:List Ru}(wf:∀R∈RR,Wf R):∃b,f__law_keeps [.lst (H.map rowD),.lst (RR.map ruD)]=U (.bl b,Y)/\(b=V↔∀R∈RR,vV H R):=by
 obtain⟨h1,h2⟩:=w6 hH (U (.lst (RR.map ruD),Y)) wf B
 by_cases h:∀R∈RR,vV H R
 ·obtain⟨y,e⟩:=h1 h
  exact⟨V,stN e (rO rfl),λ_=>h,λ_=>rfl⟩
 ·exact⟨Y,(congrArg (λz=>jC (ak z _)) (h2 h)).trans rfl,(λz=>nomatch z),λz=>absurd z h⟩
theorem zY (c:List Ce):okD 16 (cD c)=V:=dR (f:=ceD) (λa=>by cases a<;>rfl) c
noncomputable def zt (as:List IX) (T:List (List Ce)) (q:Ft):List (List Ce):=if as.map q.2∉T/\(as.map q.2).all isNm=V then T++[as.map q.2] else T
set_option tactic.hygienic true in
theorem Cf (as:List IX):∀(L:List Ft) {T:List (List Ce)},T.Nodup->(L.foldl (zt as) T).Nodup/\∀x,x∈L.foldl (zt as) T↔x∈T\/(∃q∈L,x=as.map q.2)/\x.all isNm=V
 |[],T,h=>⟨h,λx=>by simp⟩
 |q::L,T,h=>by
  rw[Ld];have hn:(zt as T q).Nodup:=by
   unfold zt;split
   ·rename_i z
    exact List.nodup_append.mpr ⟨h,by simp,λx hx y hy e=>z.1 (by simp at hy;rw[<-hy,<-e];exact hx)⟩
   ·exact h
  obtain⟨h1,h2⟩:=Cf as L hn;refine⟨h1,λx=>?_⟩
  rw[h2];unfold zt
  by_cases z1:as.map q.2∈T<;>by_cases z2:(as.map q.2).all isNm=V
  all_goals grind
theorem u9 {T gs:List (List Ce)}(h1:T.Nodup) (h2:gs.Nodup) (h:∀x,x∈T↔x∈gs) (srt:(gs.map cD).Pairwise leD):cG (T.map cD)=gs.map cD:=
 fP (vQ T) _ _ (λ_ hy=>(ay _).mem_iff.mp hy) ((ay _).trans (((MI h1 h2).mpr h).map cD)) (bU (vQ T)) srt
theorem nbl (c:List Ce):aJ (au (af 6) (λδ=>eqO (ixO (rd Y 6 δ) (U (.int 0))) (U (.str "blank"))) dM [B,B,B,B,B,B,B]) (c.map ceD)=U ((c.filter λx=>!isNm x).map ceD):=bw λx _=>by
 unfold au;rw[toName_s _ _ _ (by simp)]
 show(match eqO (ixO (U (ceD x)) (U (.int 0))) (U (.str "blank"))with|some V=>_|some Y=>_|none=>_)=_
 rw[DC];cases isNm x<;>rfl
structure An (H:List Row) (as:List IX) (ps:List Pat) (gs:List (List Ce)):Prop where
 nd:gs.Nodup
 iff:∀x,x∈gs↔(∃φ:Fit,x=as.map φ/\∀p∈ps,eG H φ p)/\x.all isNm=V
 srt:(gs.map cD).Pairwise leD
theorem ifA {a b:Option Bool}{p q:Bool}{x y r:Option Out}(ha:a=U p) (hb:b=U q) (h:ifO (U (p&&q)) x y=r):ifO (mN a b) x y=r:=by
 subst ha hb;cases p<;>cases q<;>exact h
theorem Au {H:List Row}(hH:H.length<=20) {ps:List Pat}(hp:ps.length<=2) (h4:∀p∈ps,p.2.length<=4) {as:List IX}(ha:as.length<=100) (hl:∀l∈as,l∈aX ps) {gs:List (List Ce)}(A:An H as ps gs):f__law_sure [.lst (H.map rowD),.tup [.lst (as.map .str),.lst (ps.map az)]]=U (.lst (gs.map cD),V):=by
 obtain⟨L,l1,l2,l3,e⟩:=DU (x:=U (.lst (H.map rowD))) (y:=U (.lst (ps.map az))) (z:=U (ftD ([],λ_=>default))) rfl rfl rfl hH hp h4 Kc (by simp)
 have hk:∀q∈L,∀l∈as,l∈q.1:=λq hq l h=>((l2 q hq).2.2.1 l).mpr (.inr (hl l h))
 obtain⟨_,y,el⟩:=iu (γ:=Option (D×Bool)×Option (D×Bool)) (f:=ftD) (F:=zt as) (m:=Kk) (k:=1) (PZ:=1000) (xs:=L) (s:=[]) (y:=(B,B)) (body:=λd δ=>ae ((af 3) d δ) ix)
  (E:=λT y=>[U (.lst (H.map rowD),Y),U (.tup [.lst (as.map .str),.lst (ps.map az)],Y),U (.lst (T.map cD),V),y.1,y.2,B,B]) (by simpa using l1) λq hq T y hT=>by
   refine⟨by unfold zt;split<;>simp,(U (ftD q,Y),U (cD (as.map q.2),Y)),bE rfl (sqO (d:=cD (as.map q.2)) ?_ ?_)⟩
   ·have ec:aJ (au (af 5) (λδ=>U V) gT [B,B,B,U (ftD q,Y),B,B,B]) (as.map D.str)=U (as.map λl=>ceD (q.2 l)):=aM λl hl'=>itG (CQ (t:=.any l) (q:=q) (rE rfl rfl) rfl λm z=>by cases z;exact hk q hq l hl')
    refine(congrArg cK (lO rfl (by simp;lia) rfl ec (by simp;lia))).trans ?_
    simp[cD]
   ·have c1:cE (aj (ae (rB (U (cD (as.map q.2)))) (bj Y [Y,Y,Y,Y,Y,Y,Y] (af 6) (λδ=>eqO (ixO (rd Y 6 δ) (U (.int 0))) (U (.str "blank"))) dM [U (.lst (H.map rowD),Y),U (.tup [.lst (as.map .str),.lst (ps.map az)],Y),U (.lst (T.map cD),V),U (ftD q,Y),U (cD (as.map q.2),Y),B,B])))=U (.int (((as.map q.2).filter λx=>!isNm x).length:Int)):=
     (zu (lO (ds:=(as.map q.2).map ceD) rfl (by simp;lia) rfl (nbl _) (by rw[IC];exact IR (Ka ..) (by simp;lia)))).trans (by rw[IC])
    have c2:decide ((((as.map q.2).filter λx=>!isNm x).length:Int)=0)=(as.map q.2).all isNm:=by
     rw[Ku,decide_eq_true_eq,IW,Int.natCast_eq_zero,List.length_eq_zero_iff,Pp];simp
    refine ifA (xD (λ_ _=>gm) zY _ _) ((congrArg (λz=>eqO z (U (.int 0))) c1).trans ((eqO_int _ _).trans (congrArg U c2))) ?_
    unfold zt
    by_cases z1:as.map q.2∈T
    ·rw[decide_eq_true z1,if_neg λz=>z.1 z1];rfl
    ·rw[decide_eq_false z1]
     cases z2:(as.map q.2).all isNm with
     |false=>rw[if_neg λz=>nomatch z.2];rfl
     |true=>
      rw[if_pos ⟨z1,rfl⟩,Jd];exact ifG rfl (Hp (ds:=T.map cD) (d:=cD (as.map q.2)) rfl rfl (by simp;lia))
 obtain⟨t1,t2⟩:=Cf as L Kc;refine stF (d:=.lst []) (lstO_s _ (by simp)) (stN (bE (congrArg bA e) el) (rF ?_))
 have tg:∀x,x∈L.foldl (zt as) []↔x∈gs:=λx=>by
  rw[t2,A.iff];refine⟨λh=>?_,λ⟨⟨φ,h1,h2⟩,h3⟩=>.inr ⟨?_,h3⟩⟩
  ·rcases h with h|⟨⟨q,hq,h1⟩,h3⟩
   ·cases h
   ·exact⟨⟨q.2,h1,(l2 q hq).2.2.2.2⟩,h3⟩
  ·obtain⟨q,hq,h⟩:=l3 φ (λ_ h=>nomatch h) h2
   exact⟨q,hq,h1.trans (Js λl hl'=>(h l (hk q hq l hl')).symm)⟩
 have:=fQ (c:=.tt) (vQ (L.foldl (zt as) [])) ((HL t1 (n:=as.length) λc hc=>by obtain⟨⟨φ,rfl,_⟩,_⟩:=(A.iff c).mp ((tg c).mp hc);simp).imp (λh=>by simpa using h) id)
 rw[u9 t1 A.nd tg A.srt]at this;exact this
theorem Hh {H:List Row}{as:List IX}{ps:List Pat}{gs:List (List Ce)}(h1:gs.Nodup) (h2:∀x,x∈gs↔∃φ:Fit,x=as.map φ/\∀p∈ps,eG H φ p) (h3:(gs.map cD).Pairwise leD):An H as ps (gs.filter λc=>c.all isNm):=
 ⟨h1.filter _,λx=>by rw[List.mem_filter,h2],h3.sublist (List.filter_sublist.map cD)⟩
theorem An.sub {H H':List Row}{as:List IX}{ps:List Pat}{gs hs:List (List Ce)}(A:An H as ps gs) (PZ:An H' as ps hs) {g:Int->Ce}(i:Into g H H'):∀x∈gs,x∈hs:=λx hx=>by
 obtain⟨⟨φ,rfl,h⟩,hn⟩:=(A.iff x).mp hx;refine(PZ.iff _).mpr ⟨⟨λl=>hc g (φ l),Js λl hl=>?_,λp hp=>i.fit (h p hp)⟩,hn⟩
 have:=List.all_eq_true.mp hn (φ l) (List.mem_map.mpr ⟨l,hl,rfl⟩);cases e:φ l with
 |nm w=>rfl
 |bk n=>rw[e]at this;cases this
end K61
namespace K61
open PySem L2 JP
variable[Md]
theorem BX {α:Type}{f:α->D}{xs:List α}{i:Nat}(h:i<xs.length) {j:Int}(hj:j=i):atI (xs.map f) j=U (f xs[i]):=by
 subst hj;exact pM (by lia) (by simp[h])
theorem E5 (i j:Int) (h: -(2 ^ 62)<=i/\i<2 ^ 62/\ -(2 ^ 62)<=j/\j<2 ^ 62):GF (U (.int i)) (U (.int j))=U (iK i (j - i).toNat):=by
 simp only[GF];exact if_pos (decide_eq_true h)
theorem D4 (gs:List (List Ce)):okD 16 (.lst (gs.map cD))=V:=mX λd hd=>by
 obtain⟨c,_,rfl⟩:=List.mem_map.mp hd;exact HV c
theorem yB {s:IX}(hs:s="sure"\/s="open") {H:List Row}{as:List IX}{ps:List Pat}{gs:List (List Ce)}(A:An H as ps gs) (hg:gs.length<=625):f__law_is_told [.tup [.str s,.lst (gs.map cD)]]=U (.bl V,Y):=by
 have nn:neO (U (.str "name")) (U (.str "name"))=U Y:=by unfold neO;rw[aD,decide_eq_true rfl];rfl
 obtain⟨δ1,e1,x1,x2,rfl⟩:=kL (body:=λd δ=>ae ((af 1) d δ) d7) (ds:=gs.map cD) (δ:=[U (.tup [.str s,.lst (gs.map cD)],Y),B,B,B]) (λδ=>∃x1 x2,δ=[U (.tup [.str s,.lst (gs.map cD)],Y),x1,x2,B]) ⟨B,B,rfl⟩ λd hd δ hz=>by
  obtain⟨x1,x2,rfl⟩:=hz;obtain⟨c,hc,rfl⟩:=List.mem_map.mp hd;have hn:=((A.iff c).mp hc).2;obtain⟨δ2,e2,y2,rfl⟩:=kL (body:=λd δ=>ae ((af 2) d δ) dY) (ds:=c.map ceD) (δ:=[U (.tup [.str s,.lst (gs.map cD)],Y),U (cD c,Y),x2,B]) (λδ=>∃x2,δ=[U (.tup [.str s,.lst (gs.map cD)],Y),U (cD c,Y),x2,B]) ⟨x2,rfl⟩ λd hd δ hz=>by
   obtain⟨x2,rfl⟩:=hz;obtain⟨e,he,rfl⟩:=List.mem_map.mp hd;have:=List.all_eq_true.mp hn e he;cases e with
   |bk n=>cases this
   |nm w=>
    refine⟨_,.inl (bE rfl (ifN (x:=aW (U (.bl Y))) ?_ rfl)),_,rfl⟩
    show orO (neO (U (.str "name")) (U (.str "name"))) _=_;rw[nn];rfl
  exact⟨_,.inl (bE rfl (ifF (x:=aW (U (.bl Y))) rfl (sqN rfl e2))),_,_,rfl⟩
 obtain⟨δ3,e3,x3,rfl⟩:=kL (body:=λd δ=>ae ((af 3) d δ) dW) (ds:=iK 1 (((gs.map cD).length:Int) - 1).toNat) (δ:=[U (.tup [.str s,.lst (gs.map cD)],Y),x1,x2,B]) (λδ=>∃x3,δ=[U (.tup [.str s,.lst (gs.map cD)],Y),x1,x2,x3]) ⟨B,rfl⟩ λd hd δ hz=>by
  obtain⟨x3,rfl⟩:=hz;obtain⟨i,hi,rfl⟩:=nt hd;rw[IC]at hi;refine⟨_,.inl (bE rfl (ifN ?_ rfl)),_,rfl⟩
  show eqO (ixO (U (.lst (gs.map cD))) (U (.int (1+(i:Int) - 1)))) (ixO (U (.lst (gs.map cD))) (U (.int (1+(i:Int)))))=_;rw[ixO_l,ixO_l,BX (i:=i) (by lia) (by lia),BX (i:=i+1) (by lia) (by lia),sZ _ _ (by unfold ok2;rw[zY,zY];rfl),decide_eq_false]
  intro z;have:=(List.getElem_inj A.nd).mp (gm z)
  lia
 have len:∀c∈gs,c.length=as.length:=λc hc=>by obtain⟨⟨φ,rfl,_⟩,_⟩:=(A.iff c).mp hc;simp
 have es:=fQ (c:=.tt) (vQ gs) ((HL A.nd len).imp (λh=>by simpa using h) id)
 rw[u9 A.nd A.nd (λ_=>.rfl) A.srt]at es
 refine stI rfl (stI ?_ (stI ?_ (stN e1 (stN (bE ?_ e3) (rO ?_)))))
 ·rcases hs with rfl|rfl<;>rfl
 ·rcases hs with rfl|rfl<;>rfl
 ·exact E5 1 ((gs.map cD).length:Int) ⟨by decide,by decide,by lia,by rw[IC];lia⟩
 ·show ofB (eqO (U (.lst (gs.map cD))) (eB .tt (U (.lst (gs.map cD)))))=_
  rw[es,sZ _ _ (by unfold ok2;rw[D4 gs];rfl),decide_eq_true rfl];rfl
theorem Ev (R:Ru):f__law_copy [ruD R]=U (ruD R,Y):=by
 cases R with
 |must ps qs=>
  have hc:eqO (U (.str "must")) (U (.str "must"))=U V:=by rw[aD,decide_eq_true rfl]
  exact opn rfl (stR hc (Ia rfl rfl rfl))
 |same ps a b=>
  have hc:eqO (U (.str "same")) (U (.str "must"))=U Y:=by rw[aD,decide_eq_false (by decide +kernel)]
  exact opn rfl (stI hc (rO (Ie rfl rfl rfl rfl)))
theorem Hf (R:Ru):okD 14 (ruD R)=V:=by
 cases R with
 |must ps qs=>
  show([D.str "must",.lst (ps.map az),.lst (qs.map az)]).all (okD 13)=V;simp[okD.eq_3,si 9]
 |same ps a b=>
  show([D.str "same",.lst (ps.map az),teD a,teD b]).all (okD 13)=V;simp[okD.eq_3,si 9,uA a 12,uA b 12]
theorem CD {fe:DEnv->Option D}{ft:DEnv->Option Bool}{ε:DEnv}{xs T:List (List Ce)}(hx:∀x∈xs,x∈T) (hi:NL 10 ε.length=V) (hf:∀x,ft (ε.set 10 (U (cD x,Y)))=bC (U (cD x)) (U (.lst (T.map cD)))):aJ (au (af 10) ft fe ε) (xs.map cD)=U []:=by
 rw[bw (p:=λ_=>Y) (h:=cD) λx hx'=>?_]
 ·simp
 ·unfold au
  rw[toName_s _ _ _ (Kz hi)];show(match ft (ε.set 10 (U (cD x,Y)))with|some V=>_|some Y=>_|none=>_)=_
  rw[hf,xD (λ_ _=>gm) zY,decide_eq_true (hx x hx')];rfl
end K61
namespace K61
open PySem L2 JP
variable[Md]
theorem EA {H:List Row}(hH:H.length<=20) {ps:List Pat}(hp:ps.length<=2) (p4:∀p∈ps,p.2.length<=4) {as:List IX}(ha:as.length<=100) (hl:∀l∈as,l∈aX ps):∃gs:List (List Ce),gs.length<=625/\An H as ps gs/\
  (∀{rows RL:D}{mo:Int}{s:IX}{st:List D},s="full"\/s="open"->f_full [rows,RL,.int mo]=U (fuV s H st,Y)->f_sure [rows,RL,.tup [.lst (as.map .str),.lst (ps.map az)],.int mo]=U (.tup [.str (if s="full" then "sure" else "open"),.lst (gs.map cD)],Y))/\
  f__law_sure [.lst (H.map rowD),.tup [.lst (as.map .str),.lst (ps.map az)]]=U (.lst (gs.map cD),V):=by
 obtain⟨gs,g1,g2,g3,g4,eg⟩:=wJ (rs:=H) (by lia) hp p4 ha hl
 have A:=Hh g1 g2 g3;exact⟨_,IR (Ka ..) g4,A,λhs hf=>CH hs hf eg g4 λc hc=>by obtain⟨φ,rfl,_⟩:=(g2 c).mp hc;simp;lia,Au hH hp p4 ha hl A⟩
theorem Iq (as:List IX) (ps:List Pat):okD 15 (.tup [.lst (as.map .str),.lst (ps.map az)])=V:=by
 show([D.lst (as.map .str),.lst (ps.map az)]).all (okD 14)=V;simp[si 10,mX (n:=13) λd (hd:d∈as.map D.str)=>by obtain⟨s,_,rfl⟩:=List.mem_map.mp hd;rfl]
theorem dg {x y:IX}(h:x≠y):eqO (U (.str x)) (U (.str y))=U Y:=by rw[aD,decide_eq_false h]
theorem cT (x:IX):eqO (U (.str x)) (U (.str x))=U V:=by rw[aD,decide_eq_true rfl]
theorem FO {a b:Option Bool}(h:a=U Y):mN a b=U Y:=by subst h;rfl
theorem E8 {a b r:Option Bool}(h:a=U V) (k:b=r):mN a b=r:=by subst h;exact k
theorem ofG {x:Option Bool}{b:Bool}(h:x=U b):ofB x=U (.bl b):=by subst h;rfl
theorem neG {x y:Option D}{b:Bool}(h:eqO x y=U b):neO x y=U (!b):=by unfold neO;rw[h];rfl
theorem orF {a b r:Option Bool}(h:a=U Y) (k:b=r):orO a b=r:=by subst h;exact k
theorem Ih {x y z:Option D}{a b c:D}(h:x=U a) (h':y=U b) (h2:z=U c):cX (aa x (aa y (aa z (U []))))=U (.lst [a,b,c]):=by subst h h' h2;simp only[consO_s];exact lstO_s _ (by simp)
theorem eqT {x y:Option D}{d:D}(h:x=U d) (h':y=U d) (ok:okD 16 d=V):eqO x y=U V:=by
 subst h h';rw[sZ _ _ (by unfold ok2;rw[ok];rfl),decide_eq_true rfl]
theorem Iu (s:IX) (gs:List (List Ce)):okD 16 (.tup [.str s,.lst (gs.map cD)])=V:=by
 show([D.str s,.lst (gs.map cD)]).all (okD 15)=V;simp[okD.eq_3,mX (n:=14) λd (hd:d∈gs.map cD)=>by obtain⟨c,_,rfl⟩:=List.mem_map.mp hd;exact dR (f:=ceD) (λa=>by cases a<;>rfl) c]
theorem clL {ds:List D}(hd:ds.length=3):cI gLt (cE (U (.tup (.str "clash"::ds)))) (U (.int 3))=U Y:=by rw[lenL_t,IU,hd];rfl
theorem clE (ds:List D):eqO (ixO (U (.tup (.str "clash"::ds))) (U (.int 0))) (U (.str "clash"))=U V:=by rw[ixO_t,Hc];exact cT _
theorem Bx {RR:List Ru}(wf:∀R∈RR,Wf R) (hR:RR.length<=100) {rs:List Row}(h4:∀q∈rs,q.2.length<=4) (hrs:rs.length<=6) {as:List IX}{ps:List Pat}(hp:ps.length<=2) (p4:∀p∈ps,p.2.length<=4) (ha:as.length<=100) (hl:∀l∈as,l∈aX ps) {mo:Int}(m4:mo<=4):
  f__law_right [.lst (rs.map rowD),.lst (RR.map ruD),.tup [.lst (as.map .str),.lst (ps.map az)],.int mo]=U (.bl V,Y):=by
 obtain⟨v,w,⟨rs1,rs4,⟨g,hg⟩,⟨g',hg'⟩,i1,i4,hv,hk1,hm1⟩,e1,e4⟩:=A7 wf hR hrs h4 m4;obtain⟨g0,l0,A0,_,s0⟩:=EA (H:=rs) (by lia) hp p4 ha hl
 obtain⟨g1,l1,A1,s1,t1⟩:=EA i1 hp p4 ha hl;obtain⟨g4,l4,A4,s4,t4⟩:=EA i4 hp p4 ha hl;obtain⟨kb,ek,hkb⟩:=xV (H:=rs) (by lia) wf
 have sub01:=A0.sub A1 hg;have sub14:=A1.sub A4 hg';have ne1:("sure":IX)≠"open":=by decide +kernel
 have ne3:("clash":IX)≠"sure":=by decide +kernel
 have ne4:("clash":IX)≠"open":=by decide +kernel
 have ne5:("full":IX)≠"clash":=by decide +kernel
 have ne7:("open":IX)≠"full":=by decide +kernel
 have fo:(if("open":IX)="full" then("sure":IX) else "open")="open":=if_neg ne7
 obtain⟨fv,ef,et,hc⟩:∃fv,f_sure [.lst (rs.map rowD),.lst (RR.map ruD),.tup [.lst (as.map .str),.lst (ps.map az)],.int mo]=U (fv,Y)/\f__law_is_told [fv]=U (.bl V,Y)/\
   ((fv=.tup [.str "sure",.lst (g1.map cD)]/\(∃st,w=fuV "full" rs1 st)/\(∀R∈RR,vV rs1 R)/\rs4=rs1)\/
   (fv=.tup [.str "clash"]/\(∃ds:List D,ds.length=3/\w=.tup (.str "clash"::ds))/\¬∃st,v=fuV "full" rs1 st)\/
   fv=.tup [.str "open",.lst (g1.map cD)]/\Fo rs4 w/\¬∃st,v=fuV "full" rs1 st):=by
  rcases hv with⟨st,rfl,h1,h2,h3⟩|⟨ds,hd,rfl,h1⟩|⟨⟨st,rfl⟩,h1⟩
  ·exact⟨_,s1 (.inl rfl) e1,yB (.inl rfl) A1 l1,.inl ⟨by rw[if_pos rfl],⟨st,h1⟩,h2,h3⟩⟩
  ·refine⟨_,wH e1,opn rfl (stI rfl (stR (cT _) rfl)),.inr (.inl ⟨rfl,⟨ds,hd,h1⟩,λ⟨st,z⟩=>ne5 ?_⟩)⟩
   simp at z;exact z.1.symm
  ·refine⟨_,s1 (.inr rfl) e1,by rw[fo];exact yB (.inr rfl) A1 l1,.inr (.inr ⟨by rw[fo],h1,λ⟨st,z⟩=>ne7 ?_⟩)⟩
   simp at z;exact z.1
 have oq:=Iq as ps;have hq:bF (aa (eQ (ixO (U (.tup [.lst (as.map .str),.lst (ps.map az)])) (U (.int 0)))) (aa (eQ (ixO (U (.tup [.lst (as.map .str),.lst (ps.map az)])) (U (.int 1)))) (U [])))=U (.tup [.lst (as.map .str),.lst (ps.map az)]):=rE rfl rfl;generalize D.tup [.lst (as.map .str),.lst (ps.map az)]=Q at*;have eg:rs1=rs->g0=g1:=λz=>by
  subst z;injection t1.symm.trans s0 with z;injection z with z _;injection z with z
  exact(List.map_inj_right λ_ _=>gm).mp z.symm
 have okH:okD 16 (.lst [.lst (rs.map rowD),.lst (RR.map ruD),Q])=V:=by
  show([D.lst (rs.map rowD),.lst (RR.map ruD),Q]).all (okD 15)=V;simp[AK 11,oq,mX (n:=14) λd (hd:d∈RR.map ruD)=>by obtain⟨R,_,rfl⟩:=List.mem_map.mp hd;exact Hf R]
 refine opn rfl (stO (d:=.lst [.lst (rs.map rowD),.lst (RR.map ruD),Q]) ?_ (stO (d:=fv) (shG ef) (stI ?_ (stO (d:=.lst (g0.map cD)) (frG s0) ?_))))
 ·exact Ih rfl (lO rfl (by simp;lia) rfl (aM λR _=>itG (shG (Ev R))) (by simp;lia)) hq
 ·exact orF (congrArg (λz=>fM (tyB (shO z))) et) (neG (eqT rfl (Ih rfl rfl rfl) okH))
 cases kb with
 |true=>
  obtain⟨rfl,hst⟩:=hk1 (hkb.mp rfl)
  rcases hc with⟨rfl,_⟩|⟨_,_,z⟩|⟨_,_,z⟩
  ·exact stR (congrArg (λz=>tyB (shO z)) ek) (ofG (eqT rfl (eg rfl▸rE rfl rfl) (Iu _ _)))
  ·exact absurd hst z
  ·exact absurd hst z
 |false=>
  refine stI (congrArg (λz=>tyB (shO z)) ek) ?_
  have nm:∀{X:Prop},mo=0->(rs1=rs->X)->X:=λh k=>k (hm1 (by simp[h]))
  rcases hc with⟨rfl,⟨st,rfl⟩,k1,rfl⟩|⟨rfl,⟨ds,hd,rfl⟩,_⟩|⟨rfl,hw,_⟩
  ·refine stI (dg ne1) (stI (E8 (cT _) ((eqG rfl rfl).trans (congrArg U (decide_eq_false λz=>nm z λz=>by subst z;exact nomatch hkb.mpr k1)))) (stO (shG e4) (stI rfl (stI (dg ne5) (stO (frG t1) (stR (E8 (cT _) (cT _)) (ofG (b:=V) ?_)))))))
   exact eqT rfl rfl (D4 g1)
  ·refine stI (dg ne4) (stI (FO (dg ne3)) (stO (shG e4) (stI ?_ (stR ?_ (ofG (b:=V) (neG (dg ne3)))))))
   ·exact orF rfl (clL hd)
   ·exact clE ds
  ·refine stN (ifG (cT _) (sqN (ifN ?_ rfl) (ifN ?_ rfl))) (stI (FO (dg ne1.symm)) (stO (shG e4) ?_))
   ·exact(congrArg (λz=>cI gGt z (U (.int 0))) (zu (lO rfl (by rw[IC];lia) rfl (CD sub01 rfl λx=>rfl) (by simp)))).trans rfl
   ·by_cases h0:mo=0
    ·exact E8 ((eqG rfl rfl).trans (congrArg U (decide_eq_true h0))) (neG (eqT rfl (eg (hm1 (by simp[h0]))▸rfl) (D4 g1)))
    ·exact FO ((eqG rfl rfl).trans (congrArg U (decide_eq_false h0)))
   rcases hw with⟨st,rfl⟩|⟨ds,hd,rfl⟩|⟨st,rfl⟩
   ·refine stI rfl (stI (dg ne5) (stO (frG t4) (stI (E8 (cT _) (dg ne1.symm)) (stR (E8 (cT _) (cT _)) (ofG (b:=V) ?_)))))
    exact(congrArg (λz=>eqO z (U (.int 0))) (zu (lO rfl (by rw[IC];lia) rfl (CD sub14 rfl λx=>rfl) (by simp)))).trans (eqO_int _ _)
   ·refine stI ?_ (stR ?_ (ofG (b:=V) (neG (dg ne1.symm))))
    ·exact orF rfl (clL hd)
    ·exact clE ds
   ·exact stI rfl (stI (dg ne4.symm) (stO (frG t4) (stI (FO (dg ne7)) (stI (FO (dg ne7)) (stI (dg ne1.symm) (rO (ofG (cT _))))))))
end K61
namespace K61
open PySem L2 JP
variable[Md]
theorem vn (cs:List Int) {lo hi:Int}(h0:0<=lo) (h1:lo<=hi) {k:Nat}(hk:hi<=lo+k):∃xs:List Int,xs.length<=k/\rG (cs.map D.int) (U lo) (U hi)=xs.map D.int:=by
 obtain⟨a,rfl⟩:=Pt h0;obtain⟨b,rfl⟩:=Pt (Int.le_trans h0 h1);refine⟨(cs.drop (min a cs.length)).take (min b cs.length - min a cs.length),?_,?_⟩
 ·simp;lia
 ·unfold rG
  simp[tj,IC,NP,NQ]
theorem Iw {x1 x2 x3 x4 x5 x6:Option D}{a b c d e f:D}(h1:x1=U a) (h2:x2=U b) (h3:x3=U c) (h4:x4=U d) (h5:x5=U e) (h6:x6=U f):bF (aa x1 (aa x2 (aa x3 (aa x4 (aa x5 (aa x6 (U [])))))))=U (.tup [a,b,c,d,e,f]):=by
 simp_all
theorem Ij {x:Option D}{l u:Option (Option Int)}{ds:List D}{a b:Option Int}(h:x=U (.lst ds)) (h1:l=U a) (h2:u=U b):bA (wC x l u)=U (rG ds a b):=by subst h h1 h2;rfl
theorem C8 {cs:List Int}{at':Int}(h0:0<=at') (h1:at'<cs.length):∃(rs:List Row) (RR:List Ru) (tb:List (IX×Int)) (ns:List IX) (nu:List Int) (e:Int),Dr tb ns nu/\(∀R∈RR,Wf R)/\RR.length<=3/\(∀q∈rs,q.2.length<=4)/\rs.length<=4/\at'<e/\
  f__law_made [.lst (cs.map .int),.int at']=U (.tup [.lst (rs.map rowD),.lst (RR.map ruD),.lst (tb.map tbD),.lst (ns.map .str),.lst (nu.map .int),.int e],Y):=by
 rw[ao (f:=f__law_made) (δ:=[U (.lst (cs.map .int),Y),U (.int at',Y),B,B,B,B,B,B,B,B,B]) rfl rfl rfl];obtain⟨c,_,ec⟩:=qg (f:=D.int) h0 h1;obtain⟨tb,t1,t2,et⟩:=yf c;obtain⟨ns,n1,en⟩:=yd (x:=gO (U (.int c)) (U (.int 7))) (y:=U (.int 3)) (oE rfl rfl (by decide)) rfl (by decide) (by decide)
 obtain⟨nu,u1,eu⟩:=ww (c / 5);have PY:Dr tb ns nu:=⟨t1,t2,n1,u1⟩;obtain⟨xs,x1,ex⟩:=vn cs (lo:=at'+1) (hi:=at'+1+1+c / 11%3) (k:=3) (by lia) (by lia) (by lia)
 obtain⟨ys,y1,ey⟩:=vn cs (lo:=at'+1+1+c / 11%3) (hi:=at'+1+1+c / 11%3+c / 33%5) (k:=4) (by lia) (by lia) (by lia)
 obtain⟨RR,r1,r2,er⟩:=oN (f:=D.int) (g:=ruD) (P:=Wf) (xs:=xs) (F:=au (af 10) (λδ=>U V) gZ [B,B,B,U (.lst (tb.map tbD),Y),U (.lst (ns.map .str),Y),B,B,B,B,B,B]) λk _=>by
  obtain⟨R,hR,e⟩:=CO PY k;exact⟨R,hR,itG (show shO (f__law_rule [.int k,.lst (tb.map tbD),.lst (ns.map .str)])=_ by rw[e];rfl)⟩
 obtain⟨qs,q1,q2,eq⟩:=oN (f:=D.int) (g:=rowD) (P:=λr:Row=>r.2.length<=4) (xs:=ys) (F:=au (af 10) (λδ=>U V) gW [B,B,B,U (.lst (tb.map tbD),Y),U (.lst (ns.map .str),Y),U (.lst (nu.map .int),Y),B,B,B,B,B]) λk _=>by
  obtain⟨r,hr,e⟩:=FS PY k;exact⟨r,hr,itG (show shO (f__law_row [.int k,.lst (tb.map tbD),.lst (ns.map .str),.lst (nu.map .int)])=_ by rw[e];rfl)⟩
 obtain⟨rs,s1,s2,es,_⟩:=GT (x:=U (.lst (qs.map rowD))) rfl (by lia)
 refine⟨rs,RR,tb,ns,nu,at'+1+1+c / 11%3+c / 33%5,PY,r2,by lia,λq hq=>q2 q ((s1 q).mp hq),by lia,by lia,
  stO (ixG rfl rfl ec) (stO (d:=.lst (tb.map tbD)) ?_ (stO en (stO (d:=.lst (nu.map .int)) ?_ (stO (lJ (lJ (lJ rfl rfl) rfl) (gP (oE rfl rfl (by decide)) rfl (by decide))) (stO (lJ rfl (gP (oE rfl rfl (by decide)) rfl (by decide))) (stF (d:=.lst (RR.map ruD)) (lO ((Ij rfl (ph (lJ rfl rfl)) (ph rfl)).trans (congrArg U ex)) (by simp;lia) rfl er (by simp;lia)) (stO (d:=.lst (rs.map rowD)) ?_ (rO (Iw rfl rfl rfl rfl rfl rfl)))))))))⟩
 ·simp_all
 ·simp_all
 ·refine Eq.trans (congrArg (λz=>frO (ae (aa z (U [])) f__law_stand)) ?_) es
  exact lO ((Ij rfl (ph rfl) (ph rfl)).trans (congrArg U ey)) (by simp;lia) rfl eq (by simp;lia)
noncomputable abbrev eL (a0:Option (D×Bool)) (cs:List Int) (at':Int) (x3 x4 x5 x6 x7 x8 x9:Option (D×Bool)):DEnv:=[a0,U (.lst (cs.map .int),Y),U (.int at',Y),x3,x4,x5,x6,x7,x8,x9]
theorem BE (a0:Option (D×Bool)) {cs:List Int}{at':Int}(h0:0<=at') (h1:at'<cs.length) (x3 x4 x5 x6 x7 x8 x9:Option (D×Bool)):∃(e:Int) (y3 y4 y5 y6 y7 y8 y9:Option (D×Bool)),at'<e/\rS (eL a0 cs at' x3 x4 x5 x6 x7 x8 x9)=U (.next (eL a0 cs e y3 y4 y5 y6 y7 y8 y9)):=by
 obtain⟨rs,RR,tb,ns,nu,e,PY,wf,rl,h4,hl,he,em⟩:=C8 h0 h1;obtain⟨c,_,ec⟩:=qg (f:=D.int) h0 h1;obtain⟨as,ps,p1,p2,p3,p4,eq⟩:=tD PY (c / 165);have er:=Bx wf (by lia) h4 (by lia) p1 p2 p3 p4 (mo:=c / 13%5) (by lia)
 refine⟨e,U (.lst (rs.map rowD),Y),U (.lst (RR.map ruD),Y),U (.lst (tb.map tbD),Y),U (.lst (ns.map .str),Y),U (.lst (nu.map .int),Y),U (.int e,Y),U (.tup [.lst (as.map .str),.lst (ps.map az)],Y),he,?_⟩
 refine sqN (δ:=eL a0 cs at' (U (.lst (rs.map rowD),Y)) (U (.lst (RR.map ruD),Y)) (U (.lst (tb.map tbD),Y)) (U (.lst (ns.map .str),Y)) (U (.lst (nu.map .int),Y)) (U (.int e,Y)) x9) ?_ (sqO (d:=.tup [.lst (as.map .str),.lst (ps.map az)]) ?_ (ifF ?_ (sqN rfl rfl)))
 ·show GX (shO (f__law_made [.lst (cs.map .int),.int at'])) _ _=_
  rw[em];rfl
 ·show shO (ae (aa (gO (ixO (U (.lst (cs.map .int))) (U (.int at'))) (U (.int 165))) _) f__law_question)=_
  rw[oE (ixG rfl rfl ec) rfl (by decide)]
  exact shG eq
 ·show fM (tyB (shO (ae (aa _ (aa _ (aa _ (aa (bW (gO (ixO (U (.lst (cs.map .int))) (U (.int at'))) (U (.int 13))) (U (.int 5))) _)))) f__law_right)))=_
  rw[gP (oE (ixG rfl rfl ec) rfl (by decide)) rfl (by decide)]
  exact congrArg (λz=>fM (tyB (shO z))) er
theorem whF {t:DEnv->Option Bool}{b:DEnv->Option Out}{n:Nat}{δ:DEnv}(h:t δ=U Y):aP t b (n+1) δ=U (.next δ):=by
 unfold aP;rw[h]
theorem whT {t:DEnv->Option Bool}{b:DEnv->Option Out}{n:Nat}{δ δ':DEnv}(h:t δ=U V) (k:b δ=U (.next δ')):aP t b (n+1) δ=aP t b n δ':=by
 conv=>lhs;unfold aP
 rw[h,k]
theorem D0 (a0:Option (D×Bool)) (cs:List Int) (at':Int) (x3 x4 x5 x6 x7 x8 x9:Option (D×Bool)):sD (eL a0 cs at' x3 x4 x5 x6 x7 x8 x9)=U (decide (at'<cs.length)):=by
 show cI gLt (U (.int at')) (cE (U (.lst (cs.map .int))))=_;simp
theorem zR (a0:Option (D×Bool)) (cs:List Int) (m:Nat):∀(fuel:Nat) (at':Int) (x3 x4 x5 x6 x7 x8 x9:Option (D×Bool)),0<=at'->(cs.length:Int)<=at'+m->m<fuel->∃δ,aP sD rS fuel (eL a0 cs at' x3 x4 x5 x6 x7 x8 x9)=U (.next δ):=by
 induction m with
 |zero=>
  intro fuel at' x3 x4 x5 x6 x7 x8 x9 h0 hm hf;obtain⟨f,rfl⟩:∃f,fuel=f+1:=⟨fuel - 1,by lia⟩
  exact⟨_,whF ((D0 ..).trans (congrArg U (decide_eq_false (by lia))))⟩
 |succ m ih=>
  intro fuel at' x3 x4 x5 x6 x7 x8 x9 h0 hm hf;obtain⟨f,rfl⟩:∃f,fuel=f+1:=⟨fuel - 1,by lia⟩
  by_cases h:at'<cs.length
  ·obtain⟨e,y3,y4,y5,y6,y7,y8,y9,he,eb⟩:=BE a0 h0 h x3 x4 x5 x6 x7 x8 x9
   rw[whT ((D0 ..).trans (congrArg U (decide_eq_true h))) eb];exact ih f e y3 y4 y5 y6 y7 y8 y9 (by lia) (by lia) (by lia)
  ·exact⟨_,whF ((D0 ..).trans (congrArg U (decide_eq_false h)))⟩
theorem pure (ns:List Int) (hn:ns.length<=63):f_law [.lst (ns.map D.int)]=U (.bl V,Y):=by
 obtain⟨cs,hcs⟩:∃cs:List Int,cs=ns.take 30++[0,0]:=⟨_,rfl⟩;obtain⟨δ,e⟩:=zR (U (.lst (ns.map D.int),Y)) cs 32 1000 0 B B B B B B B (by decide) (by rw[hcs];simp;lia) (by decide)
 refine stO (d:=.lst (cs.map D.int)) ?_ (stO rfl (stN e (rO rfl)))
 show pY (U (.lst (rG (ns.map D.int) B (U ((30:Nat):Int))))) (cX (U [.int 0,.int 0]))=_;rw[Bd,lstO_s _ (by simp),catO_s _ _ (by simp;lia),hcs,Jd];rfl
end K61
namespace L2
open PySem PySem.Spec PyProof.Rows PySem.W PySem.Calls
theorem mF {a:IZ}{o:N1}:∀{l:Frag},l.lookup a=U o->(a,o)∈l
 |[],h=>nomatch h
 |(b,p)::l,h=>by
  rw[Om]at h;cases e:a==b with
  |true=>rw[e]at h;cases h;rw[beq_iff_eq.mp e];exact .head _
  |false=>rw[e]at h;exact .tail _ (mF h)
set_option tactic.hygienic true in
theorem vF (h:Kl) {a:IZ}{o:N1}(e:(Ef h).lookup a=U o):h.get? a=U o/\(o.cls != .type "list")=V:=by
 obtain⟨b,_,hb⟩:=List.mem_filterMap.mp (mF e);obtain⟨p,h1,h2⟩:=Option.bind_eq_some_iff.mp hb;split at h2
 ·rename_i z
  cases h2;exact⟨h1,(Bool.and_eq_true_iff.mp z).2⟩
 ·cases h2
structure Seen (defs:List (IX×J6)) (bl:List IX) (cs:List (IX×IZ)) (K:Frag):Prop where
 fn:defs.map (λp=>G8 K p.1)=defs.map λp=>U (BI p.1 p.2)
 bl:bl.map (nsIn K mainGlobals)=bl.map λ_=>U B
 cd:cs.map (λp=>vk K p.1)=cs.map λp=>U (.ref p.2)
theorem zj {α β:Type}{f g:α->β}:∀{l:List α}{i:Nat}{x:α},l.map f=l.map g->l[i]?=U x->f x=g x
 |[],_,_,_,h=>by simp at h
 |y::l,0,x,e,h=>by cases h;exact(Oq e).1
 |y::l,i+1,x,e,h=>zj (Oq e).2 h
theorem map_mem {α β:Type}{f g:α->β}{l:List α}{x:α}(e:l.map f=l.map g) (h:x∈l):f x=g x:=by
 simp_all
section
variable[Md] {defs:List (IX×J6)}{bl:List IX}{cs:List (IX×IZ)}
set_option tactic.hygienic true in
theorem Seen.df0 (S:Seen defs bl cs Md.K) (X:Md.K.In Md.base) (G:Md.base.Ns mainGlobals Md.mg) (i:Nat) {x:IX}{st:J6}(e:defs[i]?=U (x,st)):∃f fd,Fun Md.K x x st f fd/\Md.mg x=U (.ref f)/\vk Md.K x=U fd.code:=by
 have q:G8 Md.K x=U (BI x st):=zj S.fn e;unfold G8 at q;unfold vk;split at q
 ·rename_i f hf
  split at q
  ·rename_i oc od fd sl hl
   split at q
   ·rename_i hc
    refine⟨f,fd,⟨⟨oc,od,fd.kwdefaults,fd.doc,fd.pyModule,fd.annotations,fd.code,fd.closureTuple,sl,?_,hl,hc⟩,?_⟩,mg_of X G hf,rfl⟩
    ·have q':=J7 q
     obtain⟨a1,a2,a3,a4,a5,a6,a7,a8,a9,a10,a11,a12,a13,a14,a15⟩:=fd;simp only[Gs,BI,Prod.mk.injEq]at q'
     lia
    ·unfold keepIn;dsimp only;rw[hl]
   ·cases q
  ·cases q
 ·cases q
theorem Seen.df (S:Seen defs bl cs Md.K) (X:Md.K.In Md.base) (G:Md.base.Ns mainGlobals Md.mg) (i:Nat) {x:IX}{st:J6}(e:defs[i]?=U (x,st)):Df x st:=by
 obtain⟨f,fd,F,hm,_⟩:=S.df0 X G i e;exact⟨f,fd,F,hm⟩
theorem Seen.dfC (S:Seen defs bl cs Md.K) (X:Md.K.In Md.base) (G:Md.base.Ns mainGlobals Md.mg) (i j:Nat) {x:IX}{st:J6}{c:IZ}(e:defs[i]?=U (x,st)) (e':cs[j]?=U (x,c)):DfC x st c:=by
 obtain⟨f,fd,F,hm,hc⟩:=S.df0 X G i e;exact⟨f,fd,F,hm,J7 (hc.symm.trans (zj S.cd e'))⟩
theorem Seen.txt (S:Seen defs bl cs Md.K) (X:Md.K.In Md.base) (G:Md.base.Ns mainGlobals Md.mg):Txb bl:=λx hx=>mg_none_of X G (map_mem S.bl hx)
end
noncomputable def H3 (tb:Tb) (cs:List (IX×IZ)) (K:Frag):Prop:=(tb.zip cs).map (λq=>codeHdIn K q.2.2 q.1.1)=(tb.zip cs).map (λ_=>V)/\tb.map (λq=>K.lookup q.1)=tb.map (λ_=>B)
noncomputable def YH (tb:Tb) (defs:List (IX×J6)) (bl:List IX) (cs:List (IX×IZ)) (_:KB) (h:Kl):Prop:=∃K:Frag,K.In h/\Seen defs bl cs K/\tb.map (λq=>h.get? q.1)=tb.map (λ_=>U G1)/\H3 tb cs K/\∀b o,K.lookup b=U o->(o.cls != .type "list")=V
section
variable{tb:Tb}{defs:List (IX×J6)}{bl:List IX}{cs:List (IX×IZ)}
theorem yh_of (w:KB) (s:IB) (e:YfH tb defs bl cs s=YaH tb defs bl cs w):YH tb defs bl cs w s.heap:=by
 unfold YfH YaH at e;simp only[Prod.mk.injEq]at e;exact⟨Ef s.heap,λa o h=>(vF _ h).1,⟨e.1,e.2.1,e.2.2.1⟩,e.2.2.2.1,⟨e.2.2.2.2.1,e.2.2.2.2.2⟩,λa o h=>(vF _ h).2⟩
theorem yh_keeps (w:KB) (h h':Kl) (y:YH tb defs bl cs w h) (k:∀b o,h.get? b=U o->h'.get? b=U o):YH tb defs bl cs w h':=by
 obtain⟨K,hK,hS,ht,hc⟩:=y;exact⟨K,hK.keeps k,hS,Js λq hq=>k _ _ (map_mem ht hq),hc⟩
end
theorem xo {α β:Type}:∀{l:List α}{m:List β}{x:α},l.length=m.length->x∈l->∃y,(x,y)∈l.zip m
 |a::l,b::m,x,e,h=>by
  rcases List.mem_cons.mp h with rfl|h
  ·exact⟨b,.head _⟩
  ·obtain⟨y,hy⟩:=xo (OQ e) h
   exact⟨y,.tail _ hy⟩
theorem rA [Md] {P:Params}{h:Kl}{m:Bool}{M:Mp}:∀{ns:List Int}{vs:List IA},WellAll P h vs (ns.map WData.int)->Rs m M (ns.map D.int) vs
 |[],_,w=>by cases w;rfl
 |n::ns,_,w=>by
  cases w with
  |cons a b=>cases a;exact⟨_,_,rfl,⟨_,rfl⟩,rA b⟩
theorem FZ {l:OpenLaw}{n:Nat}(hn:l.most=U n) {args:List WData}(hpre:l.row.toRowW.claim.pre args=V):∃ns:List Int,args=[.list (ns.map .int)]/\ns.length<=n:=by
 obtain⟨d,r,rfl,h1,h2⟩:=hasAllW_cons (show WShape.hasAll [] args [.list .int]=V from(pre_splitW hpre).1)
 obtain rfl:=hasAllW_nil h2;obtain⟨xs,rfl,h3⟩:=hasW_list h1;obtain⟨ns,rfl⟩:=items_int h3;refine⟨ns,rfl,?_⟩
 have hc:l.pre.holds [] {args:=[.list (ns.map .int)]}=V:=(pre_splitW hpre).2;unfold OpenLaw.pre at hc;have h4:=(holds_andW hc).1;rw[hn]at h4;have h5:=condW_of (show(WTm.not (.lt (.lit (.int (n:Int))) (.len (.arg 0)))).holds [] {args:=[.list (ns.map .int)]}=V from h4) (w_not (w_lt w_lit (w_len_list (w_arg rfl))))
 simp at h5;lia
theorem walk_N {l:OpenLaw}{n k:Nat}{q:J9}{loose:List IX}{XP:(IX->Option IA)->Kl->Prop}{d:DefRec}{tb:Tb}{defs:List (IX×J6)}{bl:List IX}{cs:List (IX×IZ)}{f:List D->Option (D×Bool)}
  (hn:l.most=U n) (hn2:n<=sizeLine) (hdf:d.params.defaults=[]) (hr:Room k callerA) (hcs:tb.length=cs.length)
  (F:∀I:Md,I.tb=tb->I.P=l.prog->Seen defs bl cs I.K->H3 tb cs I.K->I.K.In I.base->I.base.Ns mainGlobals I.mg->FnM k d.name f)
  (hf:∀(_:Md) (ns:List Int),ns.length<=n->f [.lst (ns.map D.int)]=U (.bl V,Y)):
  WalkO q loose XP (YH tb defs bl cs) l.row.toRowW d [] (λf vs=>PySem.call f vs):=by
 intro w s₀ s₁ mg mb G PX fa o pm cd doc dV kV ho hd hcd hD hmg hg args vals as hpre hlay hrd hwl hlo;obtain rfl:dV=.none:=Dflts.none hD hdf;obtain rfl:kV=.none:=Dflts.noKw hD;obtain⟨ns,rfl,hlen⟩:=FZ hn hpre;obtain⟨K,KX,S,ht,hL,hno⟩:=PX;cases hwl with
 |cons w1 w2=>
 cases w2;cases w1 with
 | @list a vs _ ha hall=>
 have hsy:a≠sysModules:=by
  cases hrd with
  |cons r1 r2=>cases r1 with
   |list h1 h2 h3 h4=>exact beq_eq_false_iff_ne.mp (hlo a (JU _ (.head _)))
 have hT:∀q∈tb,s₁.heap.get? q.1=U G1/\K.lookup q.1=B/\isCodeTable s₁.heap q.1:=λq hq=>⟨map_mem ht hq,map_mem hL.2 hq,by
  obtain⟨c,hz⟩:=xo hcs hq;obtain⟨o,vs,_,_,_,_,_,_,_,e1,e2,e3,e4,_⟩:=codeHd_of_K KX (map_mem hL.1 hz);exact⟨c.2,o,vs,e1,e2,e3,e4⟩⟩
 let hd:=a::tb.map (·.1)
 have un:∀{b:IZ}{o:N1},s₁.heap.get? b=U o->(∀vs n,o.data≠.seq vs n)->(∀vs,o.data≠.fields vs)->b∉hd:=λ{b o} e n1 n2 z=>by
  rcases List.mem_cons.mp z with rfl|z
  ·rw[ha]at e;cases e;exact n1 _ _ rfl
  ·obtain⟨q,hq,rfl⟩:=List.mem_map.mp z
   rw[(hT q hq).1]at e;cases e;exact n2 _ rfl
 let base:=hideAll s₁.heap hd
 have nsK:∀{b:IZ}{m:IX->Option IA},s₁.heap.Ns b m->base.Ns b m:=λ{b m} ⟨o,es,ep,e,d,r⟩=>⟨o,es,ep,hideAll_get _ e (un e (λ_ _ z=>by rw[d]at z;cases z) λ_ z=>by rw[d]at z;cases z),d,r⟩
 have hKb:K.In base:=λb o e=>hideAll_get _ (KX b o e) λz=>by
  rcases List.mem_cons.mp z with rfl|z
  ·have:=KX _ _ e
   rw[ha]at this;cases this;exact absurd (hno _ _ e) (show ¬((Ki "list" != Ki "list")=V) by decide)
  ·obtain⟨q,hq,rfl⟩:=List.mem_map.mp z
   rw[(hT q hq).2.1]at e;cases e
 let I:Md:=⟨l.prog,w,K,mg,base,tb,s₁.os,s₁.gens⟩
 let ob:N1:={cls:=.type "list",data:=.seq vs.toArray}
 let M:Mp:=λb=>if b=a then U (.f,ob) else if b∈tb.map (·.1) then B else(s₁.heap.get? b).map λo=>(.p,o)
 have Ma:M a=U (.f,ob):=if_pos rfl;have ta:∀q∈tb,q.1≠a:=λq hq e=>by have:=(hT q hq).1;rw[e,ha]at this;cases this
 have Mt:∀q∈tb,M q.1=B:=λq hq=>(if_neg (ta q hq)).trans (if_pos (K1 hq))
 have Mp':∀{b o},s₁.heap.get? b=U o->b∉hd->M b=U (.p,o):=λ{b o} e z=>by
  show(if b=a then _ else if b∈tb.map (·.1) then _ else _)=_
  rw[if_neg λq=>z (by rw[q];exact .head _),if_neg λq:b∈tb.map (·.1)=>z (.tail _ q),e];rfl
 have Mb:∀{b},b∈hd->b=a\/∃q∈tb,b=q.1:=λ{b} z=>(List.mem_cons.mp z).imp id λz=>by obtain⟨q,hq,e⟩:=List.mem_map.mp z;exact⟨q,hq,e.symm⟩
 have Mi:∀{b k o},M b=U (k,o)->(b=a/\k=.f/\o=ob)\/(k=.p/\s₁.heap.get? b=U o):=λ{b k o} e=>by
  by_cases z:b∈hd
  ·rcases Mb z with rfl|⟨q,hq,rfl⟩
   ·rw[Ma]at e;cases e;exact .inl ⟨rfl,rfl,rfl⟩
   ·rw[Mt q hq]at e;cases e
  ·cases h:s₁.heap.get? b with
   |some o'=>rw[Mp' h z]at e;cases e;exact .inr ⟨rfl,rfl⟩
   |none=>
    have:M b=B:=by
     show(if b=a then _ else if b∈tb.map (·.1) then _ else _)=_
     rw[if_neg λq=>z (by rw[q];exact .head _),if_neg λq:b∈tb.map (·.1)=>z (.tail _ q),h];rfl
    rw[this]at e;cases e
 have PZ:Bas M s₁:=by
  refine⟨⟨rfl,rfl⟩,λb k o e=>?_,λb o e=>Mp' (of_hideAll _ e) λz=>?_,λq hq=>⟨Mt q hq,#[],(hT q hq).1,trivial,λ_ _ e=>nomatch e⟩,λb i o e=>?_,λb o e=>?_,λk o e=>?_⟩
  ·rcases Mi e with⟨rfl,_,rfl⟩|⟨_,e⟩
   ·exact ha
   ·exact e
  ·cases (show base.get? b=B from hideAll_none _ z).symm.trans e
  ·rcases Mi e with⟨_,z,_⟩|⟨z,_⟩<;>cases z
  ·by_cases z:b∈hd
   ·rcases Mb z with rfl|z
    ·exact .inl (by rw[Ma];simp)
    ·exact .inr z
   ·exact .inl (by rw[Mp' e z];simp)
  ·rcases Mi e with⟨z,_,_⟩|⟨z,_⟩
   ·exact absurd z.symm hsy
   ·exact z
 have hM:Mod:=⟨hKb,nsK G.T.g,⟨mb,nsK G.T.b,G.T.builtins⟩,let ⟨mc,h1,h2⟩:=G.T.nolimit;⟨mc,nsK h1,h2⟩,by
  obtain⟨bm,ob,b1,b2,b3,b4,b5,b6⟩:=G.T.bmain;exact⟨bm,ob,b1,b2,hideAll_get _ b3 (un b3 (λ_ _ z=>by rw[b6]at z;cases z) λ_ z=>by rw[b6]at z;cases z),b4,b5,b6⟩⟩
 obtain⟨p,hp,_,hc⟩:=(F I rfl rfl S hL hKb (nsK G.T.g)).ex;cases hmg.symm.trans hp;have hw:Rs Y M (ns.map D.int) vs:=rA hall;have hlv:vs.length<=sizeLine:=by have:=hw.length;rw[IC]at this;lia
 refine enter_call (OH (hc hr hM PZ (us:=[.ref a]) (ds:=[.lst (ns.map D.int)]) ⟨_,_,rfl,⟨a,ob,vs,rfl,⟨.f,Ma,rfl⟩,⟨hlv,_,rfl⟩,hw⟩,rfl⟩ (hf I ns hlen)) λr s' hq=>?_)
 obtain⟨v,X',M1,δ1,rfl,hs,J,hv⟩:=hq;obtain rfl:v=.bool V:=hv;have key:∀b o,s₁.heap.get? b=U o->s'.heap.get? b=U o\/∃q∈tb,b=q.1:=λb o e=>by
  by_cases z:b∈hd
  ·rcases Mb z with rfl|z
   ·rw[ha]at e;cases e
    exact .inl (J.heap _ _ _ (rdf.mp (hs.f _ _ (rdf.mpr Ma))))
   ·exact .inr z
  ·exact .inl (J.heap _ _ _ (hs.p _ _ (Mp' e z)))
 refine⟨.inl ⟨.bool V,.bool V,[],rfl,λ_=>rfl,.bool V,?_,λ_=>⟨Nq,λ_ hm=>(nomatch hm)⟩⟩,⟨λb o e=>?_,λb o e=>?_⟩,J.og.1,.of_eq (J.og.2.trans hg)⟩
 ·exact postW_of (r:=l.row.toRowW) (X:=(V==V)) (show WShape.has [] (.bool V) .bool=V by first|rfl|decide|simp[WShape.has,WShape.arms,WShape.armsAll])
   (show(WTm.eq .res (.lit (.bool V))).value [] {args:=_,res:=U (.bool V),after:=_}=U (.bool (V==V)) from w_eq_bool (w_res rfl) w_lit) rfl
 ·rcases key b o e with h|⟨q,hq,rfl⟩
  ·exact .inl h
  ·rw[(hT q hq).1]at e;cases e
   obtain⟨_,ps,h,_⟩:=J.tabs q hq;exact .inr (.inl ⟨(hT q hq).2.2,rfl,#[],ps,rfl,by rw[h];simp[G1]⟩)
 ·rcases key b o e with h|⟨q,hq,rfl⟩
  ·exact⟨o,h⟩
  ·obtain⟨_,ps,h,_⟩:=J.tabs q hq
   exact⟨_,h⟩
end L2
namespace K61
open PySem L2 Md
theorem all_mk [Md] {c_ P_:IZ}(S:Seen defsK blK [("search_order",c_)] K) (X:K.In base) (G:base.Ns mainGlobals mg) (hLP:((P_,("search_order.<locals>.<lambda>":IX)):IZ×IX)∈tb) (hTu:∀q∈tb,q.1=P_->q=(P_,("search_order.<locals>.<lambda>":IX))) (hLC:PySem.W.codeHdIn K c_ P_=V):FnM 12 "law" f_law:=by
 have T:=S.txt X G;have M_stand_of:=v4 T (S.df X G 0 rfl);have M_blanks_of:=rL T (S.df X G 1 rfl);have M_exchanged:=sH T (S.df X G 2 rfl);have M_moved:=Dw T (S.df X G 3 rfl) M_stand_of M_exchanged;have M_filled:=zG T (S.df X G 4 rfl) M_exchanged;have M_letters_of:=qH T (S.df X G 5 rfl);have M_binding_of:=qn T (S.df X G 6 rfl);have M_bindings:=vX T (S.df X G 7 rfl) M_binding_of;have M_is_linked:=rH T (S.df X G 8 rfl) M_letters_of;have M_search_order:=l7 T (S.dfC X G 9 0 rfl rfl) hLP hTu (PySem.W.codeHd_of_K X hLC) M_letters_of M_bindings M_is_linked;have M_places_of:=rN T (S.df X G 10 rfl);have M_grouped:=zf T (S.df X G 11 rfl);have M_picked:=Ba T (S.df X G 12 rfl);have M_extended:=vS T (S.df X G 13 rfl) M_picked;have M_joined_from:=nD T (S.df X G 14 rfl) M_letters_of M_search_order M_places_of M_grouped M_picked M_extended;have M_joined:=Bw T (S.df X G 15 rfl) M_joined_from;have M_answers:=xK T (S.df X G 16 rfl) M_joined;have M_fit_with:=v9 T (S.df X G 17 rfl) M_letters_of M_joined_from;have M_fresh:=EJ T (S.df X G 18 rfl) M_letters_of;have M_two_terms:=tQ T (S.df X G 19 rfl);have M_deciding_letters:=iz T (S.df X G 20 rfl) M_letters_of M_two_terms;have M_is_unlike:=tO T (S.df X G 21 rfl);have M_two_cells:=tJ T (S.df X G 22 rfl) M_filled M_two_terms;have M_broken_cells:=lX T (S.df X G 23 rfl) M_joined M_deciding_letters M_is_unlike M_two_cells;have M_urgency_of:=qF T (S.df X G 24 rfl) M_fresh;have M_age:=HC T (S.df X G 25 rfl);have M_next_broken:=ov T (S.df X G 26 rfl) M_fit_with M_deciding_letters M_broken_cells M_urgency_of M_age;have M_is_clash:=wy T (S.df X G 27 rfl) M_two_cells;have M_same_moves:=pN T (S.df X G 28 rfl) M_two_cells;have M_fresh_moves:=nI T (S.df X G 29 rfl) M_fresh;have M_full:=Fb T (S.df X G 30 rfl) M_stand_of M_blanks_of M_moved M_filled M_next_broken M_is_clash M_same_moves M_fresh_moves;have M_sure:=FA T (S.df X G 31 rfl) M_answers M_full;have M__law_mixed:=qD T (S.df X G 32 rfl);have M__law_words:=ri T (S.df X G 33 rfl) M__law_mixed;have M__law_numbers:=lS T (S.df X G 34 rfl) M__law_mixed;have M__law_drawn:=o4 T (S.df X G 35 rfl);have M__law_row:=wo T (S.df X G 36 rfl) M__law_mixed M__law_drawn;have M__law_tables:=oQ T (S.df X G 37 rfl) M__law_mixed M__law_words;have M__law_stand:=pX T (S.df X G 38 rfl);have M__law_term:=rP T (S.df X G 39 rfl);have M__law_patterns:=kP T (S.df X G 40 rfl) M__law_mixed M__law_term;have M__law_letters:=l6 T (S.df X G 41 rfl);have M__law_rule:=rT T (S.df X G 42 rfl) M__law_mixed M__law_patterns M__law_letters;have M__law_fitted:=oD T (S.df X G 43 rfl);have M__law_fits:=sk T (S.df X G 44 rfl) M__law_fitted;have M__law_cell_of:=lV T (S.df X G 45 rfl);have M__law_is_broken:=jw T (S.df X G 46 rfl) M__law_fits M__law_cell_of;have M__law_broken:=oO T (S.df X G 47 rfl) M__law_fits M__law_is_broken;have M__law_keeps:=pD T (S.df X G 48 rfl) M__law_broken;have M__law_copy:=sC T (S.df X G 49 rfl);have M__law_made:=sB T (S.df X G 50 rfl) M__law_words M__law_numbers M__law_row M__law_tables M__law_stand M__law_rule;have M__law_question:=k8 T (S.df X G 51 rfl) M__law_mixed M__law_patterns M__law_letters;have M__law_sure:=tC T (S.df X G 52 rfl) M__law_fits M__law_cell_of;have M__law_is_told:=md T (S.df X G 53 rfl);have M__law_right:=qG T (S.df X G 54 rfl) M_full M_sure M__law_keeps M__law_copy M__law_sure M__law_is_told;have M_law:=Ho T (S.df X G 55 rfl) M__law_made M__law_question M__law_right;exact M_law
end K61
open PySem
set_option maxRecDepth 100000 in
set_option maxHeartbeats 0 in
theorem PySem.Challenge.cw_mustrows_k61_what_is_sure_holds : PySem.Challenge.rw_mustrows_k61_what_is_sure.Holds := by
 refine PySem.W.holds_law K61.hl1 λsaid=>?_
 refine PySem.W.holds_open (d:=PySem.DefRec.mk "law" (L2.defArgs K61.s_law) (L2.defBody K61.s_law) (L2.defScope K61.s_law) K61.s_law.pos) (kwd:=[]) (q:=O0 PySem.Challenge.pw_mustrows_k61_what_is_sure Dx) (loose:=[]) (Xt:=λ_=>V) (XP:=λ_ _=>True) (Yf:=L2.YfH tbK K61.defsK K61.blK csK) (Ya:=L2.YaH tbK K61.defsK K61.blK csK) (YP:=L2.YH tbK K61.defsK K61.blK csK) (N:=2000) ?hl L2.yh_of L2.yh_keeps (λ_ _=>trivial) (λ_ _ _ _ _=>trivial) (by kernel_rfl) (by kernel_rfl) (by kernel_rfl) (λs _=>PySem.W.recFacts_of (by kernel_rfl)) (by kernel_rfl) said K61.hl7 ⟨rfl,rfl,rfl,rfl,rfl,by decide +kernel⟩ ?hw ?hc
 case hl=>exact K61.hl0
 case hw=>w_witness2
 case hc=>
  refine L2.walk_N (l:=PySem.Challenge.rw_mustrows_k61_what_is_sure) (n:=63) (k:=12) (f:=K61.f_law) rfl (by decide) rfl ⟨rfl,by decide,by decide⟩ rfl (λI ht _ S L X G=>?_) (λ_ ns hl=>K61.pure ns hl)
  have h0:((74,("search_order.<locals>.<lambda>":IX)):IZ×IX)∈tbK:=.head _;exact K61.all_mk S X G (ht▸h0) (λq hq _=>List.mem_singleton.mp (ht▸hq:q∈tbK)) (L2.map_mem L.1 (.head _))
