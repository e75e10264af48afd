import PyProof.Rows.All
import Wide.All
import OpenK.AllK
import Wide.FinOn
import Lean
import PyProof.EqAt
import PyProof.EqKinds
import PyProof.TupleCall
import KE.KRevIter
import PyProof.AutoListH
import KE.KDictOf
import PyProof.AttrMissHeap
import PyProof.ListRange
import PyProof.Rows.SortWalk
import KE.KNestM
import KE.KLam
import PyProof.MinMaxWalk
import PyProof.Rows.CallKwBuiltin
import PyProof.Rows.SetFrom
import PyProof.CollectWalk
import PyProof.SetRoads
import KE.KEqDict
import PyProof.DictUpdate
import KE.KItemsList
import KE.KDictList
import PyProof.StrWalks
import PySem.Challenge.RW_evenyoke_k61_whole_limits
set_option hygiene false
local macro_rules
 | `(Β)=>`(by simp_all)
 | `(Γ)=>`(by decide)
local macro_rules
 | `([Δ,$a,$b])=>`(if$a then$b else 0)
 | `([Α,$a])=>`(rC (.int $a))
local macro_rules | `(tactic| lia)=>`(tactic| first | assumption | exact Nat.le_refl _ | exact Nat.zero_le _ | exact Nat.le_of_lt (by assumption) | exact Nat.succ_le_of_lt (by assumption) | exact Nat.lt_of_not_le (by assumption) | exact Nat.le_of_not_lt (by assumption) | exact Nat.ne_of_lt (by assumption) | exact Nat.ne_of_gt (by assumption) | exact Nat.le_of_lt_succ (by assumption) | exact Nat.lt_succ_of_le (by assumption) | exact Nat.lt_succ_of_lt (by assumption) | exact Nat.le_of_eq (by assumption) | exact Nat.le_of_eq (Eq.symm (by assumption)) | exact Int.le_of_lt (by assumption) | exact Int.not_lt.mp (by assumption) | (simp (maxSteps:=500) only [*,true_and,and_true,and_self,Nat.le_refl,Nat.zero_le,not_false_eq_true];done) | lia (verbose:=false))
set_option hygiene false
local macro_rules | `(#[$a,*])=>`(⟨$a,*⟩)
open PyProof.Rows renaming assignInOrder_cons→Sa,assignInOrder_nil→VF,tail_any→VR
open PySem renaming wpAny_bind→Q3,Shared→Q4,Addr→Q5,Str→Q7,wpAny_pure→Q8,wpAny→Rd,wpAny_Call_Name_kw→Re,model→Rf,Around→Rg,Program→Rh,mainGlobals→Ri,Heap→Rs,Expr→Ru,sliceBounds→RC,starEach→RD,bootBuiltins→RH,World→RK,FuncData→R2,wpAny_pyIter_list→R5,wpAny_newObj_type→R6,wpAny_field→Sc,wpAny_truthy_bool→Se,Obj→Sr,wpAny_setField_rec→Ss,eval→SB,Stmt→SD,wpAny_passesOwn→SE,letOwnedTupleGo→SF,wpAny_mono→SU,wpAny_callSpecial?_slot→SX,sizeLine_eq→S6,codeAny_mono→Ta,wpAny_holding→Tg,wpAny_seqItems→Tv,sysModules→Tw,call_meets→TB,wpAny_call_entry→TC,codeAny_builtin→TX,getattributeRaised→T5,Pos→Ue,wpAny_pyNext_list_item→Uj,wpAny_Call_method_late→Uk,wpAny_pyNext_list_end→Ux,stored→UB,slicePick→UC,wpAny_execs_nil→UT,Scope→U2,codeAny→U6,call_meetsIn→U7,swapsWith→U9,wpAny_newFunctionEnv_cells→Vc,compEnvC→Vp,NameKind→Vq,wpAny_getItem_list_slice→VH,rawInt→VI,codeAmong→VZ
open Bool renaming true→tj,false→ff
open Option renaming some→se,none→ng
open Array renaming mem_toList_iff→zK
open Bool renaming and_eq_true→cI,eq_false_iff→e9,eq_iff_iff→fJ,not_eq_true'→kR,and_eq_true_iff→nW,eq_false_or_eq_true→qM,false_xor→lX,false_ne_true→qN,or_eq_true→qO,false_eq_true→vZ,and_true→v3,or_false→v5,true_xor→v6,not_eq_true→zL,and_false→zM
open Eq renaming trans→ua
open Int renaming le_of_lt→cy,ne_of_gt→di,mul_assoc→ee,le_refl→dw,mul_le_mul_of_nonneg_right→lY,gcd→bK,mul_comm→eE,eq_of_mul_eq_mul_right→kS,mul_lt_mul_of_pos_right→nX,mul_fdiv_cancel_left→lZ,eq_ofNat_of_zero_le→l6,lt_or_le→gR,lt_of_mul_lt_mul_right→pE,emod_lt_of_pos→kT,mul_nonneg→jr,emod_nonneg→jG,dvd_refl→iP,mul_right_comm→l7,le_trans→i6,natAbs_mul→kj,natAbs_dvd_natAbs→pF,mul_le_mul_of_nonneg_left→ub,lt_of_lt_of_le→pG,zero_mul→km,le_of_eq→l8,mul_pos→kU,gcd_comm→l9,add_mul→kW,fdiv_eq_ediv_of_nonneg→v7,le_of_mul_le_mul_right→v8,zero_add→nY,dvd_trans→pH,toNat_natCast→uc,mul_left_comm→ud,eq_of_mul_eq_mul_left→zN,toNat→ue,mul_add→qP,ediv_le_self→v9,le_ediv_iff_mul_le→zO,ediv_nonneg→wa,add_zero→uf,ediv_mul_cancel→zP,natCast_nonneg→zQ,ofNat→qQ,gcd_dvd_right→zR,natAbs_add_le→zS,neg_mul_neg→zT,mul_neg→wc,one_mul→we,fdiv_nonneg→zU,le_of_dvd→zV,sub→qR,add→ug
open List renaming getElem?_eq_some_iff→aQ,mem_of_getElem?→aK,getElem?_eq_getElem→aT,mem_cons_self→aO,mem_cons_of_mem→a7,getD_eq_getElem?_getD→bR,getElem?_zip_eq_some→bP,getElem?_of_mem→bz,mem_map→aU,getElem?_map→bo,getElem?_set_ne→bN,range→aR,mem_filter→bi,length_map→bn,replicate→bf,map_cons→be,map_congr_left→cz,mem_cons→bj,of_mem_zip→bY,mem_append_left→c7,sum_cons→bL,mem_singleton→cT,mem_append_right→dG,take_of_length_le→dP,idxOf_lt_length_of_mem→fV,getElem?_append_right→fW,length_filter_le→eF,map_append→cV,getElem?_set_self→fK,getElem?_eq_none→fh,map_map→cB,length_append→dW,mem_append→c8,length_pos_iff→fj,getElem?_append_left→iA,mem_range→dy,nodup_cons→eG,length_cons→fm,append_assoc→fY,length_set→eV,size_toArray→gT,rec→bT,any_eq_true→gL,not_mem_nil→gM,zip_cons_cons→iB,filter_sublist→jt,all_eq_true→iQ,ext_getElem?→i7,contains_iff_mem→kn,length_take→i8,getElem?_replicate→mj,getElem?_range→ko,mem_flatMap→ju,filter_cons→jH,getElem_mem→jI,length_eq_zero_iff→nZ,nodup_append→kq,getElem?_dropLast→n5,sum_append→jJ,getLast?_eq_getElem?→pI,length_replicate→n6,length_range→kX,filter_append→mn,getElem?_zipIdx→n8,range_succ_eq_map→pJ,replicate_succ→n9,pairwise_iff_getElem→qS,set_append_right→pK,length_zip→kY,getElem?_take_of_lt→qT,take_length→mu,getD→gU,append_nil→mw,range'→jK,zip_append→mB,exists_cons_of_ne_nil→uh,cons_append→oa,set_cons_succ→pL,set_set→kr,length_zipIdx→pM,drop_eq_getElem_cons→ui,range_succ→og,map_nil→kZ,filterMap_cons→qU,getElem?_cons_succ→uj,filter_cons_of_neg→uk,filter_cons_of_pos→um,lookup_cons→pN,foldl_cons→pO,getElem?_concat_length→wg,zip_map_left→qV,getElem?_set→qW,getElem?_eq_none_iff→wj,take_succ→pP,mem_map_of_mem→uo,sum_nil→oh,set_cons_zero→uq,getElem?_drop→ur,pairwise_cons→ut,getElem_idxOf→uu,filter_map→qX,length_pos_of_mem→wo,length_singleton→wq,getElem?_zipWith→wt,map_set→pQ,pairwise_flatMap→wu,countP_cons→uv,nodup_range→uw,map_snd_zip→uy,nodup_iff_count→wv,range_eq_range'→ww,dropLast_concat→wx,dropLast_concat_getLast→zW,length→pS,filter_eq_self→wy,reverse_append→wz,flatMap_append→wC,mem_filterMap→wD,filterMap_map→wE,getElem?_take→wF,count_flatMap→wG,count_pos_iff→wH,mem_or_eq_of_mem_set→zX,mem_of_find?_eq_some→zY,any_eq_false→wI,take_append_getElem→zZ,foldl_append→wJ,eq_of_mem_replicate→z8,filter_congr→wK,idxOf_lt_length_iff→z9,sublist_append_left→Aa,range'_succ→wL,map_fst_zip→wM,pairwise_lt_range→Ab,drop_eq_nil_of_le→Ac,length_eq_one_iff→Ae,count_cons→wN,map_id'→uz,getElem?_reverse→Af,getLast?_concat→Ag,length_take_le'→Ah,getElem?_append→Ai,toList_toArray→Aj,perm_iff_count→Ak,any_cons→wO,filter_filter→Al,find?_eq_none→Am,zip_nil_right→An,flatMap_cons→Ao,pairwise_map→Ap,take_sublist→Aq,any_map→wP,length_drop→Ar,count_range→As,take_append→Au,forIn_cons→Av,filter_nil→Aw,take_left'→Ax,map_const'→Ay,map_id→wQ,find?_some→Az,find?_cons→AA,nil_append→AB,forIn_nil→AC,filterMap→AD,all_cons→AE,set_comm→AF,map_take→AG,map_drop→AH
open List.Pairwise renaming imp_of_mem→AI
open Nat renaming le_refl→bE,le_trans→bW,ne_of_lt→cF,blt_eq→cD,lt_succ_of_lt→ig,ne_of_gt→eD,blt→bH,lt_of_lt_of_le→iR,le_of_lt→eI,ble_eq→dz,ble→bQ,beq→bZ,beq_refl→gW,eq_of_beq_eq_true→mD,pow_le_pow_right→mE,lt_of_le_of_lt→k6,le_add_right→ku,lt_succ_self→ky,le_of_ble_eq_true→oi,zero_le→iT,not_lt_zero→k7,le_mul_of_pos_right→qY,le_succ_of_le→oj,eq_zero_or_pos→pU,lt_trichotomy→pV,le_of_not_lt→pW,le_succ→k8,lt_succ_of_le→qZ,succ→iU,lt_irrefl→om,mul_le_mul_right→uA,zero_add→q8,sub_self→rc,rec→jL,add_sub_cancel_left→AJ,le_of_eq→uB,lt_trans→uC,add_right_comm→AK,le_of_lt_succ→AL,lt_of_succ_lt→AM,min_eq_right→AN,pow_add→wR,add_mul→wS,min_eq_left→AO,pow_pos→wT,le_of_dvd→AP,gcd→uD
open Nat.succ renaming inj→kz
open Option renaming map_eq_some_iff→jM,isSome_iff_exists→uE,map_some→uF,getD_none→AQ
open Option.some renaming inj→dX
open Or renaming inr→rd
open PyProof.Rows renaming slot_tuple_getitem→wU,lt_int→AS
open PySem renaming callWith_type→i9,mem_of_lookup→mG,evalArgs_none→AT
open PySem.F renaming plainAttrs_list→re,plainAttrs_dict→rf,slot_dict_update→AU,slot_str_getitem→AV,slot_dict_items→AW,slot_dict_keys→AX,slot_dict_get→AY,slot_dict_pop→AZ
open PySem.SeqAt renaming shaped→A0
open PySem.W renaming Frag→bw,keepIn→ii,findIn→iC,fnOf→im,codeIn→kA,kia_one→k9,nsIn→kB,emptyDict→pX,makesIn→pY,mg_of→oq,plainGet→rg,isFn→ou,cellsFrom_some→wV,hasDictIn→uG,instObj→uH,plainGet_of→wW,lookIn→uI,tabObj→uJ,plainOver→wX,kitx_list→wY,codeHdIn→wZ,takerIn→w3,callWith_of→A1,codeHd_of_K→A4,handedIn→A5,kdl_call→A6,kla_obj→A7,noTabs→A8
abbrev xag:=Int×Int
abbrev xaf:=List Nat
abbrev xae:=List Int
abbrev xad:=List (Nat×Nat)
abbrev xac:=List (Int×Int)
abbrev xab:=List (List Nat)
abbrev xaa:=List (List (Int×Int))
theorem QX.{u} {c:Prop}{h:Decidable c}(k:¬c){α:Sort u}{t e:α}:ite c t e=e:=if_neg k
theorem QY.{u} {c:Prop}{h:Decidable c}(k:c){α:Sort u}{t e:α}:ite c t e=t:=if_pos k
theorem QZ {p:Prop}[h:Decidable p](k:p):decide p=true:=decide_eq_true k
theorem Q0 {p:Prop}[h:Decidable p](k:decide p=true):p:=of_decide_eq_true k
theorem Q1 {p:Prop}[h:Decidable p](k:¬p):decide p=false:=decide_eq_false k
set_option compiler.extract_closed false
set_option linter.all false
set_option Elab.async false
noncomputable section
namespace NAG
section
variable {a b c d e:Nat}{i j k l m n:Int}
theorem gl0(h1:a<b)(h2:b<=a):False:=by lia
theorem gl1(h1:b<a):a≠b:=by lia
theorem gl2(h1:a<=d)(h2:c+1<=b+1):a+(b+2-(c+1))+1<d+(b+2-c)+1:=by lia
theorem gl3(h1:a<=b)(h2:¬(a<b)):a=b:=by lia
theorem gl4(h1:a<=900):a<16777216:=by lia
theorem gl5(h1:a+1*(b+3)<=d):a+(b+2-c)+1<d+(b+2-(c+1))+1:=by lia
theorem gl6(h1:a<=12):a<=20:=by lia
theorem gl7(h1:a<=30):a<=64:=by lia
theorem gl9(h1:a<=b)(h2:b<=c)(h3:c<=900):a<1000:=by lia
theorem gl10(h1:a<=900):a<=1000:=by lia
theorem gl11(h1:a<c/\0<i)(h2:b=d)(h3:c<=d):a<b:=by lia
theorem gl12(h1:a<=900):a<1000:=by lia
theorem gl13(h1:a<b+(c+1)):a<b+1+c:=by lia
theorem gl14(h1:b<a):a-b=a-(b+1)+1:=by lia
theorem gl15(h1:a<=20):a<=1000:=by lia
theorem gl17(h1:a<=20):min a b<1000:=by lia
theorem gl18(h1:a<=20):a<0+1000:=by lia
theorem gl23(h1:0<=i)(h2:¬(0<i)):i=0:=by lia
theorem gl24(h1:0<j)(h2:i<j):Int.toNat i<ue j:=by lia
theorem gl25(h1:a=b)(h2:b<=30):a<1000:=by lia
theorem gl26(h1:a<=b)(h2:b<=20):a<=900:=by lia
theorem gl27(h1:0<a)(h2:0<b)(h3:b+a=c):2*a-1+(2*b-1)<2*c-1:=by lia
theorem gl28(h1:0<a):(a:Int)≠0:=by lia
theorem gl29(h1:0<=i):i=(Int.toNat i:Int):=by lia
theorem gl30(h1:a<b):a<=b-1:=by lia
theorem gl31(h1:a<=40):a<=1000:=by lia
theorem gl32(h1:a<=40):a<1000:=by lia
theorem gl33(h1:a<=12):a<1000:=by lia
theorem gl34(h1:a<b)(h2:a<c):min a b=min a c:=by lia
theorem gl35:Int.toNat ((a:Int)+1-1+-1*((b:Int)+1))=ue ((a:Int)-1+-1*(b:Int)):=by lia
theorem gl36(h1:0<a):max 0 (min 1 (a:Int))=1:=by lia
theorem gl37(h1:a<c)(h2:b=d)(h3:c<=d):a<b:=by lia
theorem gl38(h1:a<=16777216):(a:Int)<9223372036854775808:=by lia
theorem gl39(h1:a<=4):a<1000:=by lia
theorem gl40(h1:i<=k)(h2:j<=l):i+j<=k+l:=by lia
theorem gl41(h1:0<=j)(h2:i<=k):i<=j+k:=by lia
theorem gl43(h1:a<b+1)(h2:¬(b=a)):a<b:=by lia
theorem gl44:i+(j-k)+l=i+l+(j-k):=by lia
theorem gl46(h1:a<=b)(h2:b<=4):a<=4:=by lia
theorem gl47(h1:a<=b)(h2:b<=4):a<1000:=by lia
theorem gl48:0<=(a:Int):=by lia
theorem gl50:(i*j+k*l)*m*n=i*n*j*m+k*n*l*m:=by lia
theorem gl51(h1:a<b+c)(h2:¬(a<b)):a-b<c:=by lia
theorem gl52:(a+1+1)/2=a/2+1:=by lia
theorem gl55(h1:c<=63):min (a-b) (c-b)<=63:=by lia
theorem gl56(h1:a<c)(h2:c<=b):a<b:=by lia
theorem gl59(h1:a<=20):a<1000:=by lia
theorem gl60:0<=(a:Int)+1:=by lia
theorem gl61(h1:0<=i)(h2:i<=0):i=0:=by lia
theorem gl62(h1:i=(a+1:Int)):1<=i:=by lia
theorem gl63(h1:a<=1000):a<16777216:=by lia
theorem gl64(h1:0<=i):1<=1+i:=by lia
theorem gl65(h1:k+i<=l+j)(h2:l<=k):i<=j:=by lia
theorem gl66(h1:i<=k)(h2:k<=j):i<=j:=by lia
theorem gl67(h1:a<b+1)(h2:¬(a=b)):a<b:=by lia
theorem gl68(h1:a<=9):a<1000:=by lia
theorem gl69(h1:b<=40):min a (min b c)<=1000:=by lia
theorem gl70(h1:0<i)(h2:i<=j)(h3:j<=0):False:=by lia
theorem gl71(h1:b<a):¬(a+1=b+1):=by lia
theorem gl72(h1:b<a):¬(a<b):=by lia
theorem gl73(h1:b+c=e):a+(b+(c+d))=a+(e+d):=by lia
theorem gl74(h1:0<=j):i<=i+j:=by lia
theorem gl75:a-1-b-1=a-b-2:=by lia
theorem gl76(h1:a<b)(h2:c=b)(h3:c<=a):False:=by lia
theorem gl77(h1:b<a):¬(a-1<b):=by lia
theorem gl78(h1:b<a)(h2:¬(a=b+1)):¬(a-1=b):=by lia
theorem gl79(h1:b<a):¬(a+1<b):=by lia
theorem gl82:¬(a+b<a):=by lia
theorem gl87(h1:(a:Int)=(b:Int)):a=b:=by lia
theorem gl91(h1:a<b):a<b+c:=by lia
theorem gl94(h1:0<=j):i-j<=i:=by lia
theorem gl97(h1:0<j)(h2:j<=i):0<i:=by lia
theorem gl98(h1:(a:Int)<=j)(h2:j<(a+1:Int))(h3:j=i):i=(a:Int):=by lia
theorem gl99(h1:i=(a:Int)+1):0<=i:=by lia
theorem gl100(h1:0<i)(h2:j+i<=k)(h3:k<=l)(h4:l<=j):False:=by lia
theorem gl101(h1:a=b)(h2:b<=900):a<1000:=by lia
theorem gl102(h1:i%6=(a:Int)):a<6:=by lia
theorem gl103(h1:i%26=(a:Int)):a<26:=by lia
theorem gl104(h1:a<d/\d<=b/\b<c):a≠b/\a<c/\b<c:=by lia
theorem gl105(h1:a<c)(h2:c<=b):a≠b:=by lia
theorem gl106(h1:a<=b)(h2:b<c)(h3:c=d)(h4:d<=900):a<=900:=by lia
theorem gl107(h1:a<c)(h2:b=c+1):a<b:=by lia
theorem gl108(h1:a<=4):a<16777216:=by lia
theorem gl109(h1:4<a)(h2:b<2):a≠b:=by lia
theorem gl110(h1:a<2):3≠a:=by lia
theorem gl111(h1:a<2):4≠a:=by lia
theorem gl112(h1:b<a):1<=a-b:=by lia
theorem gl113(h1:0<a):a-1<a:=by lia
theorem gl114:a+3+b-a=3+b:=by lia
theorem gl115(h1:a<=b)(h2:b<=900):a<1000:=by lia
theorem gl116(h1:0<=i)(h2:0<=j)(h3:¬(0<i))(h4:¬(0<j)):i=j:=by lia
theorem gl120(h1:k<l)(h2:l<=k):i<=j:=by lia
end
end NAG
set_option maxRecDepth 100000
namespace NAL
open PySem PySem.Spec PyProof.Rows
abbrev Ry:=Sum Int Q7
noncomputable def Y4:Ry->Value->Bool| .inl k,v=>Value.isInt k v| .inr x,v=>Value.isStrOf x v
noncomputable def keyH (w:RK):Ry->Int| .inl k=>hashInt k| .inr x=>hashStr w x
theorem kC:∀{k:Ry} {v:Value},Y4 k v=tj->(∃i t,k=Sum.inl i/\v=Value.int i t)\/(∃x t,k=Sum.inr x/\v=Value.str x t)| .inl i,v,h=>by obtain⟨t,e⟩:=Value.isInt_shape (k:=i) (v:=v) h;exact .inl #[i,t,rfl,e]| .inr x,v,h=>by obtain⟨t,e⟩:=Value.isStrOf_shape (x:=x) (v:=v) h;exact .inr #[x,t,rfl,e]
theorem Hj (i:Int)(t:Tok):Y4 (.inl i) (.int i t)=tj:=by simp[Y4,Value.isInt]
theorem Hl (x:Q7)(t:Tok):Y4 (.inr x) (.str x t)=tj:=by simp[Y4,Value.isStrOf]
theorem Hm (a b:Int):decide ((Sum.inl a:Ry)=Sum.inl b)=(a==b):=by by_cases e:a=b;subst e;simp;have h:¬(Sum.inl a:Ry)=Sum.inl b:=λq=>e (Sum.inl.inj q);rw[Q1 h];exact(beq_eq_false_iff_ne.mpr e).symm
theorem Hn (a b:Q7):decide ((Sum.inr a:Ry)=Sum.inr b)=decide (a=b):=by by_cases e:a=b;subst e;simp;have h:¬(Sum.inr a:Ry)=Sum.inr b:=λq=>e (Sum.inr.inj q);rw[Q1 h,Q1 e]
theorem Ho (a:Int)(b:Q7):decide ((Sum.inl a:Ry)=Sum.inr b)=ff:=Q1 (λq=>nomatch q)
theorem Hq (a:Q7)(b:Int):decide ((Sum.inr a:Ry)=Sum.inl b)=ff:=Q1 (λq=>nomatch q)
noncomputable def RM (prog:Rh) (w:RK):PySem.KeyKind prog w Ry where
 is:=Y4
 hash:=keyH w
 inj:=λv a b ha hb=>by
  rcases kC ha with ⟨i,t,rfl,rfl⟩ | ⟨x,t,rfl,rfl⟩
  .rcases kC hb with ⟨j,u,rfl,e⟩ | ⟨y,u,rfl,e⟩
   .injection e with e1 _;rw[e1]
   .exact nomatch e
  .rcases kC hb with ⟨j,u,rfl,e⟩ | ⟨y,u,rfl,e⟩
   .exact nomatch e
   .injection e with e1 _;rw[e1]
 byValue:=λk v h=>by rcases kC h with ⟨i,t,rfl,rfl⟩ | ⟨x,t,rfl,rfl⟩<;>rfl
 pyHash:=λhv h=>by
  rcases kC hv with ⟨i,t,rfl,rfl⟩ | ⟨x,t,rfl,rfl⟩
  .exact wpAny_pyHash_int h
  .exact wpAny_pyHash_str h
 eqBool:=λhu hv h=>by
  rcases kC hu with ⟨i,t,rfl,rfl⟩ | ⟨x,t,rfl,rfl⟩
  .rcases kC hv with ⟨j,u,rfl,rfl⟩ | ⟨y,u,rfl,rfl⟩
   .rw[Hm] at h;exact wpAny_eqBool_int h
   .rw[Ho] at h;exact SeqAt.EqAt.int_str i t y u _ _ _ _ h
  .rcases kC hv with ⟨j,u,rfl,rfl⟩ | ⟨y,u,rfl,rfl⟩
   .rw[Hq] at h;exact SeqAt.EqAt.str_int x t j u _ _ _ _ h
   .rw[Hn] at h;exact wpAny_eqBool_str h
 «strs»:=λk x t v h=>by
  rcases kC h with ⟨i,u,rfl,e⟩ | ⟨y,u,rfl,e⟩
  .exact nomatch e
  .injection e with e1 _
   subst e1;cases v<;>rfl
theorem Hr (prog:Rh)(w:RK)(i:Int)(t:Tok):(RM prog w).is (.inl i) (.int i t)=tj:=Hj i t
theorem Hs (prog:Rh)(w:RK)(x:Q7)(t:Tok):(RM prog w).is (.inr x) (.str x t)=tj:=Hl x t
inductive V where
 | non | bl (b:Bool) | int (i:Int) | str (x:Q7) | byt (b:Array UInt8) | flt (b:UInt64) | ref (a:Q5) | ty (n:String)
 deriving DecidableEq
noncomputable def kV:Ry->V| .inl i=>.int i| .inr x=>.str x
inductive HO where
 /-- a list -/
 | lst (xs:List V)
 /-- a tuple (never changes) -/
 | tup (xs:List V)
 /-- a dict whose keys are ints and texts;one whose keys are tuples of ints and texts (the empty one is both) -/
 | dK (dN:List (Ry×V)) | dT (dN:List (List Ry×V))
 /-- a set of ints: cG members,cG size -/
 | set (S:Int->Bool) (n:Nat)
 /-- an instance of the class at C,cG dict at dx,cG attributes -/
 | ins (C dx:Q5) (fs:List (Q7×V))
 /-- the dict of the instance at x -/
 | own (x:Q5)
 /-- the dict of an exception -/
 | xd (fs:List (Q7×V))
 /-- a bound method,f of x -/
 | met (f x:Q5)
 /-- a range object lo,lo+1,.. below hi -/
 | rng (lo hi:Int)
 /-- a thing that is known to the object (the script;a dict while a loop walks it): read,never written while it is so -/
 | frz (o:Sr) (u:HO)
 /-- a code object's table -/
 | tbl (ps:Array Value)
 /-- any other thing,by what is tj of cG one object (a def of one's own: SetO a S n:=HO.ext λh=>..) -/
 | ext (φ:Rs->Prop)
abbrev Hp:=Q5->Option HO
noncomputable def upd (H:Hp) (a:Q5) (o:HO):Hp:=λb=>if b=a then se o else H b
section
end
section
end
section
end
section
end
noncomputable def allNews (g h:Rs) (L:Q5):List (Q5×Sr):=(aR h.objs.size).filterMap λa=>if a=L\/(g.get? a).isSome=tj then ng else(h.get? a).map λo=>(a,o)
noncomputable def rest (g h:Rs) (L d:Q5):List (Q5×Sr):=(allNews g h L).filter λp=>decide (p.1≠d)
structure Mod (K:bw)(mg:Q7->Option Value)(base:Rs):Prop where
 kin:K.In base
 glob:base.Ns Ri mg
 blt:∃mb,base.Ns builtinsNs mb/\∀x:Q7,x≠"__name__"->mb x=RH x
 nolimit:base.NoLimit
def Vis (sc:U2)(x:Q7):Prop:=sc.names.lookup x=se .local\/sc.names.lookup x=se .cell\/sc.names.lookup x=se .free
def Loc (sc:U2)(x:Q7):Prop:=sc.names.lookup x=se .local\/sc.names.lookup x=se .cell
def Look (env:Env)(h:Rs)(m:Q7->Option Value)(x:Q7)(u:Value):Prop :=(env.kindOf x=se .local/\m x=se u)\/((env.kindOf x=se .cell\/env.kindOf x=se .free)/\∃c,env.cells.lookup x=se c/\h.IsCell c (se u))
section
theorem Zq {N:List Q7}(hN:N.Nodup){i j:Nat}{x:Q7}(a:N[i]?=se x)(b:N[j]?=se x):i=j:=by obtain⟨h1,e1⟩:=aQ.mp a;obtain⟨h2,e2⟩:=aQ.mp b;exact(List.getElem_inj hN).mp (e1.trans e2.symm)
end
theorem Sd {α:Type}{t:Sem α}{Q Q':α->Q4->Prop}{M:Model}{A:Rg}{E:Value->Q4->Prop}{s:Q4}(h:Rd M A t Q E s)(hQ:∀a s,Q a s->Q' a s):Rd M A t Q' E s:=SU h hQ λ_ _ x=>x
section
end
section
end
section
end
section
end
section
end
section
end
theorem Ht {M:Model}{A:Rg}{E:Value->Q4->Prop}{s:Q4}{tg:Ru}{it:Q5}{u:Value}{o:Sr}{n:String}{vs:Array Value}{Q:Unit->Q4->Prop}(ho:s.heap.get? it=se o)(hc:o.cls=.type n)(hd:o.data=.fields vs) (hn:["enumerate","zip","dict_itemiterator","dict_reverseitemiterator","odict_iterator","itertools.zip_longest","itertools.pairwise"].contains n=ff) (hQ:Q () s):Rd M A (SF tg (.ref it) u) Q E s:=by unfold SF;cases tg<;>first|exact Q8 hQ|((cases u<;>first|exact Q8 hQ|(refine Q3 (wpAny_load ho ?_);rw[hc,hd];show Rd M A (if(["enumerate","zip","dict_itemiterator","dict_reverseitemiterator","odict_iterator","itertools.zip_longest","itertools.pairwise"].contains n&&vs[0]?==se (VI _))=tj then _ else _) Q E s;rw[QX (by intro h;rw[hn,Bool.false_and] at h;cases h)];exact Q8 hQ)))
section
noncomputable def V7 (fp:List Q5) (h:Rs):List (Q5×Sr):=fp.filterMap λb=>(h.get? b).map λo=>(b,o)
theorem A9 {fp:List Q5}{h:Rs}{b:Q5}{o:Sr}(hb:b∈fp)(e:h.get? b=se o):(b,o)∈V7 fp h:=wD.mpr #[b,hb,by rw[e];rfl]
theorem Ba {fp:List Q5}{h:Rs}{p:Q5×Sr}(hp:p∈V7 fp h):p.1∈fp/\h.get? p.1=se p.2:=by obtain⟨b,hb,e⟩:=wD.mp hp;cases q:h.get? b with| none=>rw[q] at e;cases e| some o =>rw[q] at e;have e':(b,o)=p:=dX e;subst e';exact#[hb,q]
end
section
end
section
theorem uK:(sizeLine:Nat)<2^63:=by rw[S6];decide
end
structure Y0 (h:Rs)(x dx C:Q5)(mA:Q7->Option Value):Prop where
 obj:h.get? x=se (uH C dx)
 ns:h.Ns1 dx mA
 ne:dx≠x
theorem Hu {h:Rs}{dx:Q5}{mA:Q7->Option Value}(n:h.Ns1 dx mA):∃od,h.get? dx=se od/\∀name,uI name od=se (mA name):=by obtain⟨o,es,ep,ho,hd,hk,_,hm⟩:=n;refine#[o,ho,λname=>?_];have e:=hm name;unfold nsFind findBy at e;rw[<-Array.find?_toList] at e;unfold uI;rw[hd];dsimp only;split;rename_i y q;rw[q] at e;exact congrArg se e;rename_i q;rw[q] at e;(have a:es.toList.any (·.refKey)=ff:=by rw[wI];intro y hy;obtain⟨z,t,hkey⟩:=hk y (zK.mp hy);simp[DictEntry.refKey,hkey]);(have a':¬es.toList.any (·.refKey)=tj:=by rw[a];exact qN);rw[QX a'];exact congrArg se e
theorem Y0.look {h:Rs}{x dx C:Q5}{mA:Q7->Option Value}(I:Y0 h x dx C mA):∃od,PySem.W.InstAt h x (uH C dx) C (se od)/\∀name,uI name od=se (mA name) :=let #[od,ho,hl]:=Hu I.ns;#[od,#[I.obj,rfl,rfl,ho],hl]
section
variable {prog:Rh}{w:RK}{A:Rg}{E:Value->Q4->Prop}{s:Q4}{K:bw}{x dx C f:Q5}{mA:Q7->Option Value}{name:Q7}{v:Value}
theorem Hv {expr:Bool}{Q:Value->Q4->Prop}(X:K.In s.heap)(I:Y0 s.heap x dx C mA)(hg:rg K C name=tj)(hh:uG K C=tj) (ha:iC K (.ref C) name=se ng) (hv:mA name=se v) (hv':A5 v=tj) (h:Q v { s with toks:=s.toks+1}) :Rd (Rf prog w) A (getAttr (.ref x) name expr) Q E s:=by obtain⟨od,J,hl⟩:=I.look;exact PySem.W.get_value X J (wW hg).1 (PySem.W.findObj_own hh ha rfl (by rw[hl,hv])) hv' h
theorem Hw {pl:Sem Bool}{Q:Value×List Value->Q4->Prop}(X:K.In s.heap)(I:Y0 s.heap x dx C mA)(hg:rg K C name=tj) (hf:iC K (.ref C) name=se (se (.ref f))) (ht:ou K (.ref f)=tj) (hv:mA name=ng) (h:Q (.ref f,[.ref x]) s) :Rd (Rf prog w) A (getMethod (.ref x) name pl) Q E s:=by obtain⟨od,J,hl⟩:=I.look;exact PySem.W.method_fn X J (wW hg).1 (wW hg).2 hf (beq_iff_eq.mp ht) (by show(uI name od).map (·.isSome)=se ff;rw[hl,hv];rfl) h
theorem Hx {ns:List Q7}{Q:Unit->Q4->Prop}(X:K.In s.heap)(I:Y0 s.heap x dx C mA) (hs:iC K (.ref C) "__setattr__"=se (se (.builtin "object.__setattr__"))) (hp:wX K C=tj) (ht:w3 K C name=se ng) (hh:uG K C=tj) (hw:PySem.Within mA ns) (i0:ns.length<=sizeLine) (h:∀h',Y0 h' x dx C (λy=>if y=name then se v else mA y)->Heap.SameBut dx s.heap h'->Q () { s with heap:=h',toks:=s.toks+2}) :Rd (Rf prog w) A (setAttr (.ref x) name v) Q E s:=by obtain⟨od,J,hl⟩:=I.look;refine PySem.W.set_plain X J hs (PySem.W.osa_open (s:={ s with toks:=s.toks+1}) (r:=ng) X J hp ht λb=>?_);obtain⟨cd,hc,ke⟩:=PySem.W.any_some hh;have hx:s.heap.get? x=se #[.ref C,se dx,.plain,([].toArray)]:=I.obj;refine Q3 (Q8 (Q3 (Q3 (wpAny_loadPart hx (Q3 (PySem.W.Looks.here (s:={ s with toks:=s.toks+1}) (PySem.W.looks_clsIn X hc) ?_))))));rw[ke];refine Q8 (a:=se dx) (Q3 (Q8 (Q3 ?_)));refine wpAny_nsSet1 (s:={ s with toks:=s.toks+1}) I.ns λh' hn2 nQ=>?_;obtain⟨oD,esD,epD,hoD,hdD,hcD⟩:=hn2.count (PySem.Within.cons name v hw);refine Q3 (wpAny_lookBehind hoD (by rw[hdD];exact pastItsLine_dict (bW hcD (by rw[fm];exact qZ i0))) ?_);exact Q8 (h _ #[(nQ.2 _ (Ne.symm I.ne)).trans I.obj,hn2,I.ne] nQ)
theorem Hy {R:Result->Q4->Prop}{vs:List Value}{kw:List (Q7×Value)}(X:K.In s.heap)(hm:pY K C=tj) (hi:iC K (.ref C) "__init__"=se (se (.ref f))) (hf:PySem.W.typeIn K (.ref f)=se (.type "function")) (h:U6 (Rf prog w) (A.under (.builtin "type.__call__" #[.ref C::vs,kw])) (.call (.ref f) #[.ref (s.heap.objs.size+1)::vs,kw]) (PySem.W.InitBack (s.heap.objs.size+1) R) { s with heap:=(s.heap.push pX).push (uH C s.heap.objs.size)}) :U6 (Rf prog w) A (.call (.ref C) #[vs,kw]) R s:=by obtain⟨hh,g,d,t,os⟩:=s;exact PySem.W.make_core (PySem.W.makes_of X hm) (PySem.W.looks_findIn X hi) (λself=>PySem.W.bind_fn X self hf) (.inl rfl) h
end
section
end
structure Cls (K:bw)(C:Q5):Prop where
 pg:rg K C Str.empty=tj
 hd:uG K C=tj
 po:wX K C=tj
 sa:iC K (.ref C) "__setattr__"=se (se (.builtin "object.__setattr__"))
theorem Cls.get {K:bw}{C:Q5}(c:Cls K C)(f:Q7):rg K C f=tj:=c.pg
def ZP (K:bw)(C:Q5)(f:Q7):Prop:=iC K (.ref C) f=se ng
theorem ZP.taker {K:bw}{C:Q5}{f:Q7}(n:ZP K C f):w3 K C f=se none:=by unfold w3;rw[show iC K (.ref C) f=se ng from n];rfl
structure Meth (K:bw)(C:Q5)(m:Q7)(f:Q5):Prop where
 at_:iC K (.ref C) m=se (se (.ref f))
 fn:ou K (.ref f)=tj
 kp:ii K (.ref f)=tj
section
variable {s:Q4}{f:Q7}{A:Rg}{E:Value->Q4->Prop}
theorem Hz {prog:Rh}{w:RK}{env:Env}{e:Ru}{f:Q7}{pos:Ue}{s:Q4}{Q:Value->Q4->Prop}(hb:attributeBase e f env (SB e env)=SB e env) (h:Rd (Rf prog w) A (SB e env) (λo s₁=>Rd (Rf prog w) A (getAttr o f tj) Q E s₁) E s):Rd (Rf prog w) A (SB (.Attribute e f pos) env) Q E s :=Attribute_any_ h (by rw[arm_eval_Attribute,hb])
end
section
end
section
end
structure Sq (k:Nat)(A:Rg):Prop where
 hd:A.handled=ng
 dp:A.depth+3*k+5<recursionLimit
 un:A.units+16*k+200<cLine
theorem Sq.mono {j k:Nat}{A:Rg}(r:Sq k A)(h:j<=k):Sq j A:=#[r.hd,by have:=r.dp;lia,by have:=r.un;lia]
theorem Sq.deeper {k:Nat}{A:Rg}(r:Sq (k+1) A)(env:Env):Sq k (A.deeper env) :=#[r.hd,by have:=r.dp;show A.depth+1+3*k+5<_;lia,by have:=r.un;show A.units+3+16*k+200<_;lia]
theorem HB {A:Rg}{C:Q5}{us:List Value}{kw:List (Q7×Value)}:(A.under (.builtin "type.__call__" #[.ref C::us,kw])).depth=A.depth+1:=by first |rfl|simp[Around.under,Code.weight,Code.isCreation,Code.isGuard,Code.isCaller,Code.frames,Code.isFrame,guardIds]
theorem HC {A:Rg}{C:Q5}{us:List Value}{kw:List (Q7×Value)}:(A.under (.builtin "type.__call__" #[.ref C::us,kw])).units=A.units+1:=by first |rfl|simp[Around.under,Code.cUnits,Code.frames,Code.isFrame]
theorem Sq.make {k:Nat}{A:Rg}(r:Sq (k+1) A)(C:Q5)(us:List Value)(kw:List (Q7×Value)):Sq k (A.under (.builtin "type.__call__" #[.ref C::us,kw])) :=#[r.hd,by have:=r.dp;rw[HB];lia,by have:=r.un;rw[HC];lia]
theorem Sq.depth {k:Nat}{A:Rg}(r:Sq k A):A.depth<recursionLimit:=by have:=r.dp;lia
section
end
section
end
def Binds (K:bw)(fd:R2)(ps:List Q7)(ds:List Value):Prop :=∀(s:Q4) (us:List Value),K.In s.heap->(us++ds).length=ps.length->BindsTo s fd #[us,[]] (ps.zip (us++ds))
theorem Binds.all {K:bw}{fd:R2}{ps:List Q7}(h:∀us:List Value,us.length=ps.length->bindArgs fd #[us,[]]=pure (ps.zip us)):Binds K fd ps []:=λs us _ hl=>by rw[mw] at hl ⊢;exact .of_eq (h us hl)
section
variable {f C:Q5}
structure Mk (K:bw)(C f:Q5):Prop where
 makes:pY K C=tj
 init:iC K (.ref C) "__init__"=se (se (.ref f))
 fn:ou K (.ref f)=tj
 kp:ii K (.ref C)=tj
end
section
end
structure TI (N P:List Q7)(sc:U2):Prop where
 kind:sc.kind=.function
 co:sc.isCoroutine=ff
 gen:sc.isGenerator=ff
 nd:N.Nodup
 pre:N.take P.length=P
 par:∀x∈P,sc.names.lookup x=se .local\/sc.names.lookup x=se .cell
 nofree:∀y∈sc.names,y.2≠.free
theorem Bc {kindOf:Q7->Option Vq}{x:Q7}:∀{binds:List (Q7×Value)} {m:Q7->Option Value},(∀v,(x,v)∉binds)->bindL kindOf binds m x=m x| [],_,_=>rfl| (n,v)::r,m,h=>by unfold bindL;rw[Bc λw hw=>h w (a7 _ hw)];split;(have:x≠n:=by rintro rfl;exact h v aO);simp[this];rfl
theorem Be {kindOf:Q7->Option Vq}{x:Q7}:∀{binds:List (Q7×Value)} {m:Q7->Option Value},(∀v,(x,v)∉binds)->bindC kindOf binds m x=m x| [],_,_=>rfl| (n,v)::r,m,h=>by unfold bindC;rw[Be λw hw=>h w (a7 _ hw)];split;rfl;(have:x≠n:=by rintro rfl;exact h v aO);simp[this]
theorem Bf {kindOf:Q7->Option Vq}{x:Q7}{v:Value}:∀{P:List Q7} {vs:List Value} {i:Nat} {m:Q7->Option Value},P.Nodup->P[i]?=se x->vs[i]?=se v->kindOf x=se .local->bindL kindOf (P.zip vs) m x=se v| [],_,_,_,_,h,_,_=>by trivial| _::_,[],_,_,_,_,h,_=>by trivial| p::P,w::vs,0,m,nd,h1,h2,hk=>by simp at h1 h2;subst h1;subst h2;show bindL kindOf ((p,w)::P.zip vs) m p=_;unfold bindL;rw[Bc λv hv=>(eG.mp nd).1 (bY hv).1,QY hk];simp| p::P,w::vs,i+1,m,nd,h1,h2,hk=>by show bindL kindOf ((p,w)::P.zip vs) m x=_;unfold bindL;exact Bf (i:=i) (eG.mp nd).2 (by assumption) (by assumption) hk
theorem Bh {kindOf:Q7->Option Vq}{x:Q7}{v:Value}:∀{P:List Q7} {vs:List Value} {i:Nat} {m:Q7->Option Value},P.Nodup->P[i]?=se x->vs[i]?=se v->kindOf x≠se .local->bindC kindOf (P.zip vs) m x=se v| [],_,_,_,_,h,_,_=>by trivial| _::_,[],_,_,_,_,h,_=>by trivial| p::P,w::vs,0,m,nd,h1,h2,hk=>by simp at h1 h2;subst h1;subst h2;show bindC kindOf ((p,w)::P.zip vs) m p=_;unfold bindC;rw[Be λv hv=>(eG.mp nd).1 (bY hv).1,QX hk];simp| p::P,w::vs,i+1,m,nd,h1,h2,hk=>by show bindC kindOf ((p,w)::P.zip vs) m x=_;unfold bindC;exact Bh (i:=i) (eG.mp nd).2 (by assumption) (by assumption) hk
theorem Bi {sc:U2}{n:Nat}{x:Q7}(h:sc.names.lookup x=se .cell):∃c,(cellsFrom n sc.names []).lookup x=se c:=by have q:=wV sc.names n [] (.inl h);exact uE.mp q
section
end
end NAL
namespace NAH
open PySem PyProof.Rows
section
open PySem.SeqAt
open PySem.AutoSeq1 (wpAny_loadPart')
open PySem.MeetsSeq PySem.MeetsSeq2 PySem.MeetsSeq3
end
section
variable {prog:Rh}{w:RK}{A:Rg}{E:Value->Q4->Prop}{s:Q4}
noncomputable def Ud (n d:Nat):Option Int->Nat| none=>d| some v=>if v<0 then(v+(n:Int)).toNat else min v.toNat n
theorem HD (n d:Nat)(hd:d<=n)(o:Option Int):Ud n d o<=n:=by cases o with| none=>exact hd| some v =>show(if v<0 then(v+(n:Int)).toNat else min v.toNat n)<=n;by_cases hv:v<0;rw[QY hv];lia;rw[QX hv];exact Nat.min_le_right _ _
theorem Bj (v:Int)(n d:Nat):(if v<0 then max (v+(n:Int)) 0 else min v (n:Int))=((Ud n d (se v):Nat):Int):=by show(if v<0 then max (v+(n:Int)) 0 else min v (n:Int))=(((if v<0 then(v+(n:Int)).toNat else min v.toNat n):Nat):Int);by_cases hv:v<0;simp only[QY hv];simp_all;simp only[QX hv];lia
theorem HE (lo hi:Option Int)(n:Nat):Builtin.Slice.sliceAdjust lo hi 1 (n:Int)=(((Ud n 0 lo:Nat):Int),((Ud n n hi:Nat):Int)):=by(have h1:¬((1:Int)<0):=by trivial);unfold Builtin.Slice.sliceAdjust;simp only[h1,if_false];refine Prod.ext ?_ ?_;(cases lo with| none=>rfl| some v=>exact Bj v n 0);cases hi with| none=>rfl| some v=>exact Bj v n n
theorem HF (i j:Nat):Builtin.Slice.slicePlaces (i:Int) (j:Int) 1=j-i:=by unfold Builtin.Slice.slicePlaces;(have h1:(1:Int)>0:=by trivial);simp only[h1,if_true,Int.ediv_one];split<;>lia
theorem Bk {v:Value}{o:Option Int}{Q:Option Int->Q4->Prop}(p:IsPart v o)(h:Q o s):Rd (Rf prog w) A (Builtin.Slice.slicePartIndex v) Q E s:=by cases p with| none=>exact slicePart_none h| int i t=>exact slicePart_int h
theorem HG {sl:Q5}{vl vu:Value}{lo hi:Option Int}{n:Nat}{Q:Int×Int×Nat->Q4->Prop}(hs:s.heap.IsSliceOf sl vl vu .none)(pl:IsPart vl lo)(pu:IsPart vu hi) (h:Q (((Ud n 0 lo:Nat):Int),1,Ud n n hi-Ud n 0 lo) s):Rd (Rf prog w) A (Builtin.Slice.sliceApplied (.ref sl) (pure (n:Int))) Q E s:=by obtain⟨os,hos,hcs,hds⟩:=id hs;unfold Builtin.Slice.sliceApplied Builtin.Slice.sliceFields;refine Q3 (Q3 (Sc hos hds (x:=vl) rfl (Q3 (Sc hos hds (x:=vu) rfl (Q3 (Sc hos hds (x:=.none) rfl (Q8 ?_)))))));refine Q3 (slicePart_none ?_);show Rd _ _ (if((1:Int)==0)=tj then _ else _) _ _ s;rw[QX Γ];refine Q3 (Bk pl (Q3 (Bk pu (Q3 (Q8 ?_)))));show Rd _ _ (match Builtin.Slice.sliceAdjust lo hi 1 (n:Int)with | (lo,hi)=>pure (lo,(1:Int),Builtin.Slice.slicePlaces lo hi 1)) _ _ s;rw[HE lo hi n];show Rd _ _ (pure (((Ud n 0 lo:Nat):Int),(1:Int),Builtin.Slice.slicePlaces ((Ud n 0 lo:Nat):Int) ((Ud n n hi:Nat):Int) 1)) _ _ s;rw[HF];exact Q8 h
theorem HH (xs:Array Value)(i k:Nat):((aR k).filterMap λ(m:Nat)=>xs[((i:Int)+(m:Int)*1).toNat]?).toArray=((xs.toList.drop i).take k).toArray:=by(have e:(λ(m:Nat)=>xs[((i:Int)+(m:Int)*1).toNat]?)=λm=>xs[i+m]?:=by funext m;(have:((i:Int)+(m:Int)*1).toNat=i+m:=by lia);rw[this]);rw[e];have:=pick_run xs i k;rw[wE] at this;have e2:((λx=>xs[x]?)∘λx=>i+x)=λm=>xs[i+m]?:=rfl;rw[e2] at this;rw[this]
theorem XO {t sl:Q5}{items:Array Value}{vl vu:Value}{lo hi:Option Int}{Q:Value->Q4->Prop}(ht:IsTup s.heap t items)(hs:s.heap.IsSliceOf sl vl vu .none)(pl:IsPart vl lo)(pu:IsPart vu hi) (hw:¬(Ud items.size 0 lo=0/\Ud items.size items.size hi=items.size)) (h:Q (.ref s.heap.objs.size) { s with heap:=s.heap.push { cls:=.type "tuple",data:=.seq ((items.toList.drop (Ud items.size 0 lo)).take (Ud items.size items.size hi-Ud items.size 0 lo)).toArray}}) (i0:items.size<=sizeLine):Rd (Rf prog w) A (getItem (.ref t) (.ref sl)) Q E s:=by(have i4:sizeOk (.seq ((items.toList.drop (Ud items.size 0 lo)).take (Ud items.size items.size hi-Ud items.size 0 lo)).toArray):=by show((items.toList.drop (Ud items.size 0 lo)).take (Ud items.size items.size hi-Ud items.size 0 lo)).toArray.size<=sizeLine;rw[gT,i8,Ar,Array.length_toList];lia);have hj:Ud items.size items.size hi<=items.size:=HD _ _ (bE _) hi;obtain⟨os,hos,hcs,hds⟩:=id hs;have hTs:s.TypeIs (.ref sl) "slice":=#[os,hos,hcs];unfold getItem;(try with_reducible refine Tg ?_);(first |refine Q3 (Q8 ?_)|skip);refine Q3 (wpAny_sequenceKey ht.typeIs Γ ?_);refine Q3 (SX (name:=Str.ofString "__getitem__") ht.typeIs wU (TC wU ht.typeIs entry_tuple_getitem ?_ (args_tuple_getitem _ _)));show Rd _ _ (Builtin.Tuple.tupleItemsOf (.ref t)>>=_) _ _ s;refine Q3 (tupleItemsOf_ ht ?_);refine Q3 (wpAny_typeOf hTs ?_);rw[QY Γ];refine Q3 (HG hs pl pu ?_);(have hno:¬((((Ud items.size 0 lo:Nat):Int)==0&&(1:Int)==1&&(Ud items.size items.size hi-Ud items.size 0 lo)==items.size)=tj):=by intro q;rw[cI,cI] at q;have q1:((Ud items.size 0 lo:Nat):Int)=0:=eq_of_beq q.1.1;have q2:Ud items.size items.size hi-Ud items.size 0 lo=items.size:=eq_of_beq q.2;exact hw #[by simpa using q1,Β]);show Rd _ _ (if(((Ud items.size 0 lo:Nat):Int)==0&&(1:Int)==1&&(Ud items.size items.size hi-Ud items.size 0 lo)==items.size)=tj then _ else _) _ _ s;rw[QX hno,HH];first|exact Q3 (m:=Builtin.Tuple.tupleExact _) (R6 (Q8 #[_,rfl,Q8 h]) i4)|exact Q3 (m:=Builtin.Tuple.tupleExact _) (R6 (Q3 (Q8 (Q8 #[_,rfl,Q8 h]))) i4)|exact Q3 (Q3 (m:=Builtin.Tuple.tupleExact _) (R6 (Q8 (Q8 #[_,rfl,Q8 h])) i4))|exact Q3 (Q3 (m:=Builtin.Tuple.tupleExact _) (R6 (Q8 #[_,rfl,Q8 h]) i4))
end
end NAH
namespace NAL
open PySem PySem.Spec PyProof.Rows
section
end
noncomputable def ixN (n:Nat) (i:Int):Option Nat:=if 0<=i then(if i<n then se i.toNat else ng)else if-(n:Int)<=i then se (i+n).toNat else ng
theorem Bl {n:Nat}{i:Int}{j:Nat}(h:ixN n i=se j):seqIndex? i n=se j/\j<n/\-(n:Int)<=i/\i<n:=by unfold ixN at h;by_cases h0:0<=i;rw[QY h0] at h;by_cases h1:i<n;rw[QY h1] at h;have e:i.toNat=j:=dX h;exact#[by rw[seqIndex_of h0 h1,e],by lia,by lia,h1];rw[QX h1] at h;cases h;rw[QX h0] at h;by_cases h1:-(n:Int)<=i;rw[QY h1] at h;have e:(i+n).toNat=j:=dX h;exact#[by rw[seqIndex_neg Β h1,e],by lia,h1,by lia];rw[QX h1] at h;cases h
def HI (b:Ru):Prop:=∀o i,subscripted b ff o i=operate [o,i] (getItem o i)
section
theorem HJ (lo hi:Option Int)(n:Nat):(RC lo hi ng n).1=((NAH.Ud n 0 lo:Nat):Int)/\(RC lo hi ng n).2.1=((NAH.Ud n n hi:Nat):Int)/\(RC lo hi ng n).2.2=1:=by refine#[?_,?_,rfl];(cases lo with| none=>rfl| some i =>simp only[RC,NAH.Ud,AQ,show(1:Int)>0 by decide,if_true];by_cases h:i<0;simp only[h,if_true]<;>lia;simp only[h,if_false]<;>lia);cases hi with| none=>rfl| some i =>simp only[RC,NAH.Ud,AQ,show(1:Int)>0 by decide,if_true];by_cases h:i<0;simp only[h,if_true]<;>lia;simp only[h,if_false]<;>lia
theorem HK (cG:List Value)(lo hi:Option Int):UC cG.toArray lo hi ng=((cG.drop (NAH.Ud cG.length 0 lo)).take (NAH.Ud cG.length cG.length hi-NAH.Ud cG.length 0 lo)).toArray:=by obtain⟨h1,h2,h3⟩:=HJ lo hi cG.toArray.size;unfold UC;rw[h1,h2,h3];simp only[sliceRange_one,pick_run,gT]<;>rfl
end
theorem HL {α:Type}(l:List α):l.eraseIdx (l.length-1)=l.dropLast:=by induction l with| nil=>rfl| cons a r ih =>cases r with| nil=>rfl| cons b r =>(have e:(a::b::r).length - 1=((b::r).length - 1)+1:=by have h1:(a::b::r).length=r.length+2:=rfl;have h2:(b::r).length=r.length+1:=rfl;assumption);rw[e,List.eraseIdx_cons_succ,ih];all_goals rfl
theorem foldl_rep (cG:List Value):∀(k:Nat) (acc:List Value),List.foldl (λx1 x2=>x1++x2) acc.toArray (bf k cG.toArray)=(acc++(bf k cG).flatten).toArray| 0,acc=>by simp| k+1,acc=>by(have e:acc.toArray++cG.toArray=(acc++cG).toArray:=by simp);(have e2:(acc++cG)++(bf k cG).flatten=acc++(bf (k+1) cG).flatten:=by rw[n9,List.flatten_cons,fY]);rw[<-e2,<-foldl_rep cG k (acc++cG),<-e,n9,pO]
section
theorem Bm {n:Nat}(h:n<=sizeLine):Builtin.List.listTooLong n=ff:=by unfold Builtin.List.listTooLong;exact Q1 (by exact Nat.not_lt.mpr h)
end
section
end
section
end
section
end
end NAL
namespace NAA
open PySem PySem.W PySem.Calls PyProof.Rows
theorem HM {P:Params}{h:Rs}:∀(ns:xae) (vs:List Value),WellAll P h vs (ns.map WData.int)->IntsAre vs ns:=by intro ns;induction ns with| nil =>intro vs w;rw[kZ] at w;cases w;exact .nil| cons n ns ih =>intro vs w;rw[be] at w;cases w with| cons a b =>cases a;exact .cons _ _ (ih _ b)
theorem HN {l:OpenLaw}{n:Nat}(hn:l.most=se n){P:Params}{h:Rs}{args:List WData}{ay:List Value} (lO:l.row.toRowW.claim.pre args=tj) (kf:WellAll P h ay args) :∃a vs ns,ay=[Value.ref a]/\args=[WData.list (ns.map WData.int)]/\h.get? a=se { cls:=.type "list",data:=.seq vs.toArray}/\IntsAre vs ns/\ns.length<=n:=by have hsh:WShape.hasAll [] args [.list .int]=tj:=(pre_splitW lO).1;have hc:l.pre.holds [] { args:=args}=tj:=(pre_splitW lO).2;obtain⟨d,r,rfl,h1,h2⟩:=hasAllW_cons hsh;obtain rfl:=hasAllW_nil h2;obtain⟨xs,rfl,h3⟩:=hasW_list h1;obtain⟨ns,rfl⟩:=items_int h3;(have dZ:ns.length<=n:=by unfold OpenLaw.pre at hc;(have h4:(WTm.not (.lt (.lit (.int (n:Int))) (.len (.arg 0)))).holds [] { args:=[.list (ns.map .int)]}=tj:=by have h4:=(holds_andW hc).1;rw[hn] at h4;exact h4);have h5:=condW_of h4 (w_not (w_lt w_lit (w_len_list (w_arg rfl))));rw[bn] at h5;refine pW λq=>?_;(have q':(n:Int)<((ns.length:Nat):Int):=by simpa using q);first|(rw[QZ q'] at h5;exact absurd h5 Γ)|(simp at h5;lia));cases kf with| cons w1 w2 =>cases w2;cases w1 with| list ho jV=>exact#[_,_,ns,rfl,rfl,ho,HM ns _ jV,dZ]
theorem HP (l:OpenLaw)(args:List WData):l.row.toRowW.claim.post args (.bool tj) args=tj :=postW_of (r:=l.row.toRowW) (X:=(tj==tj)) (show WShape.has [] (.bool tj) .bool=tj by first |rfl|decide|simp[WShape.has,WShape.arms,WShape.armsAll]) (show(WTm.eq .res (.lit (.bool tj))).value [] { args:=args,res:=se (.bool tj),after:=args}=se (.bool (tj==tj))from w_eq_bool (w_res rfl) w_lit) rfl
theorem attach_call {l:OpenLaw}{n:Nat}{q:Rh}{jS:List Q7}{XP:(Q7->Option Value)->Rs->Prop}{YP:RK->Rs->Prop}{d:DefRec} (hn:l.most=se n) (hdf:d.params.defaults=[]) (call:∀(w:RK) (s₀ s₁:Q4) (mg mb:Q7->Option Value) (fa:Q5) (o:Sr) (pm cd cq:Value) (a:Q5) (vs:List Value) (ns:xae),Ground q jS [] XP w s₀ mg mb s₁.heap->YP w s₁.heap->s₁.heap.get? fa=se o->o.data=.func (docDef d.name d.params d.body d.scope pm cd cq)->s₁.heap.CodeRec cd d.name->mg d.name=se (.ref fa)->s₁.heap.get? a=se { cls:=.type "list",data:=.seq vs.toArray}->IntsAre vs ns->ns.length<=n->s₁.gens=([].toArray)->U6 (Rf l.prog w) callerA (.call (.ref fa) #[[.ref a],[]]) (λr s'=>r=.ok (.ret (.bool tj))/\OldK s₁.heap s'.heap/\s'.os=s₁.os/\AllBare s'.gens) s₁) :WalkO q jS XP YP l.row.toRowW d [] (λf vs=>PySem.call f vs):=by intro w s₀ s₁ mg mb G Y fa o pm cd cq dV kV ho hd hcd hD hmg hg args ay as lO hlay hrd kf tI;obtain rfl:dV=.none:=Dflts.none hD hdf;obtain rfl:kV=.none:=Dflts.noKw hD;obtain⟨a,vs,ns,rfl,rfl,hobj,hints,dZ⟩:=HN hn lO kf;refine enter_call (Ta (call w s₀ s₁ mg mb fa o pm cd cq a vs ns G Y ho (fd_plain hd) hcd hmg hobj hints dZ hg) λr s' hq=>?_);obtain⟨rfl,h2,h3,h4⟩:=hq;exact#[.inl #[.bool tj,.bool tj,[],rfl,λ_=>rfl,.bool tj,HP l _,λ_=>#[List.Pairwise.nil,λ_ hm=>(nomatch hm)]],h2,h3,h4]
section
noncomputable def ledger (h:Rs) (L d:Q5):List (Q5×Sr):=(aR h.objs.size).filterMap λa=>if a=L\/a=d then ng else(h.get? a).map λo=>(a,o)
end
end NAA
namespace NAL
open PySem PySem.Spec PyProof.Rows
noncomputable def XN (s:SD) (j:Nat):SD:=match s with| .ClassDef _ _ _ body _ _ _ _ _ _ _=>body.getD j (.Pass #[0,0,0,0])| _=>.Pass #[0,0,0,0]
noncomputable def Tq (s:SD):Arguments:=match s with| .FunctionDef _ a _ _ _ _ _ _ _ _=>a| _=>{ posonlyargs:=[],args:=[],vararg:=ng,kwonlyargs:=[],kw_defaults:=[],kwarg:=ng,defaults:=[]}
noncomputable def SS (s:SD):List SD:=match s with| .FunctionDef _ _ b _ _ _ _ _ _ _=>b| _=>[]
noncomputable def RF (s:SD):U2:=match s with| .FunctionDef _ _ _ _ _ _ sc _ _ _=>sc| _=>{ kind:=.function,names:=[],isGenerator:=ff,isCoroutine:=ff}
structure Fun (K:bw)(x qual:Q7)(st:SD)(f:Q5)(fd:R2):Prop where
 ex:∃(oc:Value) (od:Option Q5) (kV cq pm:Value) (an:Option Q5) (cdv ct:Value) (dO:Array (Option Value)),
  fd=im x qual (Tq st) (SS st) (RF st) .none kV cq pm an cdv ct/\K.lookup f=se #[oc,od,.func fd,dO]/\kA K cdv qual=tj
 kp:ii K (.ref f)=tj
section
variable {K:bw}
theorem Fun.binds {x qual:Q7}{st:SD}{f:Q5}{fd:R2}{ps:List Q7}(F:Fun K x qual st f fd) (h:∀(kV cq pm:Value) (an:Option Q5) (cdv ct:Value) (us:List Value),us.length=ps.length->bindArgs (im x qual (Tq st) (SS st) (RF st) .none kV cq pm an cdv ct) #[us,[]]=pure (ps.zip us)):Binds K fd ps []:=by obtain⟨oc,od,kV,cq,pm,an,cdv,ct,dO,rfl,lk,hcd⟩:=F.ex;exact .all (h kV cq pm an cdv ct)
theorem mH {x qual:Q7}{st:SD}{f:Q5}{oc:Value}{od an:Option Q5}{dO:Array (Option Value)}{kV cq pm cdv ct:Value}(l:K.lookup f=se #[oc,od,.func (im x qual (Tq st) (SS st) (RF st) .none kV cq pm an cdv ct),dO]) (c:kA K cdv qual=tj) (k:ii K (.ref f)=tj):Fun K x qual st f (im x qual (Tq st) (SS st) (RF st) .none kV cq pm an cdv ct):=#[#[oc,od,kV,cq,pm,an,cdv,ct,dO,rfl,l,c],k]
end
section
end
end NAL
namespace NAL.EX
open PySem PySem.Spec PyProof.Rows
section
def Bd (n:Nat)(i:Int):Prop:=i.natAbs<2^n
noncomputable def okC (c:String):Bool:=["int","bool","str","list","tuple","dict"].contains c
end
structure Top (K:bw)(mg:Q7->Option Value)(x:Q7)(st:SD)(ps:List Q7):Prop where
 is:∃(f:Q5) (fd:R2),Fun K x x st f fd/\Binds K fd ps []/\mg x=se (.ref f)
section
end
section
end
section
end
section
end
theorem HQ:RH "abs"=se (.builtin "abs"):=by decide +kernel
theorem HR:RH "min"=se (.builtin "min"):=by decide +kernel
theorem HS:RH "sum"=se (.builtin "sum"):=by decide +kernel
theorem HU:RH "any"=se (.builtin "any"):=by decide +kernel
theorem HV:RH "isinstance"=se (.builtin "isinstance"):=by decide +kernel
theorem HW:RH "int"=se (.type "int"):=by decide +kernel
theorem uL:RH "list"=se (.type "list"):=by decide +kernel
theorem Bo:RH "dict"=se (.type "dict"):=by decide +kernel
theorem HX:RH "enumerate"=se (.type "enumerate"):=by decide +kernel
theorem w4:RH "zip"=se (.type "zip"):=by decide +kernel
section
end
theorem HY (hi:Bd m i)(hj:Bd n j)(h:m+n<=134217728):IntMulOk i j:=IntMulOk.of_le (intBits_le_iff.mpr hi) (intBits_le_iff.mpr hj) h
theorem HZ (h:Bd n j)(hn:n<=9000)(h0:j≠0):j.natAbs.log2<9000:=by have h2:=(Nat.log2_lt Β).mpr h;lia
theorem Bd.le (h:Bd m i)(k:m<=n):Bd n i:=iR h (mE Γ k)
theorem H0 {K:bw}{mg:Q7->Option Value}{h:Rs}{x:Q7}{st:SD}{ps:List Q7}{f:Q5}{oc:Value}{od an:Option Q5}{dO:Array (Option Value)}{kV cq pm cdv ct:Value}(X:K.In h)(G:h.Ns Ri mg) (a:kB K Ri x=se (se (.ref f))) (l:K.lookup f=se #[oc,od,.func (im x x (Tq st) (SS st) (RF st) .none kV cq pm an cdv ct),dO]) (c:kA K cdv x=tj) (k:ii K (.ref f)=tj) (b:∀(kV cq pm:Value) (an:Option Q5) (cdv ct:Value) (us:List Value),us.length=ps.length->bindArgs (im x x (Tq st) (SS st) (RF st) .none kV cq pm an cdv ct) #[us,[]]=pure (ps.zip us)):Top K mg x st ps :=#[f,_,mH l c k,(mH l c k).binds b,oq X G a]
theorem w5:∀(ns:List (Q7×Vq)) acc,(∀y∈ns,y.2=.free->∃c,env.cells.lookup y.1=se c)->(∀x c,acc.lookup x=se c->env.cells.lookup x=se c)->∃cl:List (Q7×Q5),(forIn ns acc (λx r=>match x with | (name,kind)=>if(kind==NameKind.free)=tj then do let c <-cellOf env name;pure (ForInStep.yield ((name,c)::r)) else pure (ForInStep.yield r)):Sem (List (Q7×Q5)))=pure cl/\(∀x c,cl.lookup x=se c->env.cells.lookup x=se c)/\(∀x c,acc.lookup x=se c->∃c',cl.lookup x=se c')/\∀y∈ns,y.2=.free->∃c,cl.lookup y.1=se c| [],acc,_,h2=>#[acc,rfl,h2,λx c e=>#[c,e],λy hy=>nomatch hy]| (n,k)::r,acc,h1,h2=>by have lQ:=λy hy=>h1 y (a7 _ hy);by_cases hk:k=.free;subst hk;obtain⟨c,hc⟩:=h1 (n,.free) aO rfl;(have kh:∀x d,((n,c)::acc).lookup x=se d->env.cells.lookup x=se d:=λx d e=>by grind);obtain⟨cl,e,a,b,d⟩:=w5 r ((n,c)::acc) lQ kh;(have kp:∀x c',acc.lookup x=se c'->∃c'',((n,c)::acc).lookup x=se c'':=λx c' q=>by grind);refine#[cl,?_,a,λx c' q=>let #[c'',q']:=kp x c' q;b x c'' q',λy hy hf=>?_];(have ec:cellOf env n=pure c:=by grind[cellOf]);simp_all;grind;obtain⟨cl,e,a,b,d⟩:=w5 r acc lQ h2;grind
theorem H3 {scope:U2}{env:Env}(h:∀y∈scope.names,y.2=.free->∃c,env.cells.lookup y.1=se c) :∃cl,closureFor scope env=pure cl/\(∀x c,cl.lookup x=se c->env.cells.lookup x=se c)/\∀y∈scope.names,y.2=.free->∃c,cl.lookup y.1=se c:=by obtain⟨cl,e,a,_,d⟩:=w5 scope.names [] h (λx c e=>by trivial);refine#[cl,?_,a,d];unfold closureFor;exact(congrArg (· >>= pure) e).trans (pure_bind _ _)
section
variable {prog:Rh}{w:RK}{A:Rg}{R:Result->Q4->Prop}{s:Q4}
abbrev NoE:Value->Q4->Prop:=λ_ _=>False
theorem H4 (J:Nat->Q4->Prop) (turn:∀n s,J n s->Rd (Rf prog w) A (pyNext it) (λr s₁=>match r with| none=>R (.ok .next) s₁| some v=>Rd (Rf prog w) A (SF target it v) (λ_ s₂=>Rd (Rf prog w) A (assign target env v) (λ_ s₃ =>Rd (Rf prog w) A (forIn jZ tj λc r=>if r=tj then do let ok <-isTrue c env (SB c env);pure (ForInStep.yield ok) else pure (ForInStep.yield r)) (λok s₄ =>if ok=tj then Rd (Rf prog w) A (SB fF env) (λx s₅=>Rd (Rf prog w) A (call (.builtin "list.append") [acc,x]) (λ_ s₆=>∃m,m<n/\J m s₆) NoE s₅) NoE s₄ else∃m,m<n/\J m s₄) NoE s₃) NoE s₂) NoE s₁) NoE s) (n:Nat) (h:J n s):U6 (Rf prog w) A (.compLoop (.ListComp fF [#[target,iter,jZ,0]] scope pos) 0 it acc env) R s:=by refine codeAny_loop rfl J (λn s hJ=>?_) n h;refine wpAny_noted ?_;refine Q3 (wpAny_standAt (Q3 (SU (turn n s hJ) (λr s₁ h₁=>?_) λ_ _ z=>z.elim)));cases r with| none=>exact Q8 h₁| some v =>refine Q3 (SU h₁ (λ_ s₂ h₂=>?_) λ_ _ z=>z.elim);refine Q3 (SU h₂ (λ_ s₃ h₃=>?_) λ_ _ z=>z.elim);refine Q3 (SU h₃ (λok s₄ h₄=>?_) λ_ _ z=>z.elim);cases ok with| false=>exact Q8 #[rfl,h₄]| true =>exact Q3 (Q3 (SU h₄ (λx s₅ h₅=>Q3 (SU h₅ (λ_ s₆ h₆=>Q8 (Q8 #[rfl,h₆])) λ_ _ z=>z.elim)) λ_ _ z=>z.elim))
end
theorem w6 {env:Env}{x:Q7}{k':Vq}:∀{names:List (Q7×Vq)},(names.map λ(n,k)=>if(k==NameKind.free&&env.scope.kind==.function&&env.kindOf n==se .cell)then(n,NameKind.cell)else(n,k)).lookup x=se k'->∃k,names.lookup x=se k/\(k'=k\/(k=.free/\k'=.cell))| [],h=>nomatch h| (n,k)::r,h=>by have ih:=@w6 env x k' r;grind
theorem H5 {env:Env}{names:List (Q7×Vq)}(h:names.lookup x=se .free) :(names.map λ(n,k)=>if(k==NameKind.free&&env.scope.kind==.function&&env.kindOf n==se .cell)then(n,NameKind.cell)else(n,k)).lookup x=se .cell\/(names.map λ(n,k)=>if(k==NameKind.free&&env.scope.kind==.function&&env.kindOf n==se .cell)then(n,NameKind.cell)else(n,k)).lookup x=se .free:=by induction names with| nil=>exact nomatch h| cons p r ih =>grind
def YK (env:Env):List Q7->Prop| []=>True| x::r=>(env.kindOf x=se .cell\/env.kindOf x=se .free)/\YK env r
theorem YK.mem:∀{l:List Q7},YK env l->x∈l->env.kindOf x=se .cell\/env.kindOf x=se .free| _::_,h,hx=>by rcases bj.mp hx with rfl | hx;exact h.1;exact YK.mem h.2 hx
section
end
section
end
section
end
section
end
structure ClsF (K:bw)(C:Q5)(f:Q7):Prop where
 cl:Cls K C
 no:ZP K C f
structure MTop (K:bw)(C:Q5)(m qual:Q7)(st:SD)(ps:List Q7):Prop where
 is:∃(f:Q5) (fd:R2),Fun K m qual st f fd/\Binds K fd ps []/\Meth K C m f
 cl:Cls K C
section
end
section
end
def Sh (n:Nat)(d:PyData):Prop:=d.canLay0=tj/\d.depth<=n
theorem H6 (i:Int):Sh n (.int i):=#[by simp only[PyData.canLay0],by grind[PyData.depth]]
theorem H7 (i:Bool):Sh n (.bool i):=#[by simp only[PyData.canLay0],by grind[PyData.depth]]
theorem uM (h:∀d∈ds,Sh n d):PyData.canLayAll0 ds=tj/\PyData.depthAll ds<=n:=by induction ds with| nil=>grind[PyData.canLayAll0,PyData.depthAll]| cons d ds ih =>obtain⟨h1,h2⟩:=h d aO;obtain⟨h3,h4⟩:=ih λx hx=>h x (a7 _ hx);refine#[by simp only[PyData.canLayAll0,h1,h3,Bool.and_self],?_];simp only[PyData.depthAll];lia
theorem H8 (h:∀d∈ds,Sh n d):Sh (n+1) (.list ds):=#[(uM h).1,by simp only[PyData.depth];have:=(uM h).2;lia]
theorem H9 (h:∀d∈ds,Sh n d):Sh (n+1) (.tuple ds):=#[(uM h).1,by simp only[PyData.depth];have:=(uM h).2;lia]
theorem Sh.shaped (h:Sh 60 d):A0 d=tj:=by unfold A0;rw[h.1,QZ (bW h.2 Γ)];rfl
section
theorem w7 (hr:Sq k A):A.units+64<cLine:=by have:=hr.un;lia
end
section
theorem uN {A:Rg}(h:A.handled=ng):A.in1.handled=none:=h
theorem Ia (bs:List Bool):((aR bs.length).any λi=>bs.getD i ff)=bs.any id:=by rw[fJ,gL,gL];constructor;rintro⟨i,hi,e⟩;have hl:=dy.mp hi;refine#[tj,?_,rfl];(have:bs[i]?=se tj:=by rw[bR,aT hl] at e;rw[aT hl];exact congrArg se e);exact aK this;rintro⟨b,hb,e⟩;obtain⟨i,hi⟩:=bz hb;refine#[i,dy.mpr (aQ.mp hi).1,?_];rwa [bR,hi]
theorem Bp (ns:xae):∀n,n<=ns.length->preSum (λi=>ns.getD i 0) n=(ns.take n).sum| 0,_=>by simp[preSum]| n+1,h=>by(have hn:n<ns.length:=by lia);rw[preSum,Bp ns n (by lia),bR,aT hn,(zZ hn).symm,jJ];simp
theorem Ib (ns:xae):preSum (λi=>ns.getD i 0) ns.length=ns.sum:=by rw[Bp ns _ (bE _),mu]
theorem argBest_lt (bt:Nat->Nat->Bool):∀k,argBest bt k<=k| 0=>bE _| k+1=>by have:=argBest_lt bt k;unfold argBest;split<;>lia
theorem Bq (ns:xae):∀k,∀j≤k,ns.getD (argBest (λi j=>decide (ns.getD i 0<ns.getD j 0)) k) 0<=ns.getD j 0| 0,j,h=>by(have:j=0:=by lia);subst this;exact dw _| k+1,j,h=>by have ih:=Bq ns k;unfold argBest;split;rename_i c;have c':=Q0 c;by_cases e:j=k+1;subst e;exact dw _;have:=ih j (by lia);lia;rename_i c;by_cases e:j=k+1;subst e;have:¬ns.getD (k+1) 0<ns.getD (argBest (λi j=>decide (ns.getD i 0<ns.getD j 0)) k) 0:=λz=>c (QZ z);lia;exact ih j (by lia)
end
end NAL.EX
namespace NAP
structure UN where
 G:Nat
 nE:Nat
 ends:xad
 bI:xab
structure UN.WF (N:UN):Prop where
 gle:N.G<=N.nE
 len:N.bI.length=N.nE
 lo:∀(k:Nat) p,N.ends[k]?=se p->p.1<N.G/\N.G<=p.2/\p.2<N.nE
 mem:∀(e:Nat) l k,N.bI[e]?=se l->(k∈l↔∃p,N.ends[k]?=se p/\(p.1=e\/p.2=e))
noncomputable def Ym (p:Nat×Nat) (e:Nat):Bool:=decide (p.1=e\/p.2=e)
noncomputable def load:xad->xae->Nat->Int| p::r,s::q,e=>[Δ,Ym p e,s]+load r q e| _,_,_=>0
theorem Br:∀{ends:xad} {ac:xae} {k:Nat} {v s:Int} {p:Nat×Nat} {e:Nat},ends[k]?=se p->ac[k]?=se s->load ends (ac.set k v) e=load ends ac e+[Δ,Ym p e,v-s]| [],_,_,_,_,_,_,h,_=>by trivial| _::_,[],_,_,_,_,_,_,h=>by trivial| p::r,s::q,0,v,s',p',e,h1,h2=>by simp at h1 h2;subst h1 h2;simp only[uq,load];split<;>lia| p::r,s::q,k+1,v,s',p',e,h1,h2=>by have ih:=Br (ends:=r) (ac:=q) (k:=k) (v:=v) (s:=s') (p:=p') (e:=e) (by assumption) (by assumption);simp only[pL,load,ih];lia
noncomputable def Tc (a:Int) (ac:xae) (l:xaf):xae:=l.foldl (λs k=>s.set k (s.getD k 0+a)) ac
theorem T7 (a:Int):∀l ac,(Tc a ac l).length=ac.length:=by intro r;induction r with| nil =>rintro _;exact rfl| cons k r ih =>rintro ac;show(Tc a (ac.set k _) r).length=_;rw[ih,eV]
noncomputable def Uo (ends:xad) (e:Nat):xaf->Int| []=>0| k::r=>(match ends[k]? with | some p=>[Δ,Ym p e,1]| none=>0)+Uo ends e r
theorem w8 {ends:xad}{a:Int}{e:Nat}:∀{l:xaf} {ac:xae},ac.length=ends.length->(∀k∈l,k<ends.length)->load ends (Tc a ac l) e=load ends ac e+a*Uo ends e l| [],ac,_,_=>by simp[Tc,Uo]| k::r,ac,hl,hk=>by have hk0:k<ends.length:=hk k aO;have hs:ac[k]?=se (ac[k]' Β):=aT Β;have hp:ends[k]?=se ends[k]:=aT hk0;have ih:=w8 (ends:=ends) (a:=a) (e:=e) (l:=r) (ac:=ac.set k (ac.getD k 0+a)) (by simpa using hl) (λj hj=>hk j (a7 _ hj));show load ends (Tc a (ac.set k (ac.getD k 0+a)) r) e=_;rw[ih,Br hp hs,Uo,hp];(have hg:ac.getD k 0=ac[k]' Β:=by simp[gU,hs]);rw[hg];by_cases hc:Ym ends[k] e=tj;simp only[hc,if_true,qP,Int.mul_one];lia;simp only[hc,if_false,qP,Int.mul_zero];simp
theorem Bs {a:Int}:∀{l:xaf} {ac:xae} {k:Nat} {s:Int},ac[k]?=se s->(Tc a ac l)[k]?=se (s+a*(l.count k:Int)):=by intro r;induction r with| nil =>rintro ac k s h;simp[Tc,h]| cons j r ih =>rintro ac k s h;have hk:k<ac.length:=(aQ.mp h).1;show(Tc a (ac.set j (ac.getD j 0+a)) r)[k]?=_;by_cases e:j=k;subst e;(have h':(ac.set j (ac.getD j 0+a))[j]?=se (s+a):=by rw[fK hk];simp[gU,h]);rw[ih h',List.count_cons_self];push_cast;rw[qP];simp;lia;(have h':(ac.set j (ac.getD j 0+a))[k]?=se s:=by rw[bN e];exact h);rw[ih h',List.count_cons_of_ne (by assumption)]
noncomputable def U1 {α:Type}:Bool->List α->List α| _,[]=>[]| true,x::r=>x::U1 ff r| false,_::r=>U1 tj r
theorem XV {α:Type}{x:α}:∀{b:Bool} {l:List α},x∈U1 b l->x∈l| _,[],h=>by assumption| true,y::r,h=>(by rcases bj.mp h with rfl | h;exact aO;exact a7 _ (XV h))| false,y::r,h=>a7 _ (XV h)
theorem uO {α:Type}{x:α}:∀{b:Bool} {l:List α},x∈U1 b l->∃i,l[i]?=se x/\i%2=(if b then 0 else 1)| b,[],h=>by trivial| true,y::r,h=>(by rcases bj.mp h with rfl | h;exact#[0,rfl,rfl];obtain⟨i,h1,h2⟩:=uO h;exact#[i+1,by assumption,by lia])| false,y::r,h=>by obtain⟨i,h1,h2⟩:=uO (b:=tj) h;exact#[i+1,by assumption,by lia]
theorem Ic {l:xaf}(hn:l.Nodup)(b:Bool)(k:Nat):(U1 b l).count k<=1:=by(have hs:∀(b:Bool) (l:xaf),(U1 b l).Sublist l:=by intro b l;induction l generalizing b with| nil=>cases b<;>simp[U1]| cons x r ih =>cases b;exact List.Sublist.cons _ (ih tj);exact List.Sublist.cons_cons _ (ih ff));exact wv.mp (hn.sublist (hs b l)) k
def WW (N:UN)(a k b:Nat):Prop:=∃p,N.ends[k]?=se p/\((p.1=a/\p.2=b)\/(p.2=a/\p.1=b))
def w9 (N:UN):Nat->xaf->Nat->Prop| e,[],f=>e=f| e,k::r,f=>∃b,WW N e k b/\w9 N b r f
noncomputable def one (c:Prop) [Decidable c]:Int:=[Δ,c,1]
theorem Ie (W:N.WF)(h:WW N a k b):(match N.ends[k]? with | some p=>[Δ,Ym p x,1]| none=>0)=one (x=a)+one (x=b):=by obtain⟨p,e,h⟩:=h;have hw:=W.lo k p e;simp only[Ym,one,decide_eq_true_eq];lia
theorem chain_count {N:UN}(W:N.WF){f x:Nat}:∀{way:xaf} {e:Nat},w9 N e way f->Uo N.ends x (U1 tj way)-Uo N.ends x (U1 ff way)=one (x=e)+(if way.length%2=0 then-one (x=f)else one (x=f))| [],e,h=>by have h':e=f:=h;grind[U1,Uo]| k::r,e,h=>by obtain⟨b,t,c⟩:=h;have ih:=chain_count W (x:=x) c;have hi:=Ie W (x:=x) t;show((match N.ends[k]? with | some p=>[Δ,Ym p x,1]| none=>0)+Uo N.ends x (U1 ff r))-Uo N.ends x (U1 tj r)=_;grind
structure Flow (N:UN)(aZ ac ab:xae):Prop where
 ls:ac.length=N.ends.length
 lc:aZ.length=N.nE
 lp:ab.length=N.nE
 nn:∀(k:Nat) s,ac[k]?=se s->0<=s
 eq:∀(e:Nat) c s,aZ[e]?=se c->ab[e]?=se s->s=c-load N.ends ac e
 sp:∀(e:Nat) s,ab[e]?=se s->0<=s
def Go (N:UN)(ac:xae)(a k:Nat):Prop:=a<N.G\/∃s,ac[k]?=se s/\0<s
noncomputable def Lv (aa:xae) (e:Nat):Int:=aa.getD e (-1)
structure Vu (N:UN)(aa ac:xae)(es way:xaf):Prop where
 len:es.length=way.length+1
 link:∀(i:Nat) k,way[i]?=se k->∃a b,es[i]?=se a/\es[i+1]?=se b/\WW N a k b/\Go N ac a k/\Lv aa b=Lv aa a+1
theorem Bt {N:UN}:∀{way es:xaf} {g f:Nat},es.length=way.length+1->es[0]?=se g->es[way.length]?=se f->(∀(i:Nat) k,way[i]?=se k->∃a b,es[i]?=se a/\es[i+1]?=se b/\WW N a k b)->w9 N g way f| [],es,g,f,_,h0,h1,_=>by have lQ:es[0]?=se f:=h1;rw[h0] at lQ;exact dX lQ| k::r,[],g,f,hl,_,_,_=>by trivial| k::r,e::es,g,f,hl,h0,h1,h=>by obtain⟨a,b,ea,eb,t⟩:=h 0 k rfl;(have e1:=by simpa using h0);(have e2:=by simpa using ea);subst e1 e2;refine#[b,t,Bt (by exact kz hl) (by assumption) (by assumption) λi k' hk=>?_];obtain⟨a',b',ea',eb',t'⟩:=h (i+1) k' (by assumption);exact#[a',b',by assumption,by assumption,t']
theorem Vu.lev (P:Vu N aa ac es way)(h0:es[0]?=se g):∀{i e:Nat},es[i]?=se e->Lv aa e=Lv aa g+i| 0,e,h=>Β| i+1,e,h=>by have hi:=(aQ.mp h).1;(have hw:i<way.length:=by have:=P.len;simp_all);obtain⟨a,b,ea,eb,_,_,hl⟩:=P.link i way[i] (aT hw);have:=P.lev h0 ea;lia
theorem WW.side (W:N.WF)(t:WW N a k b):(a<N.G↔¬b<N.G):=by obtain⟨p,e,h⟩:=t;have:=W.lo k p e;lia
theorem Vu.side (W:N.WF)(P:Vu N aa ac es way)(h0:es[0]?=se g)(hg:g<N.G):∀{i e:Nat},es[i]?=se e->(e<N.G↔i%2=0)| 0,e,h=>Β| i+1,e,h=>by have hi:=(aQ.mp h).1;(have hw:i<way.length:=by have:=P.len;simp_all);obtain⟨a,b,ea,eb,t,_,_⟩:=P.link i way[i] (aT hw);have h1:=P.side W h0 hg ea;have h2:=t.side W;lia
theorem Vu.nodup {N:UN}{aa ac:xae}{es way:xaf}(P:Vu N aa ac es way):way.Nodup:=by cases h0:es[0]? with| none =>have:=P.len;rw[wj] at h0;simp_all| some g =>rw[List.Nodup,qS];intro i j hi hj hij e;obtain⟨a,b,ea,eb,⟨p,ep,hp⟩,_,l1⟩:=P.link i way[i] (aT hi);obtain⟨c,d,ec,ed,⟨q,eq,hq⟩,_,l2⟩:=P.link j way[j] (aT hj);rw[<-e,ep] at eq;cases eq;have v1:=P.lev h0 ea;have v2:=P.lev h0 ec;rcases hp with ⟨rfl,rfl⟩ | ⟨rfl,rfl⟩<;>rcases hq with ⟨rfl,rfl⟩ | ⟨rfl,rfl⟩<;>lia
theorem Vu.lt (P:Vu N aa ac es way)(h:k∈way):k<N.ends.length:=by obtain⟨i,hi⟩:=bz h;obtain⟨a,b,_,_,⟨p,ep,_⟩,_,_⟩:=P.link i k hi;grind
noncomputable def UD (a:Int) (ac:xae) (way:xaf):xae:=Tc (-a) (Tc a ac (U1 tj way)) (U1 ff way)
theorem xb (a:Int)(ac:xae)(way:xaf):(UD a ac way).length=ac.length:=by unfold UD;rw[T7,T7]
theorem Ig (W:N.WF)(P:Vu N aa ac es way)(h0:es[0]?=se g)(h1:es[way.length]?=se f)(hg:g<N.G)(hf:¬f<N.G)(hl:ac.length=N.ends.length)(x:Nat) :load N.ends (UD a ac way) x=load N.ends ac x+a*(one (x=g)+one (x=f)):=by have d:=chain_count W (x:=x) (Bt P.len h0 h1 λi k hk=>let #[a,b,e1,e2,t,_]:=P.link i k hk;#[a,b,e1,e2,t]);(have hodd:=by have:=P.side W h0 hg h1;lia);unfold UD;rw[w8 (by rwa [T7]) (λk hk=>P.lt (XV hk)),w8 hl (λk hk=>P.lt (XV hk))];grind
theorem Bu (h:ac[k]?=se s):(UD a ac way)[k]?=se (s+a*((U1 tj way).count k)-a*((U1 ff way).count k)):=by unfold UD;rw[Bs (Bs h),Int.neg_mul];rfl
theorem Flow.send (W:N.WF)(F:Flow N aZ ac ab)(P:Vu N aa ac es way)(h0:es[0]?=se g)(h1:es[way.length]?=se f)(hg:g<N.G)(hf:¬f<N.G) (hx:ab[g]?=se x) (hy:ab[f]?=se y) (ha:0<=a) (hax:a<=x) (hay:a<=y) (hb:∀k∈U1 ff way,∀s,ac[k]?=se s->a<=s):Flow N aZ (UD a ac way) ((ab.set g (x-a)).set f (y-a)):=by(have df:g≠f:=by lia);have lK:g<ab.length:=(aQ.mp hx).1;have hfl:f<ab.length:=(aQ.mp hy).1;refine#[by rw[xb];exact F.ls,F.lc,by simpa using F.lp,λk s' h=>?_,λe c s' hc h=>?_,λe s' h=>?_];(have hk:k<ac.length:=by grind[xb]);have hs:ac[k]?=se ac[k]:=aT hk;rw[Bu hs] at h;cases h;have n0:=F.nn k _ hs;have c1:0<=a*((U1 tj way).count k):=jr ha (zQ _);by_cases hm:k∈U1 ff way;have hq:=hb k hm _ hs;have h2:=Ic P.nodup ff k;grind;grind;rw[Ig W P h0 h1 hg hf F.ls];by_cases e1:e=f;subst e1;rw[fK Β] at h;cases h;have:=F.eq e c y hc hy;simp[one,Ne.symm df];lia;rw[bN (Ne.symm e1)] at h;by_cases e2:e=g;subst e2;rw[fK lK] at h;cases h;have:=F.eq e c x hc hx;grind[one];rw[bN (Ne.symm e2)] at h;have:=F.eq e c s' hc h;grind[one];by_cases e1:e=f;grind;rw[bN (Ne.symm e1)] at h;by_cases e2:e=g;grind;rw[bN (Ne.symm e2)] at h;exact F.sp e s' h
structure YI (N:UN)(ac ab aa:xae):Prop where
 len:aa.length=N.nE
 zero:∀e,Lv aa e=0->e<N.G/\∃x,ab[e]?=se x/\0<x
 aI:∀(g:Nat) x,g<N.G->ab[g]?=se x->0<x->Lv aa g=0
 pred:∀e,1<=Lv aa e->∃a k,WW N a k e/\Go N ac a k/\Lv aa a+1=Lv aa e
def Sq (N:UN)(ab:xae)(e:Nat):Prop:=N.G<=e/\∃x,ab[e]?=se x/\0<x
def Ih (N:UN)(ac aa:xae):Prop:=∀a k b,WW N a k b->Go N ac a k->0<=Lv aa a->0<=Lv aa b
def WY (N:UN)(ac aa:xae)(a k b:Nat):Prop:=WW N a k b/\Go N ac a k/\Lv aa b=Lv aa a+1
def XX (N:UN)(ab ah:xae)(e:Nat):Prop:=¬Sq N ab e/\∃l,N.bI[e]?=se l/\ah[e]?=se (l.length:Int)
def Ww (N:UN)(ac ab aa ah:xae):Prop:=∀(e:Nat) l (j:Nat) k t,N.bI[e]?=se l->l[j]?=se k->ah[e]?=se t->(j:Int)<t->∀b,WY N ac aa e k b->XX N ab ah b
theorem WW.mem (W:N.WF)(t:WW N a k b)(h:N.bI[a]?=se l):k∈l:=by obtain⟨p,e,q⟩:=t;refine(W.mem a l k h).mpr #[p,e,?_];lia
theorem Ww.next (W:N.WF)(D:Ww N ac ab aa ah)(x:XX N ab ah a)(h:WY N ac aa a k b):XX N ab ah b:=by obtain⟨_,l,h1,h2⟩:=x;obtain⟨j,hj⟩:=bz (h.1.mem W h1);have ki:=(aQ.mp hj).1;exact D a l j k _ h1 hj h2 Β b h
theorem Ww.all (W:N.WF)(S:YI N ac ab aa)(D:Ww N ac ab aa ah)(h:∀g,Lv aa g=0->XX N ab ah g):∀(d:Nat) e,Lv aa e=d->XX N ab ah e:=by intro d;induction d with| zero =>rintro e he;exact h e (by assumption)| succ d ih =>rintro e he;obtain⟨a,k,t,g,l⟩:=S.pred e (NAG.gl62 he);exact D.next W (ih a (by simp_all)) #[t,g,by exact l.symm]
theorem YI.least (S:YI N ac ab aa)(T:Nat->Prop)(h1:∀g x,g<N.G->ab[g]?=se x->0<x->T g)(h2:∀a k b,WW N a k b->Go N ac a k->T a->T b):∀(d:Nat) e,Lv aa e=d->T e:=by intro d;induction d with| zero =>rintro e he;obtain⟨hg,x,hx,h0⟩:=S.zero e (by assumption);simp_all| succ d ih =>rintro e he;obtain⟨a,k,t,g,l⟩:=S.pred e (NAG.gl62 he);exact h2 a k e t g (ih a (by simp_all))
theorem WW.symm (t:WW N a k b):WW N b k a:=by obtain⟨p,e,h⟩:=t;exact#[p,e,h.symm.imp (λz=>#[z.2,z.1]) (λz=>#[z.2,z.1])]
structure Rows (N:UN)(ac ab:xae)(d:Nat)(row:xaf)(aa:xae):Prop where
 st:YI N ac ab aa
 row:∀e,e∈row↔Lv aa e=d
 top:∀e,Lv aa e<=d
 exp:∀a k b,WW N a k b->Go N ac a k->0<=Lv aa a->Lv aa a<d->0<=Lv aa b
 dry:∀e,0<=Lv aa e->Lv aa e<d->¬Sq N ab e
structure aY (N:UN)(ac:xae)(d:Nat)(row:xaf)(ar:xae)(done:Nat->Nat->Prop)(aa:xae)(aq:xaf):Prop where
 len:aa.length=ar.length
 old:∀e,0<=Lv ar e->Lv aa e=Lv ar e
 new:∀e,Lv ar e<0->(Lv aa e=d+1/\e∈aq/\∃a k,a∈row/\WW N a k e/\Go N ac a k)\/(Lv aa e<0/\e∉aq)
 beh:∀e∈aq,Lv ar e<0
 cl:∀a k b,done a k->WW N a k b->Go N ac a k->0<=Lv aa b
theorem Zd (h:i<aa.length):Lv (aa.set i v) e=if e=i then v else Lv aa e:=by unfold Lv;grind
theorem aY.start:aY N ac d row ar (λ_ _=>False) ar [] :=#[rfl,λ_ _=>rfl,λe h=>.inr #[h,by simp],λe h=>Β,λ_ _ _ h=>h.elim]
theorem aY.weak (B:aY N ac d row ar P aa aq)(h:∀a k,Q a k->P a k):aY N ac d row ar Q aa aq :=#[B.len,B.old,B.new,B.beh,λa k b q=>B.cl a k b (h a k q)]
theorem aY.skip (W:N.WF)(B:aY N ac d row ar P aa aq)(t:WW N a k b)(h:0<=Lv aa b\/¬Go N ac a k) :aY N ac d row ar (λx y=>P x y\/(x=a/\y=k)) aa aq:=by refine#[B.len,B.old,B.new,B.beh,λx y z q t' g=>?_];rcases q with q | ⟨rfl,rfl⟩;exact B.cl x y z q t' g;(have e:z=b:=by obtain⟨p,e1,h1⟩:=t;obtain⟨p',e2,h2⟩:=t';lia);simp_all
theorem aY.mark (W:N.WF)(B:aY N ac d row ar P aa aq)(t:WW N a k b)(g:Go N ac a k)(ha:a∈row)(hb:Lv aa b<0)(hl:b<aa.length) :aY N ac d row ar (λx y=>P x y\/(x=a/\y=k)) (aa.set b (d+1)) (aq++[b]):=by(have hb0:Lv ar b<0:=by rcases gR (Lv ar b) 0 with z | z;exact z;have:=B.old b z;simp_all);refine#[by simpa using B.len,λe he=>?_,λe he=>?_,λe he=>?_,λx y z q t' g'=>?_];rw[Zd hl,QX (by lia)];exact B.old e he;(.rw[Zd hl];by_cases e1:e=b;grind;.rcases B.new e he with ⟨h1,h2,h3⟩ | ⟨h1,h2⟩;all_goals grind);rcases c8.mp he with he | he;exact B.beh e he;simp_all;rw[Zd hl];split;exact NAG.gl60;rcases q with q | ⟨rfl,rfl⟩;exact B.cl x y z q t' g';exfalso;obtain⟨p,e1,h1⟩:=t;obtain⟨p',e2,h2⟩:=t';lia
theorem Rows.next {row:xaf}(R:Rows N ac ab d row ar)(B:aY N ac d row ar (λa _=>a∈row) aa aq)(hd:∀e∈row,¬Sq N ab e):Rows N ac ab (d+1) aq aa:=by(have up:∀e,0<=Lv aa e->0<=Lv ar e\/(Lv aa e=d+1/\e∈aq/\∃a k,a∈row/\WW N a k e/\Go N ac a k):=λe he=>by rcases gR (Lv ar e) 0 with z | z;rcases B.new e z with h | ⟨h,_⟩;exact .inr h;lia;simp_all);refine#[#[by rw[B.len];exact R.st.len,λe he=>?_,λg x hg hx h0=>?_,λe he=>?_],λe=>#[λhe=>?_,λhe=>?_],λe=>?_,λa k b t g h0 h1=>?_,λe h0 h1=>?_];rcases up e Β with z | ⟨z,_⟩;exact R.st.zero e (by rwa [<-B.old e z]);lia;have:=R.st.aI g x hg hx h0;rwa [B.old g Β];rcases up e (by exact cy he)with z | ⟨z,_,a,k,ha,t,g⟩;obtain⟨a,k,t,g,l⟩:=R.st.pred e (by rwa [<-B.old e z]);have h1:=B.old e z;have h2:=B.old a (by lia);grind;have h1:=(R.row a).mp ha;have h2:=B.old a Β;grind;(.rcases B.new e (B.beh e he)with ⟨h,_⟩ | ⟨_,h⟩;all_goals lia);push_cast at he;rcases up e (NAG.gl99 he)with z | ⟨_,z,_⟩;have:=B.old e z;have:=R.top e;lia;exact z;rcases gR (Lv aa e) 0 with z | z;lia;rcases up e z with z' | ⟨z',_⟩;have:=B.old e z';have:=R.top e;lia;simp_all;rcases up a h0 with z | ⟨z,_⟩;have h2:=B.old a z;rcases gR (Lv aa a) d with h3 | h3;have:=R.exp a k b t g z Β;have:=B.old b this;simp_all;exact B.cl a k b ((R.row a).mpr (NAG.gl98 h3 h1 h2)) t g;simp_all;rcases up e h0 with z | ⟨z,_⟩;have h2:=B.old e z;rcases gR (Lv aa e) d with h3 | h3;exact R.dry e z Β;exact hd e ((R.row e).mpr (NAG.gl98 h3 h1 h2));simp_all
noncomputable def unr (aa:xae):Nat:=aa.countP λs=>decide (s<0)
structure Tr (N:UN)(ah:xae):Prop where
 len:ah.length=N.nE
 ok:∀(e:Nat) l t,N.bI[e]?=se l->ah[e]?=se t->0<=t/\t<=l.length
theorem Vh {l:xae}(h:b≠e):(l.set e v)[b]?=l[b]?:=bN (Ne.symm h)
theorem XX.keep (x:XX N ab ah b)(h1:N.bI[e]?=se l)(h2:ah[e]?=se t)(h3:t<l.length):XX N ab (ah.set e v) b:=by obtain⟨n,l',h4,h5⟩:=x;refine#[n,l',h4,?_];grind
theorem Ww.step (D:Ww N ac ab aa ah){t k:Nat}(h1:N.bI[e]?=se l)(h2:ah[e]?=se (t:Int))(h3:l[t]?=se k) (h:∀b,WY N ac aa e k b->XX N ab ah b):Ww N ac ab aa (ah.set e (t+1)):=by have hl:=(aQ.mp h3).1;intro e' l' j k' t' g1 g2 g3 g4 b L;have kp:XX N ab ah b->XX N ab (ah.set e (t+1)) b:=λx=>x.keep h1 h2 Β;by_cases q:e'=e;subst q;rw[h1] at g1;cases g1;rw[fK (aQ.mp h2).1] at g3;cases g3;by_cases q:j=t;simp_all;exact kp (D e' l j k' t h1 g2 h2 (by lia) b L);rw[Vh q] at g3;exact kp (D e' l' j k' t' g1 g2 g3 g4 b L)
theorem Tr.step (T:Tr N ah){t:Nat}(h1:N.bI[e]?=se l)(h2:ah[e]?=se (t:Int))(h3:t<l.length):Tr N (ah.set e (t+1)):=by refine#[by simpa using T.len,λe' l' t' g1 g2=>?_];by_cases q:e'=e;grind;rw[Vh q] at g2;exact T.ok e' l' t' g1 g2
noncomputable def Z5:xab->xae->Nat| l::r,t::q=>(l.length-t.toNat)+Z5 r q| _,_=>0
theorem Yz:∀{bI:xab} {ah:xae} {e:Nat} {l:xaf} {t:Nat},bI[e]?=se l->ah[e]?=se (t:Int)->t<l.length->Z5 bI (ah.set e ((t:Int)+1))+1=Z5 bI ah| [],_,_,_,_,h,_,_=>by trivial| _::_,[],_,_,_,_,h,_=>by trivial| l::r,x::q,0,l',t,h1,h2,h3=>by simp at h1 h2;subst h1 h2;simp only[uq,Z5];lia| l::r,x::q,e+1,l',t,h1,h2,h3=>by have ih:=Yz (bI:=r) (ah:=q) (e:=e) (l:=l') (t:=t) (by assumption) (by assumption) h3;simp only[pL,Z5];lia
theorem lv_top:∀aa,∃B:Nat,∀e,Lv aa e<=B:=by intro r;induction r with| nil =>exact#[0,λe=>by simp[Lv]]| cons x r ih =>obtain⟨B,h⟩:=ih;refine#[B+x.toNat,λe=>?_];cases e with| zero=>simp[Lv];lia| succ e =>have:=h e;grind[Lv]
structure Walk (N:UN)(ac ab aa:xae)(g:Nat)(ah:xae)(es way:xaf):Prop where
 tr:Tr N ah
 dead:Ww N ac ab aa ah
 path:es≠[]->Vu N aa ac es way/\es[0]?=se g
 none:es=[]->way=[]/\XX N ab ah g
 on:∀(i:Nat) k e,way[i]?=se k->es[i]?=se e->¬Sq N ab e/\∃l t,N.bI[e]?=se l/\ah[e]?=se ((t:Nat):Int)/\l[t]?=se k
theorem WW.uniq (W:N.WF)(t:WW N a k b)(t':WW N a k c):b=c:=by obtain⟨p,e1,h1⟩:=t;obtain⟨p',e2,h2⟩:=t';lia
theorem Vu.inj (P:Vu N aa ac es way)(h0:es[0]?=se g){i j e:Nat}(h1:es[i]?=se e)(h2:es[j]?=se e):i=j:=by have a:=P.lev h0 h1;have b:=P.lev h0 h2;lia
theorem Walk.skip (w:Walk N ac ab aa g ah es way){t k:Nat}(he:es.getLast?=se e)(h1:N.bI[e]?=se l)(h2:ah[e]?=se (t:Int))(h3:l[t]?=se k) (h:∀b,¬WY N ac aa e k b):Walk N ac ab aa g (ah.set e (t+1)) es way:=by(have df:es≠[]:=by grind);obtain⟨P,h0⟩:=w.path df;refine#[w.tr.step h1 h2 (aQ.mp h3).1,w.dead.step h1 h2 h3 λb L=>absurd L (h b),w.path,λq=>absurd q df,λi k' e' hk hi=>?_];obtain⟨n,l',t',g1,g2,g3⟩:=w.on i k' e' hk hi;refine#[n,l',t',g1,?_,g3];have hw:=(aQ.mp hk).1;(have dC:=by rw[pI] at he;have:=P.len;rw[show es.length-1=way.length by simp_all] at he;exact he);rwa [Vh (by rintro rfl;have:=P.inj h0 hi dC;simp_all)]
theorem Walk.push (w:Walk N ac ab aa g ah es way){t k:Nat}(he:es.getLast?=se e)(h1:N.bI[e]?=se l)(h2:ah[e]?=se (t:Int))(h3:l[t]?=se k) (h:WY N ac aa e k b) (hr:¬Sq N ab e):Walk N ac ab aa g ah (es++[b]) (way++[k]):=by(have df:es≠[]:=by rintro rfl;trivial);obtain⟨P,h0⟩:=w.path df;(have dC:=by rw[pI] at he;have:=P.len;rw[show es.length-1=way.length by simp_all] at he;exact he);refine#[w.tr,w.dead,λ_=>#[#[by simp[P.len],λi k' hk=>?_],?_],λq=>absurd q (by simp),λi k' e' hk hi=>?_];rcases pV i way.length with q | q | q;rw[iA q] at hk;obtain⟨a,c,ea,ec,r⟩:=P.link i k' hk;have:=P.len;exact#[a,c,by rwa [iA (NAG.gl107 q this)],by rwa [iA Β],r];subst q;rw[fW (bE _)] at hk;simp at hk;subst hk;have:=P.len;refine#[e,b,by rwa [iA Β],?_,h.1,h.2.1,h.2.2];rw[fW Β,show way.length+1-es.length=0 by simp_all];rfl;rw[fW (by exact eI q)] at hk;rw[fh (by simp;exact NAG.gl112 q)] at hk;cases hk;rwa [iA (fj.mpr df)];rcases pV i way.length with q | q | q;rw[iA q] at hk;have:=P.len;rw[iA (NAG.gl107 q this)] at hi;exact w.on i k' e' hk hi;subst q;rw[fW (bE _)] at hk;simp at hk;subst hk;have:=P.len;rw[iA Β,dC] at hi;cases hi;exact#[hr,l,t,h1,h2,h3];rw[fW (by exact eI q)] at hk;rw[fh (by simp;exact NAG.gl112 q)] at hk;cases hk
theorem Walk.pop (W:N.WF)(w:Walk N ac ab aa g ah es way)(qI:es.getLast?=se e)(he:es.dropLast.getLast?=se f)(h1:N.bI[e]?=se l)(h2:ah[e]?=se (l.length:Int)) (hr:¬Sq N ab e):∃(t:Nat) (l':xaf),N.bI[f]?=se l'/\ah[f]?=se (t:Int)/\t<l'.length/\Walk N ac ab aa g (ah.set f (t+1)) es.dropLast way.dropLast:=by(have df:es≠[]:=by rintro rfl;trivial);obtain⟨P,h0⟩:=w.path df;have pl:=P.len;(have dC:=by rw[pI] at qI;rw[show es.length-1=way.length by simp_all] at qI;exact qI);(have hd:es.dropLast.length=way.length:=by simp;simp_all);(have tE:0<way.length:=by rcases pU way.length with z | z;rw[z] at hd;rw[nZ.mp hd] at he;trivial;exact z);(have hf:=by rw[pI,hd] at he;rw[n5,QY Β] at he;exact he);obtain⟨k,hk⟩:∃k,way[way.length-1]?=se k:=#[_,aT (NAG.gl113 tE)];obtain⟨a,b,ea,eb,t,gg,lv⟩:=P.link _ k hk;rw[hf] at ea;cases ea;rw[show way.length-1+1=way.length by lia,dC] at eb;cases eb;obtain⟨n,l',t',g1,g2,g3⟩:=w.on _ k f hk hf;have hK:=(aQ.mp g3).1;refine#[t',l',g1,g2,hK,w.tr.step g1 g2 hK,w.dead.step g1 g2 g3 λb L=>?_,λ_=>#[#[by simp;lia,λi k' cP=>?_],?_],λq=>?_,λi k' e' cP hi=>?_];have:=t.uniq W L.1;subst this;exact#[hr,l,h1,h2];rw[n5] at cP;split at cP;rename_i hi;obtain⟨a,c,ea,ec,r⟩:=P.link i k' cP;exact#[a,c,by rwa [n5,QY (by lia)],by rwa [n5,QY (by lia)],r];cases cP;rwa [n5,QY Β];have:=congrArg pS q;simp at this;simp_all;rw[n5] at cP hi;split at cP;rename_i iw;rw[QY Β] at hi;obtain⟨n',l2,t2,q1,q2,q3⟩:=w.on i k' e' cP hi;refine#[n',l2,t2,q1,?_,q3];rwa [Vh (by rintro rfl;have:=P.inj h0 hi hf;simp_all)];cases cP
theorem Walk.fin (w:Walk N ac ab aa g ah es way)(qI:es.getLast?=se e)(he:es.dropLast=[])(h1:N.bI[e]?=se l)(h2:ah[e]?=se (l.length:Int)) (hr:¬Sq N ab e):way=[]/\Walk N ac ab aa g ah [] []:=by(have df:es≠[]:=by grind);obtain⟨P,h0⟩:=w.path df;have pl:=P.len;(have hl:es.length=1:=by have:=congrArg pS he;grind);have hw:way=[]:=nZ.mp Β;(have hg:e=g:=by grind);subst hg;exact#[hw,w.tr,w.dead,λq=>absurd rfl q,λ_=>#[rfl,hr,l,h1,h2],λi k e' hk=>by trivial]
theorem Walk.short (w:Walk N ac ab aa g ah es way)(hg:Lv aa g=0){B:Nat}(hB:∀e,Lv aa e<=B):es.length<=B+1:=by by_cases df:es=[];simp_all;obtain⟨P,h0⟩:=w.path df;have tw:=fj.mpr df;have h:=P.lev h0 (i:=es.length-1) (aT (NAG.gl113 tw));grind
noncomputable def wm (B:Nat) (bI:xab) (ah:xae) (es:xaf):Nat:=if es=[]then 0 else Z5 bI ah*(B+3)+(B+2-es.length)+1
theorem Ii {α:Type}{x:α}{way:List α}(h:x∈U1 ff way):∃i,way[i]?=se x/\i%2=1:=by obtain⟨i,h1,h2⟩:=uO h;exact#[i,h1,by assumption]
theorem Ij {α:Type}{x:α}{way:List α}(h:x∈U1 tj way):∃i,way[i]?=se x/\i%2=0:=by obtain⟨i,h1,h2⟩:=uO h;exact#[i,h1,by assumption]
theorem Vu.back (W:N.WF)(P:Vu N aa ac es way)(h0:es[0]?=se g)(hg:g<N.G)(h:k∈U1 ff way):∃s,ac[k]?=se s/\0<s:=by obtain⟨i,hk,hi⟩:=Ii h;obtain⟨a,b,ea,eb,t,go,_⟩:=P.link i k hk;have:=P.side W h0 hg ea;rcases go with go | go;simp_all;exact go
theorem WY.before (W:N.WF)(P:Vu N aa ac es way)(h0:es[0]?=se g)(hg:g<N.G)(hx:0<=x)(hl:ac.length=N.ends.length)(L:WY N (UD x ac way) aa a k b):WY N ac aa a k b:=by obtain⟨t,go,lv⟩:=L;refine#[t,?_,lv];rcases go with go | ⟨s',h1,h2⟩;exact .inl go;by_cases ha:a<N.G;exact .inl ha;(have hk:=by have:=(aQ.mp h1).1;rwa [xb] at this);have hs:=aT hk;refine .inr #[_,hs,?_];rw[Bu hs] at h1;have c2:0<=x*((U1 ff way).count k):=jr hx (zQ _);by_cases hm:k∈U1 tj way;exfalso;obtain⟨i,cP,hi⟩:=Ij hm;obtain⟨c,d,ec,ed,t',_,lv'⟩:=P.link i k cP;have hc:=(P.side W h0 hg ec).mpr hi;obtain⟨p,e1,q1⟩:=t;obtain⟨p',e2,q2⟩:=t';lia;grind
theorem Sq.le (h:∀(e:Nat) x y,ab[e]?=se x->ao[e]?=se y->y<=x)(hl:ab.length=ao.length)(r:Sq N ao e):Sq N ab e:=by obtain⟨h1,y,h2,h3⟩:=r;(have he:e<ab.length:=by grind);have hx:ab[e]?=se ab[e]:=aT he;have:=h e _ _ hx h2;exact#[h1,_,hx,by exact pG h3 this]
theorem Ww.send (W:N.WF)(P:Vu N aa ac es way)(h0:es[0]?=se g)(hg:g<N.G)(hx:0<=x)(hl:ac.length=N.ends.length) (h:∀(e:Nat) x y,ab[e]?=se x->ao[e]?=se y->y<=x) (lU:ab.length=ao.length) (D:Ww N ac ab aa ah):Ww N (UD x ac way) ao aa ah:=by intro e l j k t h1 h2 h3 h4 b L;obtain⟨n,r⟩:=D e l j k t h1 h2 h3 h4 b (L.before W P h0 hg hx hl);exact#[λq=>n (q.le h lU),r]
theorem sum_set:∀{l:xae} {i:Nat} {x v:Int},l[i]?=se x->(l.set i v).sum=l.sum+v-x| [],_,_,_,h=>by trivial| y::r,0,x,v,h=>by simp at h;subst h;simp only[uq,bL];lia| y::r,i+1,x,v,h=>by have ih:=sum_set (l:=r) (i:=i) (x:=x) (v:=v) (by assumption);simp only[pL,bL,ih];lia
theorem Ys:∀{l:xae},(∀(i:Nat) x,l[i]?=se x->0<=x)->0<=l.sum| [],_=>by simp| y::r,h=>by have h0:=h 0 y rfl;have ih:=Ys (l:=r) λi x hx=>h (i+1) x (by assumption);simp only[bL];lia
structure Sent (N:UN)(aZ:xae)(ac ab:xae)(way:xaf)(g f:Nat)(a:Int)(ao:xae):Prop where
 flow:Flow N aZ (UD a ac way) ao
 le:∀(e:Nat) x y,ab[e]?=se x->ao[e]?=se y->y<=x
 sum:ao.sum=ab.sum-2*a
theorem Flow.ac (W:N.WF){aZ aa ac ab:xae}(F:Flow N aZ ac ab)(P:Vu N aa ac es way)(h0:es[0]?=se g)(h1:es[way.length]?=se f)(hg:g<N.G)(hf:¬f<N.G) (hx:ab[g]?=se x) (hy:ab[f]?=se y) (ha:0<=a) (hax:a<=x) (hay:a<=y) (hb:∀k∈U1 ff way,∀s,ac[k]?=se s->a<=s):Sent N aZ ac ab way g f a ((ab.set g (x-a)).set f (y-a)):=by refine#[F.send W P h0 h1 hg hf hx hy ha hax hay hb,λe u v hu hv=>?_,?_];by_cases e1:e=f;subst e1;rw[fK (by simpa using (aQ.mp hy).1)] at hv;cases hv;rw[hy] at hu;cases hu;exact NAG.gl94 ha;rw[Vh e1] at hv;by_cases e2:e=g;subst e2;rw[fK (aQ.mp hx).1] at hv;cases hv;rw[hx] at hu;cases hu;exact NAG.gl94 ha;rw[Vh e2,hu] at hv;cases hv;simp_all;rw[sum_set (by rwa [Vh (by lia)]),sum_set hx];lia
structure Wt (N:UN)(aZ aa aA ak:xae)(done:xaf)(ac ab ah:xae):Prop where
 flow:Flow N aZ ac ab
 tr:Tr N ah
 dead:Ww N ac ab aa ah
 le:∀(e:Nat) x y,ak[e]?=se x->ab[e]?=se y->y<=x
 prog:(ac=aA/\ab=ak/\∀g∈done,XX N ab ah g)\/ab.sum<ak.sum
theorem Wt.walked (p:Wt N aZ aa aA ak done ac ab ah)(T:Tr N aj)(D:Ww N ac ab aa aj)(h:∀b,XX N ab ah b->XX N ab aj b) :Wt N aZ aa aA ak done ac ab aj :=#[p.flow,T,D,p.le,p.prog.imp (λ#[a,b,c]=>#[a,b,λg hg=>h g (c g hg)]) id]
theorem Wt.ac (W:N.WF){aZ aa aA ak ac ab ah ao:xae}(p:Wt N aZ aa aA ak done ac ab ah)(P:Vu N aa ac es way)(h0:es[0]?=se g)(hg:g<N.G)(ha:0<a) (S:Sent N aZ ac ab way g f a ao):Wt N aZ aa aA ak done (UD a ac way) ao ah:=by(have hl:ab.length=ao.length:=by rw[p.flow.lp,S.flow.lp]);refine#[S.flow,p.tr,p.dead.send W P h0 hg (cy ha) p.flow.ls S.le hl,λe x y hx hy=>?_,.inr ?_];(have he:e<ab.length:=by grind);have hz:ab[e]?=se ab[e]:=aT he;have h1:=p.le e _ _ hx hz;have h2:=S.le e _ _ hz hy;exact NAG.gl66 h2 h1;have:=S.sum;rcases p.prog with ⟨_,rfl,_⟩ | q;lia;lia
theorem Wt.one {aZ aa aA ak ac ab ah:xae}(p:Wt N aZ aa aA ak done ac ab ah)(h:XX N ab ah g\/ab.sum<ak.sum):Wt N aZ aa aA ak (done++[g]) ac ab ah:=by refine#[p.flow,p.tr,p.dead,p.le,?_];rcases p.prog with ⟨a,b,c⟩ | q;all_goals grind
theorem Wt.less (W:N.WF){aZ aa aA ak ac ab ah:xae}(p:Wt N aZ aa aA ak done ac ab ah)(S:YI N aA ak aa)(hd:∀g,Lv aa g=0->g∈done)(he:0<=Lv aa e)(hr:Sq N ak e):ab.sum<ak.sum:=by rcases p.prog with ⟨rfl,rfl,c⟩ | q;exact absurd hr (Ww.all W S p.dead (λg hg=>c g (hd g hg)) (Lv aa e).toNat e (NAG.gl29 he)).1;exact q
structure Uw (N:UN)(aZ ac ab aa:xae):Prop where
 flow:Flow N aZ ac ab
 st:YI N ac ab aa
 cl:Ih N ac aa
 dry:∀e,0<=Lv aa e->¬Sq N ab e
theorem Rows.done {row:xaf}(R:Rows N ac ab d row aa)(F:Flow N aZ ac ab)(h:row=[]\/∃e∈row,Sq N ab e)(hd:∀e,0<=Lv aa e->¬Sq N ab e):Uw N aZ ac ab aa:=by(have hr:row=[]:=by rcases h with h | ⟨e,he,hr⟩;exact h;exact absurd hr (hd e (by rw[(R.row e).mp he];simp_all)));subst hr;refine#[F,R.st,λa k b t g h0=>?_,hd];have h1:=R.top a;(have h2:Lv aa a≠d:=λq=>by have:=(R.row a).mpr q;simp_all);exact R.exp a k b t g h0 (by lia)
noncomputable def nr (aa:xae) (e:Nat):Bool:=decide (0<=Lv aa e)
noncomputable def upTo (f:Nat->Int):Nat->Int| 0=>0| n+1=>upTo f n+f n
theorem Vf (f g:Nat->Int):∀n,upTo (λe=>f e+g e) n=upTo f n+upTo g n:=by intro n;induction n with| zero =>exact rfl| succ n ih =>simp only[upTo,ih];lia
theorem Sf:∀n,upTo (λ_=>0) n=0:=by intro n;induction n with| zero =>exact rfl| succ n ih =>simp[upTo,ih]
theorem Ve (a:Nat)(v:Int):∀n,upTo (λe=>[Δ,e=a,v]) n=[Δ,a<n,v]:=by intro n;induction n with| zero =>exact rfl| succ n ih =>simp only[upTo,ih];lia
theorem Rb:∀{n},(∀e<n,f e=g e)->upTo f n=upTo g n:=by intro n;induction n with| zero =>rintro _;exact rfl| succ n ih =>rintro h;simp only[upTo];rw[ih λe he=>h e (by exact ig he),h n (by simp_all)]
theorem VU {S:Nat->Bool}{n:Nat}:∀{ends:xad} {ac:xae},(∀p∈ends,p.1≠p.2/\p.1<n/\p.2<n)->ac.length=ends.length->upTo (λe=>[Δ,S e,load ends ac e]) n=((ends.zip ac).map λq=>[Δ,S q.1.1,q.2]+[Δ,S q.1.2,q.2]).sum| [],[],_,_=>by simp[load,Sf]| [],_::_,_,h=>by trivial| _::_,[],_,h=>by trivial| p::r,s::q,h,hl=>by have ih:=VU (S:=S) (n:=n) (ends:=r) (ac:=q) (λx hx=>h x (a7 _ hx)) (by exact kz hl);obtain⟨h1,h2,h3⟩:=h p aO;(have e:(λe=>[Δ,S e,load (p::r) (s::q) e])=λe=>([Δ,e=p.1,[Δ,S p.1,s]]+[Δ,e=p.2,[Δ,S p.2,s]])+[Δ,S e,load r q e]:=by funext e;simp only[load,Ym];by_cases a:e=p.1;subst a;by_cases c:S p.1=tj<;>simp[c,h1];by_cases b:e=p.2;subst b;by_cases c:S p.2=tj<;>simp[c,a];have a':¬p.1=e:=λz=>a z.symm;have b':¬p.2=e:=λz=>b z.symm;simp_all);rw[e,Vf,Vf,ih,Ve,Ve,QY h2,QY h3];rfl
theorem jv {f g:α->Int}:∀{l:List α},(∀x∈l,f x=g x)->(l.map f).sum=(l.map g).sum:=by intro r;induction r with| nil =>rintro _;exact rfl| cons x r ih =>rintro h;simp only[be,bL];rw[h x aO,ih λy hy=>h y (a7 _ hy)]
theorem XE:∀{α:Type} {xs:List α} {ys:xae},ys.length=xs.length->((xs.zip ys).map λq=>q.2).sum=ys.sum| _,[],[],_=>rfl| _,[],_::_,h=>by simp at h| _,_::_,[],h=>by simp at h| _,x::r,y::q,h=>by have ih:=XE (by simpa using h);simp_all
theorem Uw.bound (W:N.WF)(D:Uw N aZ ac ab aa) :ac.sum=upTo (λe=>[Δ,if e<N.G then ! nr aa e else nr aa e,aZ.getD e 0]) N.nE:=by(have hw:∀p∈N.ends,p.1≠p.2/\p.1<N.nE/\p.2<N.nE:=λp hp=>by obtain⟨k,hk⟩:=bz hp;have:=W.lo k p hk;exact NAG.gl104 this);(have h1:upTo (λe=>[Δ,if e<N.G then ! nr aa e else nr aa e,aZ.getD e 0]) N.nE=upTo (λe=>[Δ,if e<N.G then ! nr aa e else nr aa e,load N.ends ac e]) N.nE:=by refine Rb λe he=>?_;by_cases c:(if e<N.G then ! nr aa e else nr aa e)=tj;rw[QY c,QY c];have hc:aZ[e]?=se (aZ[e]'(by rwa [D.flow.lc])):=aT _;have hs:ab[e]?=se (ab[e]'(by rwa [D.flow.lp])):=aT _;have q:=D.flow.eq e _ _ hc hs;have n0:=D.flow.sp e _ hs;(have hz:(ab[e]'(by grind))=0:=by by_cases hg:e<N.G;rw[QY hg] at c;(have c':=by simpa [nr] using c);rcases gR 0 (ab[e]'(by grind))with z | z;have:=D.st.aI e _ hg hs z;simp_all;exact NAG.gl61 n0 z;rw[QX hg] at c;rcases gR 0 (ab[e]'(by grind))with z | z;exact absurd #[Β,_,hs,z] (D.dry e (by simpa [nr] using c));exact NAG.gl61 n0 z);grind;simp[*]);rw[h1,VU hw D.flow.ls,<-XE D.flow.ls];refine jv λq hq=>?_;obtain⟨k,hk⟩:=bz hq;obtain⟨p,s⟩:=q;obtain⟨hp,hs⟩:=bP.mp hk;have tI:=W.lo k p hp;have n0:=D.flow.nn k s hs;have t:WW N p.1 k p.2:=#[p,hp,.inl #[rfl,rfl]];have c1:=D.cl p.1 k p.2 t (.inl tI.1);have c2:=λh z=>D.cl p.2 k p.1 t.symm (.inr #[s,hs,z]) h;simp only[tI.1,by lia,if_true,if_false,nr];lia
theorem ox {f g:α->Int}:∀{l:List α},(∀x∈l,f x<=g x)->(l.map f).sum<=(l.map g).sum:=by intro r;induction r with| nil =>rintro _;simp| cons x r ih =>rintro h;have:=ih λy hy=>h y (a7 _ hy);grind
theorem Ik {f g:α->Int}:∀{l:List α},(∀x∈l,f x<=g x)->(l.map g).sum<=(l.map f).sum->∀x∈l,f x=g x:=by intro r;induction r with| nil =>rintro _ _;exact λ_ h=>by simp_all| cons x r ih =>rintro h e;have h0:=h x aO;have hr:=λy hy=>h y (a7 _ hy);have h1:=ox hr;simp only[be,bL] at e;have ih:=ih hr (NAG.gl65 e h0);grind
theorem ja {f g:Nat->Int}:∀{n},(∀e<n,f e<=g e)->upTo f n<=upTo g n| 0,_=>dw _| n+1,h=>by have:=ja (f:=f) (g:=g) (n:=n) λe he=>h e (by exact ig he);have:=h n Β;simp only[upTo];lia
theorem mI:∀{n},(∀e<n,f e<=g e)->upTo g n<=upTo f n->∀e<n,f e=g e:=by intro n;induction n with| zero =>rintro _ _;exact λe he=>by simp_all| succ n ih =>rintro h q;have h0:∀e<n,f e<=g e:=λe he=>h e (by exact ig he);have h1:=ja h0;have h2:=h n (by simp_all);simp only[upTo] at q;have ih:=ih h0 (by lia);grind
noncomputable def side (N:UN) (S:Nat->Bool) (e:Nat):Bool:=if e<N.G then ! S e else S e
noncomputable def bnd (N:UN) (aZ:xae) (S:Nat->Bool):Int:=upTo (λe=>[Δ,side N S e,aZ.getD e 0]) N.nE
theorem Flow.load_le {aZ ac ab:xae}(F:Flow N aZ ac ab)(he:e<N.nE):load N.ends ac e<=aZ.getD e 0/\(ab.getD e 0=aZ.getD e 0-load N.ends ac e):=by have hc:aZ[e]?=se (aZ[e]'(by rwa [F.lc])):=aT _;have hs:ab[e]?=se (ab[e]'(by rwa [F.lp])):=aT _;have q:=F.eq e _ _ hc hs;have n0:=F.sp e _ hs;grind
theorem UN.WF.two {N:UN}(W:N.WF):∀p∈N.ends,p.1≠p.2/\p.1<N.nE/\p.2<N.nE:=λp hp=>by obtain⟨k,hk⟩:=bz hp;have:=W.lo k p hk;exact NAG.gl104 this
theorem Uw.bnd (W:N.WF)(D:Uw N aZ ac ab aa):ac.sum=bnd N aZ (nr aa):=D.bound W
theorem Uw.ai (D:Uw N aZ ac ab aa):∀a k b,WW N a k b->a<N.G->nr aa a=tj->nr aa b=tj:=λa k b t hg h =>QZ (D.cl a k b t (.inl hg) (Q0 h))
theorem Uw.sub (D:Uw N aZ ac ab aa){S:Nat->Bool}(h1:∀g x,g<N.G->ab[g]?=se x->0<x->S g=tj)(h2:∀a k b,WW N a k b->Go N ac a k->S a=tj->S b=tj)(h:nr aa e=tj):S e=tj:=by have h':=Q0 h;exact D.st.least (λe=>S e=tj) h1 h2 (Lv aa e).toNat e (NAG.gl29 h')
noncomputable def Ts (f:Nat->Int) (S:Nat->Bool) (n:Nat):Int:=upTo (λe=>[Δ,S e,f e]) n
theorem Il (h:∀e<n,S e=tj->f e<=g e):Ts f S n<=Ts g S n:=ja λe he=>by grind
theorem xf (h:∀e<n,S e=tj->f e=g e):Ts f S n=Ts g S n:=Rb λe he=>Β
theorem xg (W:N.WF)(F:Flow N aZ ac ab)(S T:Nat->Bool)(hS:∀e,S e=tj->e<N.G)(hT:∀e,T e=tj->¬e<N.G) :Ts (load N.ends ac) S N.nE=((N.ends.zip ac).map λq=>[Δ,S q.1.1,q.2]).sum/\Ts (load N.ends ac) T N.nE=((N.ends.zip ac).map λq=>[Δ,T q.1.2,q.2]).sum:=by constructor;unfold Ts;rw[VU W.two F.ls];refine jv λq hq=>?_;obtain⟨k,hk⟩:=bz hq;obtain⟨p,s⟩:=q;obtain⟨hp,_⟩:=bP.mp hk;have:=W.lo k p hp;grind;unfold Ts;rw[VU W.two F.ls];refine jv λq hq=>?_;obtain⟨k,hk⟩:=bz hq;obtain⟨p,s⟩:=q;obtain⟨hp,_⟩:=bP.mp hk;have:=W.lo k p hp;grind
theorem Uw.full (W:N.WF)(D:Uw N aZ ac ab aa)(he:e<N.nE)(h:(e<N.G/\nr aa e=ff)\/(¬e<N.G/\nr aa e=tj)):load N.ends ac e=aZ.getD e 0:=by have q:=(D.flow.load_le he).2;have hs:ab[e]?=se (ab[e]'(by rwa [D.flow.lp])):=aT _;have n0:=D.flow.sp e _ hs;(have hg:ab.getD e 0=ab[e]'(by grind):=by simp[*]);(have hz:¬0<(ab[e]'(by grind)):=λz=>by rcases h with ⟨h1,h2⟩ | ⟨h1,h2⟩;have:=D.st.aI e _ h1 hs z;have:=of_decide_eq_false h2;simp_all;exact D.dry e (Q0 h2) #[Β,_,hs,z]);lia
theorem Uw.none_sent (W:N.WF)(D:Uw N aZ ac ab aa){k:Nat}(hp:N.ends[k]?=se p)(hs:ac[k]?=se s)(h1:nr aa p.1=ff)(h2:nr aa p.2=tj):s=0:=by have n0:=D.flow.nn k s hs;rcases gR 0 s with z | z;have:=D.cl p.2 k p.1 #[p,hp,.inr #[rfl,rfl]] (.inr #[s,hs,z]) (Q0 h2);have:=of_decide_eq_false h1;trivial;exact NAG.gl61 n0 z
theorem Uw.hi (W:N.WF)(D:Uw N aZ ac ab aa)(S T:Nat->Bool)(hS:∀e,S e=tj->e<N.G/\nr aa e=ff)(hT:∀e,T e=tj->¬e<N.G) (h:∀(k:Nat) p,N.ends[k]?=se p->S p.1=tj->nr aa p.2=ff->T p.2=tj):Ts (λe=>aZ.getD e 0) S N.nE<=Ts (λe=>aZ.getD e 0) T N.nE:=by obtain⟨l1,l2⟩:=xg W D.flow S T (λe he=>(hS e he).1) hT;rw[xf λe he c=>(D.full W he (.inl (hS e c))).symm,l1];refine i6 ?_ (Il λe he _=>(D.flow.load_le he).1);rw[l2];refine ox λq hq=>?_;obtain⟨k,hk⟩:=bz hq;obtain⟨p,s⟩:=q;obtain⟨hp,hs⟩:=bP.mp hk;have n0:=D.flow.nn k s hs;by_cases a:S p.1=tj;rcases qM (nr aa p.2)with z | z;have:=D.none_sent W hp hs (hS _ a).2 z;simp_all;grind;lia
theorem Uw.lo (W:N.WF)(D:Uw N aZ ac ab aa)(S T:Nat->Bool)(hS:∀e,S e=tj->e<N.G)(hT:∀e,T e=tj->¬e<N.G/\nr aa e=tj) (h:∀(k:Nat) p,N.ends[k]?=se p->nr aa p.1=tj->T p.2=tj->S p.1=tj) (df:∃e,e<N.nE/\T e=tj):Ts (λe=>aZ.getD e 0) T N.nE<Ts (λe=>aZ.getD e 0) S N.nE:=by obtain⟨l1,l2⟩:=xg W D.flow S T hS (λe he=>(hT e he).1);have e1:=xf λe he c=>(D.full W he (.inr (hT e c))).symm;(have lN:∀e<N.nE,[Δ,S e,load N.ends ac e]<=[Δ,S e,aZ.getD e 0]:=λe he=>by by_cases c:S e=tj;simp only[c,if_true];exact(D.flow.load_le he).1;simp[c]);have e2:Ts (load N.ends ac) S N.nE<=Ts (λe=>aZ.getD e 0) S N.nE:=ja lN;(have tm:∀q∈N.ends.zip ac,[Δ,T q.1.2,q.2]<=[Δ,S q.1.1,q.2]:=λq hq=>by obtain⟨k,hk⟩:=bz hq;obtain⟨p,s⟩:=q;obtain⟨hp,hs⟩:=bP.mp hk;have n0:=D.flow.nn k s hs;by_cases b:T p.2=tj;rcases qM (nr aa p.1)with z | z;have:=h k p hp z b;simp[b,this];have:=D.none_sent W hp hs z (hT _ b).2;subst this;simp;by_cases a:S p.1=tj<;>simp[a,b]<;>assumption);have e3:=ox tm;rw[<-l1,<-l2] at e3;rcases gR (Ts (λe=>aZ.getD e 0) T N.nE) (Ts (λe=>aZ.getD e 0) S N.nE)with z | z;exact z;exfalso;have q1:=mI lN (by show Ts _ S _<=Ts _ S _;lia);have q2:=Ik tm (by rw[<-l1,<-l2];lia);obtain⟨t,ht,hTt⟩:=df;have sub:=D.sub (S:=λe=>nr aa e&&! S e&&! T e) (λg x hg hx h0=>?_) (λa k b tie go ha=>?_) (hT t hTt).2;simp[hTt] at sub;have n:nr aa g=tj:=QZ (by rw[D.st.aI g x hg hx h0];exact dw _);(have lK:g<N.nE:=by have:=W.gle;exact NAG.gl56 hg this);(have nT:T g=ff:=by rcases qM (T g)with z | z;exact absurd hg (hT g z).1;exact z);(have nS:S g=ff:=by rcases qM (S g)with z | z;have:=q1 g lK;simp only[z,if_true] at this;have w:=(D.flow.load_le lK).2;(have:ab.getD g 0=x:=by simp[gU,hx]);simp_all;exact z);simp[n,nT,nS];simp only[cI,kR] at ha ⊢;obtain⟨⟨a1,a2⟩,a3⟩:=ha;have nb:=QZ (D.cl a k b tie go (Q0 a1));obtain⟨p,hp,q⟩:=tie;have tI:=W.lo k p hp;refine#[#[nb,?_],?_];rcases qM (S b)with z | z;exfalso;have hb:=hS b z;(have mZ:p.2=a/\p.1=b:=by rcases q with ⟨q1,q2⟩ | q;lia;exact q);obtain⟨rfl,rfl⟩:=mZ;rcases go with go | ⟨s,hs,h0⟩;lia;have hm:(p,s)∈N.ends.zip ac:=aK (bP.mpr #[hp,hs]);have:=q2 _ hm;simp only[z,a3,if_true] at this;simp at this;simp_all;exact z;grind
theorem Im (W:N.WF)(F:Flow N aZ ac ab):Ts (load N.ends ac) (λe=>decide (e<N.G)) N.nE=ac.sum/\Ts (load N.ends ac) (λe=>! decide (e<N.G)) N.nE=ac.sum:=by obtain⟨l1,l2⟩:=xg W F (λe=>decide (e<N.G)) (λe=>! decide (e<N.G)) (λe h=>Q0 h) (λe h=>by simpa using h);(have c1:((N.ends.zip ac).map λq=>[Δ,(decide (q.1.1<N.G))=tj,q.2]).sum=ac.sum:=by rw[<-XE F.ls];refine jv λq hq=>?_;obtain⟨k,hk⟩:=bz hq;obtain⟨p,s⟩:=q;obtain⟨hp,hs⟩:=bP.mp hk;have:=W.lo k p hp;simp[this.1]);(have c2:((N.ends.zip ac).map λq=>[Δ,(! decide (q.1.2<N.G))=tj,q.2]).sum=ac.sum:=by rw[<-XE F.ls];refine jv λq hq=>?_;obtain⟨k,hk⟩:=bz hq;obtain⟨p,s⟩:=q;obtain⟨hp,hs⟩:=bP.mp hk;have:=W.lo k p hp;simp_all);simp_all
theorem Uw.far (W:N.WF)(D:Uw N aZ ac ab aa)(hs:Ts (λe=>aZ.getD e 0) (λe=>decide (e<N.G)) N.nE<=Ts (λe=>aZ.getD e 0) (λe=>! decide (e<N.G)) N.nE) (hn:∃e,nr aa e=tj):∃e,¬e<N.G/\e<N.nE/\nr aa e=ff:=by apply Classical.byContradiction;intro hc;(have jV:∀e,¬e<N.G->e<N.nE->nr aa e=tj:=λe h1 h2=>Β);obtain⟨a1,a2⟩:=Im W D.flow;(have e1:Ts (λe=>aZ.getD e 0) (λe=>! decide (e<N.G)) N.nE=ac.sum:=by rw[<-a2];refine xf λe he c=>(D.full W he (.inr #[?_,jV e ?_ he])).symm;all_goals lia);(have le:∀e<N.nE,[Δ,(decide (e<N.G))=tj,load N.ends ac e]<=[Δ,(decide (e<N.G))=tj,aZ.getD e 0]:=λe he=>by by_cases c:(decide (e<N.G))=tj;simp only[c,if_true];exact(D.flow.load_le he).1;simp[c]);have q:=mI le (by grind[Ts]);obtain⟨e,he⟩:=hn;have hl:=Q0 he;(have:∀(d:Nat) e,Lv aa e=d->False:=by intro d;induction d with| zero =>intro e h;obtain⟨hg,x,hx,h0⟩:=D.st.zero e (by simpa using h);(have lK:e<N.nE:=by have:=W.gle;exact NAG.gl56 hg this);have w:=(D.flow.load_le lK).2;grind| succ d ih =>intro e h;obtain⟨a,k,t,g,l⟩:=D.st.pred e (NAG.gl62 h);simp_all);exact this (Lv aa e).toNat e (NAG.gl29 hl)
theorem Io (f:Nat->Int):∀n,upTo f (n+1)=f 0+upTo (λe=>f (e+1)) n:=by intro n;induction n with| zero =>simp[upTo]| succ n ih =>rw[upTo,ih];simp only[upTo];lia
theorem Vd (f:Nat->Int)(a:Nat):∀b,upTo f (a+b)=upTo f a+upTo (λe=>f (a+e)) b:=by intro b;induction b with| zero =>simp[upTo]| succ b ih =>rw[<-Nat.add_assoc,upTo,ih];simp only[upTo];lia
theorem U8:∀(l:xaf),upTo (λe=>φ (l.getD e 0)) l.length=(l.map φ).sum| []=>rfl| x::r=>by rw[fm,Io];have ih:=U8 (φ:=φ) r;simp_all
noncomputable def WK (g t:Nat) (ai:xad) (bI:xab):UN:=#[g,g+t,ai.map λp=>(p.1,g+p.2),bI]
theorem xh {A:Nat->Bool}{l:xaf}{φ:Nat->Int}(h:∀e<l.length,f e=φ (l.getD e 0)):Ts f (λe=>decide (e<l.length)&&A (l.getD e 0)) (l.length+t)=(l.map λc=>[Δ,A c,φ c]).sum:=by unfold Ts;rw[Vd,<-U8 (φ:=λc=>[Δ,A c,φ c])];(have z:upTo (λe=>[Δ,(decide (l.length+e<l.length)&&A (l.getD (l.length+e) 0))=tj,f (l.length+e)]) t=0:=by grind[Rb,Sf]);grind[Rb]
theorem xj {A:Nat->Bool}{l:xaf}{φ:Nat->Int}(h:∀e<l.length,f (g+e)=φ (l.getD e 0)):Ts f (λe=>! decide (e<g)&&A (l.getD (e-g) 0)) (g+l.length)=(l.map λc=>[Δ,A c,φ c]).sum:=by unfold Ts;rw[Vd,<-U8];(have z:upTo (λe=>[Δ,(! decide (e<g)&&A (l.getD (e-g) 0))=tj,f e]) g=0:=by refine(Rb λe he=>?_).trans (Sf g);simp_all);rw[z,nY];refine Rb λe he=>?_;simp[*]
section
variable {wk:Nat->Int}{dr:Nat->xaf}{ag ad:xaf}
def ZN (dr:Nat->xaf)(ag ad:xaf)(ai:xad):Prop:=∀g t:Nat,(g,t)∈ai↔∃c h,ad[g]?=se c/\ag[t]?=se h/\h∈dr c
structure ZY (wk:Nat->Int)(dr:Nat->xaf)(ag ad:xaf)(m W:Int)(nc nh:Nat->Bool):Prop where
 up:∀c∈ad,∀h∈ag,h∈dr c->nc c=tj->nh h=tj
 hi:∀T:Nat->Bool,(ad.map λc=>[Δ,! nc c&&ag.all λh=>(nh h||!(dr c).contains h||T h),wk c*m]).sum<=(ag.map λh=>[Δ,! nh h&&T h,W]).sum
 lo:∀T:Nat->Bool,(∃h∈ag,nh h=tj/\T h=tj)->(ag.map λh=>[Δ,nh h&&T h,W]).sum<(ad.map λc=>[Δ,nc c&&ag.any λh=>((dr c).contains h&&T h),wk c*m]).sum
 far:(∃h∈ag,nh h=tj)->∃h∈ag,nh h=ff
theorem Sb {l:xaf}(h:l[i]?=se x):l.getD i 0=x:=Β
theorem TD {l:xaf}(h:i<l.length):l[i]?=se (l.getD i 0):=Β
theorem Ip:(∀e<ad.length,(ad.map (λc=>wk c*m)++bf ag.length W).getD e 0=wk (ad.getD e 0)*m)/\∀e<ag.length,(ad.map (λc=>wk c*m)++bf ag.length W).getD (ad.length+e) 0=W:=by constructor;intro e he;rw[bR,iA Β,bo,TD he];rfl;intro e he;rw[bR,fW (by simp),bn,AJ,mj,QY he];rfl
theorem cut_of (tR:ZN dr ag ad ai)(WF:(WK ad.length ag.length ai bI).WF) (D:Uw (WK ad.length ag.length ai bI) (ad.map (λc=>wk c*m)++bf ag.length W) ac ab aa) (hc:∀i c,ad[i]?=se c->nc c=nr aa i) (hh:∀i h,ag[i]?=se h->nh h=nr aa (ad.length+i)) (hsum:(ad.map λc=>wk c*m).sum=(ag.map λ_=>W).sum):ZY wk dr ag ad m W nc nh:=by obtain⟨cp1,cp2⟩:=Ip;(have tie:∀(k:Nat) p,(WK ad.length ag.length ai bI).ends[k]?=se p->∃t c h,p.2=ad.length+t/\ad[p.1]?=se c/\ag[t]?=se h/\h∈dr c:=λk p hp=>by have dJ:(ai.map λp=>(p.1,ad.length+p.2))[k]?=se p:=hp;rw[bo] at dJ;cases q:ai[k]? with| none=>rw[q] at dJ;cases dJ| some x =>rw[q] at dJ;cases dJ;obtain⟨c,h,h1,h2,h3⟩:=(tR x.1 x.2).mp (aK q);exact#[x.2,c,h,rfl,h1,h2,h3]);(have mk:∀g t c h,ad[g]?=se c->ag[t]?=se h->h∈dr c->∃k:Nat,(WK ad.length ag.length ai bI).ends[k]?=se (g,ad.length+t):=λg t c h h1 h2 h3=>by obtain⟨k,hk⟩:=bz ((tR g t).mpr #[c,h,h1,h2,h3]);refine#[k,?_];show(ai.map λp=>(p.1,ad.length+p.2))[k]?=_;rw[bo,hk];rfl);refine#[λc o7 h kg hd hn=>?_,λT=>?_,λT hT=>?_,λhn=>?_];obtain⟨g,hg⟩:=bz o7;obtain⟨t,ht⟩:=bz kg;obtain⟨k,hk⟩:=mk g t c h hg ht hd;rw[hh t h ht];refine D.ai g k (ad.length+t) #[_,hk,.inl #[rfl,rfl]] (aQ.mp hg).1 ?_;rwa [<-hc g c hg];have q:=D.hi WF (λe=>decide (e<ad.length)&&(λc=>! nc c&&ag.all λh=>(nh h||!(dr c).contains h||T h)) (ad.getD e 0)) (λe=>! decide (e<ad.length)&&(λh=>! nh h&&T h) (ag.getD (e-ad.length) 0)) (λe he=>?_) (λe he=>?_) (λk p hp hS hn=>?_);exact i6 (l8 (xh (f:=λe=>(ad.map (λc=>wk c*m)++bf ag.length W).getD e 0) (A:=λc=>! nc c&&ag.all λh=>(nh h||!(dr c).contains h||T h)) (t:=ag.length) (φ:=λc=>wk c*m) cp1).symm) (i6 q (l8 (xj (f:=λe=>(ad.map (λc=>wk c*m)++bf ag.length W).getD e 0) (A:=λh=>! nh h&&T h) (φ:=λ_=>W) cp2)));rw[cI] at he;have h1:=Q0 he.1;refine#[h1,?_];have h2:=he.2;simp only[cI,kR] at h2;rw[<-hc e _ (TD h1)];exact h2.1;rw[cI] at he;show¬e<ad.length;simpa using he.1;obtain⟨t,c,h,e2,h1,h2,h3⟩:=tie k p hp;rw[cI] at hS;have je:=hS.2;rw[Sb h1] at je;simp only[cI,iQ,qO,kR] at je;(have nn:nh h=ff:=by rwa [hh t h h2,<-e2]);(have hT:T h=tj:=by rcases je.2 h (aK h2)with (z | z) | z;rw[nn] at z;cases z;rw[kn.mpr h3] at z;cases z;exact z);(have jT:p.2-ad.length=t:=Β);show(! decide (p.2<ad.length)&&(! nh (ag.getD (p.2-ad.length) 0)&&T (ag.getD (p.2-ad.length) 0)))=tj;rw[jT,Sb h2,nn,hT,Q1 Β];rfl;have q:=D.lo WF (λe=>decide (e<ad.length)&&(λc=>nc c&&ag.any λh=>((dr c).contains h&&T h)) (ad.getD e 0)) (λe=>! decide (e<ad.length)&&decide (e<ad.length+ag.length)&&(λh=>nh h&&T h) (ag.getD (e-ad.length) 0)) (λe he=>?_) (λe he=>?_) (λk p hp hn hS=>?_) ?_;(have e2:Ts (λe=>(ad.map (λc=>wk c*m)++bf ag.length W).getD e 0) (λe=>! decide (e<ad.length)&&decide (e<ad.length+ag.length)&&(λh=>nh h&&T h) (ag.getD (e-ad.length) 0)) (ad.length+ag.length)=Ts (λe=>(ad.map (λc=>wk c*m)++bf ag.length W).getD e 0) (λe=>! decide (e<ad.length)&&(λh=>nh h&&T h) (ag.getD (e-ad.length) 0)) (ad.length+ag.length):=by refine Rb λe he=>?_;simp[he]);exact Int.lt_of_le_of_lt (l8 ((xj (f:=λe=>(ad.map (λc=>wk c*m)++bf ag.length W).getD e 0) (A:=λh=>nh h&&T h) (φ:=λ_=>W) cp2).symm.trans e2.symm)) (pG q (l8 (xh (f:=λe=>(ad.map (λc=>wk c*m)++bf ag.length W).getD e 0) (A:=λc=>nc c&&ag.any λh=>((dr c).contains h&&T h)) (t:=ag.length) (φ:=λc=>wk c*m) cp1)));rw[cI] at he;exact Q0 he.1;rw[cI,cI] at he;(have h1:¬e<ad.length:=by simpa using he.1.1);have h0:e<ad.length+ag.length:=Q0 he.1.2;refine#[h1,?_];have h2:=he.2;simp only[cI] at h2;have h3:=hh (e-ad.length) _ (TD (NAG.gl51 h0 h1));rw[show ad.length+(e-ad.length)=e by simp_all] at h3;rw[<-h3];exact h2.1;obtain⟨t,c,h,e2,h1,h2,h3⟩:=tie k p hp;rw[cI] at hS;have je:=hS.2;(have jT:p.2-ad.length=t:=by simp[*]);rw[jT,Sb h2] at je;simp only[cI] at je;(have nc1:nc c=tj:=by rwa [hc p.1 c h1]);have an:(ag.any λh=>((dr c).contains h&&T h))=tj:=gL.mpr #[h,aK h2,by rw[kn.mpr h3,je.2];rfl];simp only[(aQ.mp h1).1,decide_true,Bool.true_and,Sb h1,nc1,an];obtain⟨h,h1,h2,h3⟩:=hT;obtain⟨t,ht⟩:=bz h1;have hK:=(aQ.mp ht).1;refine#[ad.length+t,by show _<ad.length+ag.length;simp_all,?_];(have:¬ad.length+t<ad.length:=Β);(have k2:ad.length+t-ad.length=t:=Β);show(! decide (ad.length+t<ad.length)&&decide (ad.length+t<ad.length+ag.length)&&(nh (ag.getD (ad.length+t-ad.length) 0)&&T (ag.getD (ad.length+t-ad.length) 0)))=tj;rw[k2,Sb ht,h2,h3,Q1 this,QZ Β];rfl;obtain⟨h,h1,h2⟩:=hn;obtain⟨t,ht⟩:=bz h1;(have sY:Ts (λe=>(ad.map (λc=>wk c*m)++bf ag.length W).getD e 0) (λe=>decide (e<(WK ad.length ag.length ai bI).G)) (WK ad.length ag.length ai bI).nE<=Ts (λe=>(ad.map (λc=>wk c*m)++bf ag.length W).getD e 0) (λe=>! decide (e<(WK ad.length ag.length ai bI).G)) (WK ad.length ag.length ai bI).nE:=by show Ts _ _ (ad.length+ag.length)<=Ts _ _ (ad.length+ag.length);have g1:=xh (f:=λe=>(ad.map (λc=>wk c*m)++bf ag.length W).getD e 0) (A:=λ_=>tj) (t:=ag.length) (φ:=λc=>wk c*m) cp1;have g2:=xj (f:=λe=>(ad.map (λc=>wk c*m)++bf ag.length W).getD e 0) (A:=λ_=>tj) (φ:=λ_=>W) cp2;simp only[v3,if_true] at g1 g2;have g1':Ts (λe=>(ad.map (λc=>wk c*m)++bf ag.length W).getD e 0) (λe=>decide (e<(WK ad.length ag.length ai bI).G)) (ad.length+ag.length)=_:=g1;have g2':Ts (λe=>(ad.map (λc=>wk c*m)++bf ag.length W).getD e 0) (λe=>! decide (e<(WK ad.length ag.length ai bI).G)) (ad.length+ag.length)=_:=g2;rw[g1',g2',hsum];exact dw _);obtain⟨e,e1,e2,e3⟩:=D.far WF sY #[ad.length+t,by rwa [<-hh t h ht]];have nj:¬e<ad.length:=e1;have e2':e<ad.length+ag.length:=e2;have hg:=TD (l:=ag) (i:=e-ad.length) (NAG.gl51 e2' nj);refine#[_,aK hg,?_];rwa [hh _ _ hg,show ad.length+(e-ad.length)=e by simp_all]
end
abbrev Cr:=List Nat×xaf
section
variable (wk:Nat->Int)(dr:Nat->xaf)
noncomputable def Y1 (c:Cr) (T:Nat->Bool):Int:=(c.2.map λx=>[Δ,c.1.any λh=>((dr x).contains h&&T h),wk x]).sum
noncomputable def Wa (c:Cr) (T:Nat->Bool):Int:=(c.2.map λx=>[Δ,c.1.all λh=>(!(dr x).contains h||T h),wk x]).sum
noncomputable def cnt (c:Cr) (T:Nat->Bool):Int:=(c.1.map λh=>[Δ,T h,1]).sum
noncomputable def Uy (c:Cr):Int:=(c.2.map wk).sum
def Lo (c:Cr)(p q:Int):Prop:=∀T:Nat->Bool,(∃h∈c.1,T h=tj)->p*cnt c T<q*Y1 wk dr c T
def Hi (c:Cr)(p q:Int):Prop:=∀T:Nat->Bool,q*Wa wk dr c T<=p*cnt c T
def Above (x y:Cr):Prop:=∃p q:Int,0<q/\Lo wk dr x p q/\Hi wk dr y p q
end
noncomputable def S9 (c:Cr) (nc nh:Nat->Bool):Cr:=(c.1.filter nh,c.2.filter nc)
noncomputable def aX (c:Cr) (nc nh:Nat->Bool):Cr:=(c.1.filter λh=>! nh h,c.2.filter λx=>! nc x)
theorem pZ {f:Nat->Int}:∀(l:xaf),((l.filter p).map f).sum=(l.map λx=>[Δ,p x,f x]).sum:=by intro r;induction r with| nil =>exact rfl| cons x r ih =>by_cases h:p x=tj;simp[h,ih];simp[h,ih]
theorem V8 (k:Int)(f:Nat->Int):∀(l:xaf),k*(l.map f).sum=(l.map λx=>k*f x).sum:=by intro r;induction r with| nil =>simp| cons x r ih =>simp only[be,bL,qP,ih]
theorem any_filter (l:xaf):((l.filter p).any q)=l.any λh=>(p h&&q h):=by rw[List.any_filter]
theorem all_filter (l:xaf):((l.filter p).all q)=l.all λh=>(! p h||q h):=by rw[List.all_filter]
theorem any_congr {l:xaf}(h:∀x∈l,p x=q x):l.any p=l.any q:=by grind
theorem all_congr {l:xaf}(h:∀x∈l,p x=q x):l.all p=l.all q:=by grind
section
variable {wk:Nat->Int}{dr:Nat->xaf}{c:Cr}{m W:Int}{nc nh:Nat->Bool}
theorem Bv (T:Nat->Bool):cnt (S9 c nc nh) T=cnt c (λh=>nh h&&T h):=by unfold cnt S9;rw[pZ];refine jv λh _=>?_;by_cases a:nh h=tj<;>simp[a]
theorem Bw (T:Nat->Bool):cnt (aX c nc nh) T=cnt c (λh=>! nh h&&T h):=by unfold cnt aX;rw[pZ];refine jv λh _=>?_;by_cases a:nh h=tj<;>simp[a]
theorem By:cnt c (λ_=>tj)=c.1.length:=by(have g:∀l:xaf,(l.map λ_=>(1:Int)).sum=l.length:=λl=>by induction l with| nil=>rfl| cons x r ih =>simp only[be,bL,fm,ih];lia);unfold cnt;simp only[if_true];exact g _
theorem BB (T:Nat->Bool):W*cnt c T=(c.1.map λh=>[Δ,T h,W]).sum:=by unfold cnt;rw[V8];refine jv λh _=>?_;by_cases a:T h=tj<;>simp[a]
theorem ZY.touch_near (C:ZY wk dr c.1 c.2 m W nc nh)(T:Nat->Bool):Y1 wk dr (S9 c nc nh) T=(c.2.map λx=>[Δ,nc x&&c.1.any λh=>((dr x).contains h&&T h),wk x]).sum:=by unfold Y1 S9;rw[pZ];refine jv λx hx=>?_;by_cases a:nc x=tj;(have e:(c.1.filter nh).any (λh=>((dr x).contains h&&T h))=c.1.any (λh=>((dr x).contains h&&T h)):=by rw[any_filter];refine any_congr λh hh=>?_;by_cases d:(dr x).contains h=tj;rw[C.up x hx h hh (kn.mp d) a];rfl;(have d':(dr x).contains h=ff:=by simpa using d);rw[d'];simp);rw[a,e];rfl;simp[a]
theorem ZY.lo_near (C:ZY wk dr c.1 c.2 m W nc nh):Lo wk dr (S9 c nc nh) W m:=by intro T hT;obtain⟨h,h1,h2⟩:=hT;have lQ:h∈c.1.filter nh:=h1;obtain⟨h3,h4⟩:=bi.mp lQ;have q:=C.lo T #[h,h3,h4,h2];rw[Bv,BB,C.touch_near,V8];refine pG q (l8 (jv λx _=>?_));split<;>simp[eE]
theorem ZY.hi_rest (C:ZY wk dr c.1 c.2 m W nc nh):Hi wk dr (aX c nc nh) W m:=by intro T;have q:=C.hi T;rw[Bw,BB];refine i6 (l8 ?_) q;unfold Wa aX;rw[pZ,V8];refine jv λx hx=>?_;(have e:(c.1.filter λh=>! nh h).all (λh=>(!(dr x).contains h||T h))=c.1.all (λh=>(nh h||!(dr x).contains h||T h)):=by rw[all_filter];refine all_congr λh _=>?_;by_cases a:nh h=tj<;>simp[a]);rw[e];by_cases a:nc x=tj;simp[a];(have a':nc x=ff:=by simpa using a);by_cases b:c.1.all (λh=>(nh h||!(dr x).contains h||T h))=tj;rw[b,a'];simp[eE];rw[eq_false_of_ne_true b,a'];simp
theorem Iq (hw:∀x∈c.2,0<=wk x)(T:Nat->Bool):Y1 wk dr c T<=Uy wk c:=by unfold Y1 Uy;refine ox λx hx=>?_;have:=hw x hx;split<;>lia
theorem Ir:Wa wk dr c (λ_=>tj)=Uy wk c:=by unfold Wa Uy;simp_all
theorem Lo.avg (h:Lo wk dr c p q)(hq:0<q)(df:c.1≠[])(hw:∀x∈c.2,0<=wk x):p*c.1.length<q*Uy wk c:=by obtain⟨x,hx⟩:=List.exists_mem_of_ne_nil _ df;have:=h (λ_=>tj) #[x,hx,rfl];rw[By] at this;exact pG this (ub (Iq hw _) (cy hq))
theorem Hi.avg {p q:Int}(h:Hi wk dr c p q):q*Uy wk c<=p*c.1.length:=by have:=h (λ_=>tj);rw[By,Ir] at this;exact this
theorem ZY.lo_rest (C:ZY wk dr c.1 c.2 m W nc nh)(h:Lo wk dr c p q):Lo wk dr (aX c nc nh) p q:=by intro T hT;obtain⟨k,h1,h2⟩:=hT;obtain⟨h3,h4⟩:=bi.mp h1;rw[Bw];refine pG (h (λh=>! nh h&&T h) #[k,h3,by rwa [h4]]) (l8 ?_);congr 1;unfold Y1 aX;rw[pZ];refine jv λx hx=>?_;by_cases a:nc x=tj;(have e:c.1.any (λh=>((dr x).contains h&&(! nh h&&T h)))=ff:=by rw[wI];intro h hh;by_cases d:(dr x).contains h=tj;rw[C.up x hx h hh (kn.mp d) a];simp;simp_all);lia;grind
theorem ZY.hi_near (C:ZY wk dr c.1 c.2 m W nc nh)(hq:0<q)(hw:∀x∈c.2,0<=wk x)(h:Hi wk dr c p q):Hi wk dr (S9 c nc nh) p q:=by intro T;rw[Bv];refine i6 (ub ?_ (cy hq)) (h (λh=>nh h&&T h));unfold Wa S9;rw[pZ];refine ox λx hx=>?_;have w0:=hw x hx;by_cases a:nc x=tj;(have e:(c.1.filter nh).all (λh=>(!(dr x).contains h||T h))=c.1.all (λh=>(!(dr x).contains h||(nh h&&T h))):=by rw[all_filter];refine all_congr λh hh=>?_;by_cases d:(dr x).contains h=tj;rw[C.up x hx h hh (kn.mp d) a,d];rfl;simp_all);lia;lia
end
structure Vr (wk:Nat->Int)(dr:Nat->xaf)(ae ad:Nat)(L:List Cr):Prop where
 ord:∀(i:Nat) x y,L[i]?=se x->L[i+1]?=se y->Above wk dr x y
 ne:∀c∈L,c.1≠[]
 own:∀c∈L,∀x∈c.2,∃h∈c.1,h∈dr x
 up:∀(i:Nat) c,L[i]?=se c->∀x∈c.2,∀h∈dr x,∃(j:Nat) (d:Cr),j<=i/\L[j]?=se d/\h∈d.1
 hs:∀h:Nat,(L.map λc=>c.1.count h).sum=[Δ,h<ae,1]
 cs:∀x:Nat,(L.map λc=>c.2.count x).sum=[Δ,x<ad,1]
 hr:∀c∈L,c.1.Pairwise (· < ·)
 cr:∀c∈L,c.2.Pairwise (· < ·)
theorem BC {p:Nat->Bool}{l:xaf}(h:Nat):(l.filter p).count h+(l.filter λx=>! p x).count h=l.count h:=by induction l with| nil=>rfl| cons x r ih =>rw[jH,jH];by_cases a:p x=tj;simp only[a,if_true,Bool.not_true,vZ,if_false,wN];lia;(have a':p x=ff:=by simpa using a);simp only[a',vZ,if_false,Bool.not_false,if_true,wN];lia
theorem iD {A B:List α}{c:α}(i:Nat):(A++c::B)[i]?=if i<A.length then A[i]? else if i=A.length then se c else B[i-A.length-1]?:=by grind
theorem p4 {A B:List α}{c d:α}(i:Nat):(A++c::d::B)[i]?=if i<A.length then A[i]? else if i=A.length then se c else if i=A.length+1 then se d else B[i-A.length-2]?:=by rw[iD];split;rfl;split;rfl;split;rename_i h3;subst h3;simp;rw[show i-A.length-1=(i-A.length-2)+1 by lia];simp
theorem Vr.cut (hw:∀x,0<wk x)(K:Vr wk dr ae ad (A++c::B))(C:ZY wk dr c.1 c.2 c.1.length (Uy wk c) nc nh)(hn:∃h∈c.1,nh h=tj) :Vr wk dr ae ad (A++S9 c nc nh::aX c nc nh::B):=by(have hc:c∈A++c::B:=by simp);(have m0:(0:Int)<c.1.length:=by have:=fj.mpr (K.ne c hc);simp_all);(have mem:∀d,d∈A++S9 c nc nh::aX c nc nh::B->d=S9 c nc nh\/d=aX c nc nh\/d∈A++c::B:=λd hd=>by rcases c8.mp hd with h | h;exact .inr (.inr (c8.mpr (.inl h)));rcases bj.mp h with h | h;exact .inl h;rcases bj.mp h with h | h;exact .inr (.inl h);exact .inr (.inr (c8.mpr (.inr (a7 _ h)))));obtain⟨hf,hf1,hf2⟩:=C.far hn;obtain⟨hh,hh1,hh2⟩:=hn;(have pd:∀x∈c.2,nc x=ff->∃h∈c.1,nh h=ff/\h∈dr x:=λx hx hnx=>by apply Classical.byContradiction;intro hno;have q:=C.hi (λ_=>ff);(have z:(c.1.map λh=>[Δ,(! nh h&&ff)=tj,Uy wk c]).sum=0:=by(have:(c.1.map λh=>[Δ,(! nh h&&ff)=tj,Uy wk c])=c.1.map λ_=>0:=by refine cz λh _=>?_;simp);rw[this];clear this;induction c.1 with| nil=>rfl| cons a r ih=>simp_all);rw[z] at q;have pos:(0:Int)<wk x*c.1.length:=kU (hw x) m0;(have one:wk x*c.1.length<=(c.2.map λy=>[Δ,(! nc y&&c.1.all λh=>(nh h||!(dr y).contains h||ff))=tj,wk y*c.1.length]).sum:=by(have nn:∀y∈c.2,(0:Int)<=[Δ,(! nc y&&c.1.all λh=>(nh h||!(dr y).contains h||ff))=tj,wk y*c.1.length]:=λy _=>by split;exact jr (cy (hw y)) (cy m0);exact dw _);(have bI:[Δ,(! nc x&&c.1.all λh=>(nh h||!(dr x).contains h||ff))=tj,wk x*c.1.length]=wk x*c.1.length:=by simp[*]);(have bD:∀(l:xaf) (f:Nat->Int),(∀y∈l,0<=f y)->x∈l->f x<=(l.map f).sum:=by intro l f hl hm;induction l with| nil=>simp_all| cons a r ih =>simp only[be,bL];have ha:=hl a aO;have hr:∀y∈r,0<=f y:=λy hy=>hl y (a7 _ hy);(have hs:0<=(r.map f).sum:=Ys λi v hv=>by obtain⟨y,hy,rfl⟩:=aU.mp (aK hv);exact hr y hy);rcases bj.mp hm with rfl | hm;exact NAG.gl74 hs;have:=ih hr hm;exact NAG.gl41 ha this);exact i6 (l8 bI.symm) (bD c.2 (λy=>[Δ,(! nc y&&c.1.all λh=>(nh h||!(dr y).contains h||ff))=tj,wk y*c.1.length]) nn hx));exact NAG.gl70 pos one q);refine#[λi x y hx hy=>?_,λd hd=>?_,λd hd=>?_,λi d hd x hx h kg=>?_,λh=>?_,λx=>?_,λd hd=>?_,λd hd=>?_];rw[p4] at hx hy;have old:=λ(i:Nat) (x y) (h1:(A++c::B)[i]?=se x) (h2:(A++c::B)[i+1]?=se y)=>K.ord i x y h1 h2;rcases pV (i+1) A.length with h | h | h;rw[QY (by exact eI h)] at hx;rw[QY (by assumption)] at hy;exact old i x y (by rwa [iD,QY (by exact eI h)]) (by rwa [iD,QY (by assumption)]);rw[QY (by exact uB h)] at hx;rw[QX Β,QY (by assumption)] at hy;cases hy;obtain⟨p,q,q0,l,u⟩:=old i x c (by rwa [iD,QY (by exact uB h)]) (by rw[iD,QX Β,QY (by assumption)]);exact#[p,q,q0,l,C.hi_near q0 (λx _=>cy (hw x)) u];rcases pV i A.length with h' | h' | h';lia;rw[QX Β,QY h'] at hx;rw[QX Β,QX (by exact eD h),QY (by rw[h'])] at hy;cases hx;cases hy;exact#[Uy wk c,c.1.length,m0,C.lo_near,C.hi_rest];rw[QX (by exact Nat.not_le.mpr h),QX (by exact eD h')] at hx;rw[QX (NAG.gl79 h'),QX (by exact eD h),QX (NAG.gl71 h')] at hy;by_cases h2:i=A.length+1;rw[QY h2] at hx;cases hx;obtain⟨p,q,q0,l,u⟩:=old A.length c y (by rw[iD,QX Β,QY rfl]) (by rw[iD,QX Β,QX Β];rwa [show i+1-A.length-2=A.length+1-A.length-1 by lia] at hy);exact#[p,q,q0,C.lo_rest l,u];rw[QX h2] at hx;refine old (i-1) x y ?_ ?_;rwa [iD,QX (NAG.gl77 h'),QX (NAG.gl78 h' h2),show i-1-A.length-1=i-A.length-2 from NAG.gl75];rwa [iD,QX (by lia),QX (by lia),show i-1+1-A.length-1=i+1-A.length-2 by lia];rcases mem d hd with rfl | rfl | h;intro z;have:hh∈(S9 c nc nh).1:=bi.mpr #[hh1,hh2];rw[z] at this;simp_all;intro z;have:hf∈(aX c nc nh).1:=bi.mpr #[hf1,by rw[hf2];rfl];rw[z] at this;simp_all;exact K.ne d h;rcases mem d hd with rfl | rfl | h;intro x hx;obtain⟨h1,h2⟩:=bi.mp hx;obtain⟨h,h3,h4⟩:=K.own c hc x h1;exact#[h,bi.mpr #[h3,C.up x h1 h h3 h4 h2],h4];intro x hx;obtain⟨h1,h2⟩:=bi.mp hx;obtain⟨h,h3,h4,h5⟩:=pd x h1 (by simpa using h2);exact#[h,bi.mpr #[h3,by rw[h4];rfl],h5];exact K.own d h;(have place:∀j d m9,(A++c::B)[j]?=se d->h∈d.1->(j<A.length->j<=m9)->(j=A.length->A.length+1<=m9\/(nh h=tj/\A.length<=m9))->(A.length<j->j+1<=m9)->∃(j:Nat) (d:Cr),j<=m9/\(A++S9 c nc nh::aX c nc nh::B)[j]?=se d/\h∈d.1:=by intro j d m9 hj ke b1 b2 b3;rw[iD] at hj;rcases pV j A.length with q | q | q;rw[QY q] at hj;exact#[j,d,b1 q,by rwa [p4,QY q],ke];rw[QX Β,QY q] at hj;cases hj;by_cases a:nh h=tj;refine#[A.length,S9 c nc nh,?_,by rw[p4,QX Β,QY rfl],bi.mpr #[ke,a]];rcases b2 q with z | z;exact eI z;exact z.2;rcases b2 q with z | z;exact#[A.length+1,aX c nc nh,z,by rw[p4,QX Β,QX Β,QY rfl],bi.mpr #[ke,Β]];exact absurd z.1 a;rw[QX (NAG.gl72 q),QX (by exact eD q)] at hj;exact#[j+1,d,b3 q,by rwa [p4,QX (NAG.gl79 q),QX (by lia),QX (NAG.gl71 q),show j+1-A.length-2=j-A.length-1 by lia],ke]);rw[p4] at hd;rcases pV i A.length with q | q | q;rw[QY q] at hd;obtain⟨j,e,h1,h2,h3⟩:=K.up i d (by rwa [iD,QY q]) x hx h kg;exact place j e i h2 h3 (λ_=>h1) (λz=>(NAG.gl76 q z h1).elim) (λz=>by lia);rw[QX Β,QY q] at hd;cases hd;obtain⟨g1,g2⟩:=bi.mp hx;obtain⟨j,e,h1,h2,h3⟩:=K.up i c (by rw[iD,QX Β,QY q]) x g1 h kg;refine place j e i h2 h3 (λ_=>h1) (λz=>.inr #[?_,Β]) (λz=>by lia);rw[iD,QX Β,QY z] at h2;cases h2;exact C.up x g1 h h3 kg g2;rw[QX (NAG.gl72 q),QX (by exact eD q)] at hd;by_cases h2:i=A.length+1;rw[QY h2] at hd;cases hd;obtain⟨g1,g2⟩:=bi.mp hx;obtain⟨j,e,h1,kh,h3⟩:=K.up A.length c (by rw[iD,QX Β,QY rfl]) x g1 h kg;exact place j e i kh h3 (λ_=>by exact eI (k6 h1 q)) (λz=>.inl (by assumption)) (λz=>by exact k6 h1 q);rw[QX h2] at hd;obtain⟨j,e,h1,kh,h3⟩:=K.up (i-1) d (by rwa [iD,QX (NAG.gl77 q),QX (NAG.gl78 q h2),show i-1-A.length-1=i-A.length-2 from NAG.gl75]) x hx h kg;exact place j e i kh h3 (λ_=>by lia) (λz=>.inl (by assumption)) (λz=>by lia);have:=K.hs h;rw[<-this];simp only[cV,be,jJ,bL];have:=BC (p:=nh) (l:=c.1) h;have e1:(S9 c nc nh).1=c.1.filter nh:=rfl;have e2:(aX c nc nh).1=c.1.filter λx=>! nh x:=rfl;rw[e1,e2];exact NAG.gl73 this;have:=K.cs x;rw[<-this];simp only[cV,be,jJ,bL];have:=BC (p:=nc) (l:=c.2) x;have e1:(S9 c nc nh).2=c.2.filter nc:=rfl;have e2:(aX c nc nh).2=c.2.filter λx=>! nc x:=rfl;rw[e1,e2];exact NAG.gl73 this;rcases mem d hd with rfl | rfl | h;exact(K.hr c hc).filter _;exact(K.hr c hc).filter _;exact K.hr d h;rcases mem d hd with rfl | rfl | h;exact(K.cr c hc).filter _;exact(K.cr c hc).filter _;exact K.cr d h
theorem Vr.fall (hw:∀x,0<wk x)(K:Vr wk dr ae ad L)(hx:L[i]?=se x)(hy:L[i+1]?=se y):Uy wk y*x.1.length<Uy wk x*y.1.length:=by obtain⟨p,q,q0,l,u⟩:=K.ord i x y hx hy;(have x0:(0:Int)<x.1.length:=by have:=fj.mpr (K.ne x (aK hx));simp_all);(have y0:(0:Int)<y.1.length:=by have:=fj.mpr (K.ne y (aK hy));simp_all);have a1:q*Uy wk y*x.1.length<=p*y.1.length*x.1.length:=lY u.avg (cy x0);have a2:p*x.1.length*y.1.length<q*Uy wk x*y.1.length:=nX (l.avg q0 (K.ne x (aK hx)) (λz _=>cy (hw z))) y0;(have a3:q*(Uy wk y*x.1.length)<q*(Uy wk x*y.1.length):=by lia);simp_all
end NAP
namespace NAL.EX
open PySem PySem.Spec PyProof.Rows
section
end
theorem BD {x y:α}{r:List α}:∀c k,((aR c).map (λi=>k+2+2*i)).filterMap ((x::y::r)[·]?)=((aR c).map (λi=>k+2*i)).filterMap (r[·]?):=by intro c k;rw[wE,wE];congr 1;grind
theorem xk:∀(xs:List α),((aR ((xs.length+1)/2)).map (λi=>0+2*i)).filterMap (xs[·]?)=NAP.U1 tj xs/\((aR (xs.length/2)).map (λi=>1+2*i)).filterMap (xs[·]?)=NAP.U1 ff xs| []=>#[by simp[NAP.U1],by simp[NAP.U1]]| [x]=>#[by simp[NAP.U1],by simp[NAP.U1]]| x::y::r=>by obtain⟨h1,h2⟩:=xk r;(have e1:((x::y::r).length+1)/2=(r.length+1)/2+1:=by simp only[fm];lia);(have e2:(x::y::r).length/2=r.length/2+1:=by simp only[fm];exact NAG.gl52);constructor;rw[e1,pJ,be,cB,qU];(have e:((λi=>0+2*i)∘iU)=λi=>0+2+2*i:=by funext i;simp only[Function.comp];lia);rw[e,BD,h1];rfl;rw[e2,pJ,be,cB,qU];(have e:((λi=>1+2*i)∘iU)=λi=>1+2+2*i:=by funext i;simp only[Function.comp];lia);rw[e,BD,h2];rfl
section
end
section
end
def Vv (t:Bool)(h:Rs)(i a:Q5)(k:Nat):Prop:=if t then h.IsTupleIter i a k else h.IsListIter i a k
def SeqAt (t:Bool)(h:Rs)(a:Q5)(xs:Array Value):Prop:=if t then h.IsTuple a xs else h.IsList a xs
theorem Vv.at (x:Vv t h i a k)(e:∀o,h.get? i=se o->h'.get? i=se o):Vv t h' i a k:=by cases t;exact Heap.IsListIter.at x e;exact Heap.IsTupleIter.at x e
theorem SeqAt.at (x:SeqAt t h a xs)(e:∀o,h.get? a=se o->h'.get? a=se o):SeqAt t h' a xs:=by cases t;obtain⟨o,ho,r⟩:=x;exact#[o,e _ ho,r];obtain⟨o,ho,r⟩:=x;exact#[o,e _ ho,r]
section
variable {prog:Rh}{w:RK}{A:Rg}{E:Value->Q4->Prop}{s:Q4}
theorem It (de:s.heap.IsTupleIter it t i)(ht:s.heap.IsTuple t items)(hx:items[i]?=se x) (hQ:∀h',h'.IsTupleIter it t (i+1)->Heap.SameBut it s.heap h'->Q x { s with heap:=h'}):Rd (Rf prog w) A (Builtin.SmallTypes.nextOf (.ref it)) Q E s:=by obtain⟨o,ho,hc,hd⟩:=id de;obtain⟨p,hp,_,n,hdp⟩:=ht;refine Q3 (SX de.typeIs F.slot_tuple_iterator_next (TC F.slot_tuple_iterator_next de.typeIs F.entry_tuple_iterator_next ?_ (F.args_tuple_iterator_next_1 _)));refine Q3 (m:=field (.ref it) 0) (Sc ho hd rfl ?_);refine Q3 (Sc ho hd rfl ?_);refine Q3 (Tv hp hdp ?_);simp only[uc,hx];exact Q3 (wpAny_setField ho hd (by simp) (Q8 #[x,rfl,Q8 (hQ _ #[_,Heap.get?_update_self _ ho (Obj.isFreed_of_fields (Obj.data_mapFields hd _)),(Obj.cls_mapFields ..).trans hc,by rw[Obj.data_mapFields hd];simp[VI]] (Heap.SameBut.update ..))]))
theorem Iu (hh:A.handled=ng)(de:s.heap.IsTupleIter it t i)(ht:s.heap.IsTuple t items)(hx:items[i]?=ng) (hE:∀h' e,Heap.ExtBut it s.heap h'->(∃o,h'.get? e=se o/\o.cls=.type "StopIteration")->E (.ref e) { s with heap:=h'}):Rd (Rf prog w) A (Builtin.SmallTypes.nextOf (.ref it)) Q E s:=by obtain⟨o,ho,hc,hd⟩:=id de;obtain⟨p,hp,_,n,hdp⟩:=ht;refine Q3 (SX de.typeIs F.slot_tuple_iterator_next (TC F.slot_tuple_iterator_next de.typeIs F.entry_tuple_iterator_next ?_ (F.args_tuple_iterator_next_1 _)));refine Q3 (m:=field (.ref it) 0) (Sc ho hd rfl ?_);refine Q3 (Sc ho hd rfl ?_);refine Q3 (Tv hp hdp ?_);simp only[uc,hx];refine Q3 (wpAny_rule (Q3 (wpAny_setField ho hd (by simp) ?_)));refine Q3 ?_;refine Q3 (R6 ?_ (by size_fits));refine Q3 (wpAny_of_eq (by first |rfl|(simp only[firstArgMember])) ?_);refine R6 ?_ (by size_fits);refine Q3 (wpAny_handled ?_);(first |rw[show A.in1.handled=ng from hh]|rw[hh]);exact Q3 (Q8 (wpAny_throw (hE _ _ (((Heap.SameBut.update ..).extBut.push _).push _) #[_,Heap.get?_push_size _ rfl,rfl])))
theorem BE (de:Vv t s.heap i a k)(hs:SeqAt t s.heap a xs)(hx:xs[k]?=se x) (hQ:∀h',Vv t h' i a (k+1)->Heap.SameBut i s.heap h'->Q x { s with heap:=h'}):Rd (Rf prog w) A (Builtin.SmallTypes.nextOf (.ref i)) Q E s:=by cases t;exact wpAny_nextOf_list_item de hs hx hQ;exact It de hs hx hQ
theorem BF (hh:A.handled=ng)(de:Vv t s.heap i a k)(hs:SeqAt t s.heap a xs)(hx:xs[k]?=ng) (hE:∀h' e,Heap.ExtBut i s.heap h'->(∃o,h'.get? e=se o/\o.cls=.type "StopIteration")->E (.ref e) { s with heap:=h'}):Rd (Rf prog w) A (Builtin.SmallTypes.nextOf (.ref i)) Q E s:=by cases t;exact wpAny_nextOf_list_end hh de hs hx hE;exact Iu hh de hs hx hE
end
abbrev jw (h:Rs)(T:Q5)(vs:List Value):Prop:=h.get? T=se { cls:=.type "tuple",data:=.seq vs.toArray}
noncomputable abbrev Zr (b:Nat) (m:Nat):List Value:=(jK 0 m).map λj=>Value.ref (b+j)
abbrev rj (h:Rs)(e:Q5):Prop:=∃o,h.get? e=se o/\o.cls=.type "StopIteration"
def Kp (b:Nat)(m:Nat)(c:Nat):Prop:=c<b\/c=b+m\/b+m+2<c
def Kept (b:Nat)(m:Nat)(h h':Rs):Prop:=∀(c:Nat) o,Kp b m c->h.get? c=se o->h'.get? c=se o
abbrev lh (h:Rs)(z I O:Q5)(f0:Value)(f1:Bool):Prop:=h.get? z=se { cls:=.type "zip",dict:=ng,data:=.fields ([f0,.bool f1,.bool ff,.ref I,.ref O].toArray),slots:=([].toArray)}
structure Zl (b:Nat)(aI:List (Bool×Q5))(k:Nat)(h:Rs):Prop where
 zip:∃f0 f1,(f0=.none\/∃t:Nat,f0=VI t)/\lh h (b+aI.length+2) (b+aI.length) (b+aI.length+1) f0 f1
 cG:jw h (b+aI.length) (Zr b aI.length)
 own:∃old,old.length=aI.length/\jw h (b+aI.length+1) old
 it:∀(j:Nat) p,aI[j]?=se p->Vv p.1 h (b+j) p.2 k
section
variable {prog:Rh}{w:RK}{A:Rg}{E:Value->Q4->Prop}
theorem Iw (hT:jw s.heap T old)(hz:old.length<=sizeLine)(h:∀h',jw h' T (old.set j x)->Heap.SameBut T s.heap h'->Q () { s with heap:=h'}) :Rd (Rf prog w) A (updateSeq T (·.setIfInBounds j x)) Q E s:=by refine wpAny_updateSeq hT rfl (h _ ?_ (Heap.SameBut.update ..)) (by assumption) (by simp;exact oj hz);show Heap.get? _ _=_;rw[Heap.get?_update_self _ hT rfl];simp[Obj.mapSeq]
abbrev Ix {β:Type}(prog:Rh)(w:RK)(A:Rg)(f:Value×Nat->β->Sem (ForInStep β))(b0:β)(E:Value->Q4->Prop)(b:Nat)(aI:List (Bool×Q5))(xss:Nat->Array Value)(k:Nat)(f1:Bool):Prop :=∀(j:Nat) (p:Bool×Q5) (s:Q4) (old:List Value) (Qf:ForInStep β->Q4->Prop),aI[j]?=se p->Vv p.1 s.heap (b+j) p.2 k->SeqAt p.1 s.heap p.2 (xss j)->old.length=aI.length->jw s.heap (b+aI.length+1) old->lh s.heap (b+aI.length+2) (b+aI.length) (b+aI.length+1) .ellipsis f1->(∀x h',(xss j)[k]?=se x->Vv p.1 h' (b+j) p.2 (k+1)->jw h' (b+aI.length+1) (old.set j x)->(∀(c:Nat) o,c≠b+aI.length+1->c≠b+j->s.heap.get? c=se o->h'.get? c=se o)->h'.objs.size=s.heap.objs.size->Qf (.yield b0) { s with heap:=h'})->((xss j)[k]?=ng->∀h' e,Kept b aI.length s.heap h'->rj h' e->E (.ref e) { s with heap:=h'})->Rd (Rf prog w) A (f (.ref (b+j),j) b0) Qf E s
theorem BG {b:Nat}{aI:List (Bool×Q5)}(aD:∀p∈aI,p.2<b)(hb:Ix prog w A f b0 E b aI xss k f1) :∀r j,j+r=aI.length->∀done rest s Q,done.length=j->rest.length=r->jw s.heap (b+aI.length+1) (done++rest)->lh s.heap (b+aI.length+2) (b+aI.length) (b+aI.length+1) .ellipsis f1->(∀(i:Nat) p,aI[i]?=se p->Vv p.1 s.heap (b+i) p.2 (if i<j then k+1 else k))->(∀i p,aI[i]?=se p->SeqAt p.1 s.heap p.2 (xss i))->(∀h' ay,ay.length=r->(∀i:Nat,i<r->(xss (j+i))[k]?=ay[i]?)->jw h' (b+aI.length+1) (done++ay)->lh h' (b+aI.length+2) (b+aI.length) (b+aI.length+1) .ellipsis f1->(∀(i:Nat) p,aI[i]?=se p->Vv p.1 h' (b+i) p.2 (k+1))->Kept b aI.length s.heap h'->h'.objs.size=s.heap.objs.size->Q b0 { s with heap:=h'})->((∃i:Nat,i<aI.length/\(xss i)[k]?=ng)->∀h' e,Kept b aI.length s.heap h'->rj h' e->E (.ref e) { s with heap:=h'})->Rd (Rf prog w) A (forIn ((jK j r).map λi=>(Value.ref (b+i),i)) b0 f) Q E s| 0,j,hj,done,rest,s,Q,hd,hr,hT,hz,hi,hs,hQ,hE=>by show Rd _ _ (forIn [] b0 f) _ _ _;rw[AC];have er:rest=[]:=nZ.mp hr;subst er;refine Q8 (hQ s.heap [] rfl (λi hi=>absurd hi (k7 _)) hT hz (λi p hp=>?_) (λc o _ e=>e) rfl);have:=(aQ.mp hp).1;have z:=hi i p hp;rwa [QY (show i<j by simp_all)] at z| r+1,j,hj,done,[],s,Q,hd,hr,hT,hz,hi,hs,hQ,hE=>by simp at hr| r+1,j,hj,done,o::rest,s,Q,hd,hr,hT,hz,hi,hs,hQ,hE=>by(have ki:j<aI.length:=by lia);(have hp:aI[j]?=se aI[j]:=by simp[ki]);have qJ:=aD _ (jI ki);have h1:=hi j _ hp;rw[QX (om _)] at h1;rw[wL,be,Av];refine Q3 (hb j aI[j] s (done++o::rest) _ hp h1 (hs j _ hp) (by simp only[dW,fm] at hr ⊢;simp[*]) hT hz (λx h' hx i1 t1 kk sz=>?_) (λhx h' e kk st=>hE #[j,ki,hx] h' e kk st));(have eset:(done++o::rest).set j x=(done++[x])++rest:=by subst hd;simp);rw[eset] at t1;refine BG aD hb r (j+1) (by lia) (done++[x]) rest { s with heap:=h'} Q (by simp[hd]) (by simpa using hr) t1 (kk _ _ Β (by lia) hz) (λi p dL=>?_) (λi p dL=>?_) (λh2 ay vl vx t2 z2 i2 k2 s2=>?_) (λhex h2 e k2 st=>hE hex h2 e (λc o hc g=>k2 c o hc (kk c o (by unfold Kp at hc;lia) (by unfold Kp at hc;lia) g)) st);have lH:=(aQ.mp dL).1;by_cases e:i=j;subst e;rw[QY (show i<i+1 by simp_all)];rw[hp] at dL;cases dL;exact i1;have z:=(hi i p dL).at λo g=>kk _ _ (by lia) Β g;by_cases e2:i<j;rw[QY e2] at z;rwa [QY (show i<j+1 by exact ig e2)];rw[QX e2] at z;rwa [QX (show¬i<j+1 by lia)];have lH:=(aQ.mp dL).1;have:=aD p (aK dL);exact(hs i p dL).at λo g=>kk _ _ (cF (iR this (by lia))) (cF (iR this Β)) g;refine hQ h2 (x::ay) (by simp[vl]) (λi iw=>?_) (by simpa using t2) z2 i2 (λc o hc g=>k2 c o hc (kk c o (by unfold Kp at hc;lia) (by unfold Kp at hc;lia) g)) (by rwa [s2]);cases i with| zero=>simpa using hx| succ i =>have:=vx i Β;rw[show j+(i+1)=j+1+i by lia];simpa using this
end
theorem Iy (b m:Nat):(Zr b m).toArray.toList.zipIdx=(jK 0 m).map λi=>(Value.ref (b+i),i):=by apply i7;intro i;by_cases h:i<m;simp[h];simp[h]
section
variable {prog:Rh}{w:RK}{A:Rg}{E:Value->Q4->Prop}{s:Q4}
theorem Iz (hf:f0=.none\/∃t:Nat,f0=VI t)(hz:lh s.heap z I O f0 f1) :
  Rd (Rf prog w) A (Builtin.SmallTypes.ownedTupleIsFree (.ref z)) (λr s'=>(r=tj/\s'=s)\/(r=ff/\∃h1 g1,lh h1 z I O f0 g1/\Heap.SameBut z s.heap h1/\s'={ s with heap:=h1})) E s:=by
 refine Q3 (Sc hz rfl rfl ?_);rcases hf with rfl | ⟨t,rfl⟩
 .exact Q8 (.inl #[rfl,rfl])
 .refine Q3 ?_;have bD:∀o,Rd (Rf prog w) A (if (o:Option Sr).isNone=tj then Pure.pure tj else do
    let __do_lift <-field (.ref z) 1
    if (__do_lift != Value.bool tj)=tj then do
     setField (.ref z) 1 (.bool tj)
     Pure.pure ff
    else Pure.pure ff) (λr s'=>(r=tj/\s'=s)\/(r=ff/\∃h1 g1,lh h1 z I O (VI t) g1/\Heap.SameBut z s.heap h1/\s'={ s with heap:=h1})) E s:=λo=>by
   split
   .exact Q8 (.inl #[rfl,rfl])
   .refine Q3 (Sc hz rfl rfl ?_)
    split
    .exact Q3 (Ss hz (by simp) λh1 z1 s1=>Q8 (.inr #[rfl,h1,tj,z1,s1,rfl]))
    .exact Q8 (.inr #[rfl,s.heap,f1,hz,Heap.SameBut.refl ..,rfl])
  exactλ_ _ _=>bD (s.heap.get? _)
noncomputable abbrev Um (vs:List Value):Sr:={ cls:=.type "tuple",data:=.seq vs.toArray}
abbrev ZB:=Option Fin×Array Value
theorem IA {f:Value->ZB->Sem (ForInStep ZB)}{b:Nat}{aI:List (Bool×Q5)}{xss:Nat->Array Value}(aD:∀p∈aI,p.2<b) (hb:∀(j:Nat) p s items Qf,aI[j]?=se p->Vv p.1 s.heap (b+j) p.2 k->SeqAt p.1 s.heap p.2 (xss j)->(∀x h',(xss j)[k]?=se x->Vv p.1 h' (b+j) p.2 (k+1)->Heap.SameBut (b+j) s.heap h'->Qf (.yield (ng,items.push x)) { s with heap:=h'})->((xss j)[k]?=ng->∀h' e,Heap.ExtBut (b+j) s.heap h'->rj h' e->E (.ref e) { s with heap:=h'})->Rd (Rf prog w) A (f (.ref (b+j)) (ng,items)) Qf E s) :∀r j,j+r=aI.length->∀items s Q,(∀(i:Nat) p,aI[i]?=se p->Vv p.1 s.heap (b+i) p.2 (if i<j then k+1 else k))->(∀i p,aI[i]?=se p->SeqAt p.1 s.heap p.2 (xss i))->(∀h' (ay:List Value),ay.length=r->(∀i:Nat,i<r->(xss (j+i))[k]?=ay[i]?)->(∀(i:Nat) p,aI[i]?=se p->Vv p.1 h' (b+i) p.2 (k+1))->(∀c o,c<b\/b+aI.length<=c->s.heap.get? c=se o->h'.get? c=se o)->h'.objs.size=s.heap.objs.size->Q (ng,items++ay.toArray) { s with heap:=h'})->((∃i:Nat,i<aI.length/\(xss i)[k]?=ng)->∀h' e,(∀c o,c<b\/b+aI.length<=c->s.heap.get? c=se o->h'.get? c=se o)->rj h' e->E (.ref e) { s with heap:=h'})->Rd (Rf prog w) A (forIn ((jK j r).map λi=>Value.ref (b+i)) ((ng,items)) f) Q E s:=by intro r;induction r with| zero =>intro j hj items s Q hi hs hQ hE;show Rd _ _ (forIn [] _ f) _ _ _;rw[AC];have:=hQ s.heap [] rfl (λi hi=>absurd hi (k7 _)) (λi p hp=>by have z:=hi i p hp;rwa [QY (show i<j by have:=(aQ.mp hp).1;simp_all)] at z) (λc o _ e=>e) rfl;exact Q8 (by simpa using this)| succ r ih =>intro j hj items s Q hi hs hQ hE;(have ki:j<aI.length:=by lia);(have hp:aI[j]?=se aI[j]:=by simp[ki]);have qJ:=aD _ (jI ki);have h1:=hi j _ hp;rw[QX (om _)] at h1;rw[wL,be,Av];refine Q3 (hb j _ s items _ hp h1 (hs j _ hp) (λx h' hx i1 sb=>?_) λhx h' e kk st=>hE #[j,ki,hx] h' e (λc o hc g=>kk _ _ (by lia) g) st);have k1:∀c o,c≠b+j->s.heap.get? c=se o->h'.get? c=se o:=λc o hc g=>sb.extBut _ _ hc g;refine ih (j+1) (by lia) (items.push x) { s with heap:=h' } Q (λi p dL=>?_) (λi p dL=>(hs i p dL).at λo g=>k1 _ _ (by have:=aD p (aK dL);exact cF (by lia)) g) (λh2 ay vl vx i2 k2 s2=>?_) λhex h2 e k2 st=>hE hex h2 e (λc o hc g=>k2 c o hc (k1 _ _ (by lia) g)) st;by_cases e:i=j;subst e;rw[QY (by simp[*])];rw[hp] at dL;cases dL;exact i1;have z:=(hi i p dL).at λo g=>k1 _ _ (by simp[*]) g;by_cases e2:i<j;rw[QY e2] at z;rwa [QY (by exact ig e2)];rw[QX e2] at z;rwa [QX (by lia)];have:=hQ h2 (x::ay) (by simp[vl]) (λi iw=>?_) i2 (λc o hc g=>k2 c o hc (k1 _ _ (by lia) g)) (by rw[s2];exact sb.1);simpa using this;cases i with| zero=>simpa using hx| succ i =>have:=vx i (by exact AL iw);rw[show j+(i+1)=j+1+i by lia];simpa using this
theorem IB {b:Nat}{aI:List (Bool×Q5)}{xss:Nat->Array Value}{Q:Value->Q4->Prop}(hh:A.handled=ng)(df:aI.length≠0)(hm:aI.length<=100)(aD:∀p∈aI,p.2<b)(st:Zl b aI k s.heap) (hs:∀i p,aI[i]?=se p->SeqAt p.1 s.heap p.2 (xss i)) (hQ:∀h' ay,ay.length=aI.length->(∀i:Nat,i<aI.length->(xss i)[k]?=ay[i]?)->Zl b aI (k+1) h'->jw h' s.heap.objs.size ay->h'.objs.size=s.heap.objs.size+1->Kept b aI.length s.heap h'->Q (.ref s.heap.objs.size) { s with heap:=h'}) (hE:(∃i:Nat,i<aI.length/\(xss i)[k]?=ng)->∀h' e,Kept b aI.length s.heap h'->rj h' e->E (.ref e) { s with heap:=h'}) :Rd (Rf prog w) A (Builtin.«zip.__next__» #[[.ref (b+aI.length+2)],[]]) (λfin s'=>∃v,fin=.done (.ret v)/\Q v s') E s:=by obtain⟨⟨f0,f1,hf,hz⟩,hTI,⟨old,hol,hTO⟩,de⟩:=st;refine Q3 (m:=field (.ref (b+aI.length+2)) 2) (Sc hz rfl rfl ?_);refine Q3 (Sc hz rfl rfl ?_);refine Q3 (Tv hTI rfl ?_);show Rd _ _ (if(Zr b aI.length).toArray.isEmpty=tj then _ else _) _ _ _;rw[QX (by simp only[List.isEmpty_toArray,List.isEmpty_iff,Zr,List.map_eq_nil_iff,List.range'_eq_nil_iff];exact df)];refine Q3 (SU (Iz hf hz) (λr s' hr=>?_) λ_ _ e=>e);rcases hr with ⟨rfl,e⟩ | ⟨rfl,h1,g1,o9,eY,rfl⟩;obtain rfl:=e.symm;simp only[if_true];refine Q3 (wpAny_rule ?_);refine Q3 (Sc hz rfl rfl ?_);refine Q3 (Ss hz (by simp) λh1 o9 eY=>?_);replace o9:=o9;refine Q3 ?_;rw[Iy];have k1:∀c o,c≠b+aI.length+2->s.heap.get? c=se o->h1.get? c=se o:=λc o hc e=>eY.extBut _ _ hc e;have kp1:Kept b aI.length s.heap h1:=λc o hc e=>k1 c o (by unfold Kp at hc;lia) e;refine BG aD ?_ aI.length 0 Β [] old { s with heap:=h1} _ rfl hol (k1 _ _ Β hTO) o9 (λi p dL=>?_) (λi p dL=>?_) (λh2 ay vl vx t2 z2 i2 k2 s2=>?_) (λhex h2 e k2 lG=>hE hex h2 e (λc o hc g=>k2 c o hc (kp1 c o hc g)) lG);intro j p s old Qf hp hi hq hl hT hzz iw he';have ki:=(aQ.mp hp).1;refine Q3 (wpAny_onRaise ?_);refine Q3 ?_;(cases hx:(xss j)[k]? with| none =>refine BF hh hi hq hx λh2 e k2 lG=>?_;obtain⟨oe,hoe,hce⟩:=lG;have hz2:=k2 _ _ (show b+aI.length+2≠b+j by lia) hzz;exact Ss hz2 (by simp) λh3 _ s3=>he' hx h3 e (λc o hc g=>s3.extBut _ _ (show c≠b+aI.length+2 by unfold Kp at hc;lia) (k2 _ _ (show c≠b+j by unfold Kp at hc;lia) g)) #[oe,s3.extBut _ _ (λx=>by subst x;rw[hz2] at hoe;cases hoe;simp at hce) hoe,hce]| some x =>refine BE hi hq hx λh2 i2 s2=>Q8 ?_;have hT2:=s2.extBut _ _ (show b+aI.length+1≠b+j by lia) hT;refine Q3 (Tv hT2 rfl ?_);refine Q3 (Iw hT2 (bW Β (show 100<=sizeLine by decide)) λh3 hT3 s3=>?_);refine Q3 (wpAny_letGo (Q8 ?_));refine iw x h3 hx (i2.at λo g=>s3.extBut _ _ (show b+j≠b+aI.length+1 by lia) g) hT3 (λc o c1 c2 g=>s3.extBut _ _ c1 (s2.extBut _ _ c2 g)) (by rw[s3.1,s2.1]));rw[QX (k7 i)];have lH:=(aQ.mp dL).1;exact(de i p dL).at λo g=>k1 _ _ (by lia) g;have:=aD p (aK dL);exact(hs i p dL).at λo g=>k1 _ _ (cF (iR this (by lia))) g;have t2':=t2;refine Q3 (Tv t2' rfl ?_);refine Q3 (wpAny_newTuple ?_ (bW (show ay.toArray.toList.length<=100 by rw[Aj];simp_all) (show 100<=sizeLine by decide)));(have i0:h2.objs.size=s.heap.objs.size:=by rw[s2];exact eY.1);refine Q3 ?_;unfold Builtin.SmallTypes.ownedTupleHandOut;have lt:=Heap.lt_size z2;refine Q3 (Ss (Heap.get?_push_of_some _ z2) (by simp) λh4 z4 s4=>?_);replace z4:=z4;refine Ss z4 (by simp) λh5 z5 s5=>?_;replace z5:=z5;have up:∀c o,c≠b+aI.length+2->h2.get? c=se o->h5.get? c=se o:=λc o c1 g=>s5.extBut _ _ c1 (s4.extBut _ _ c1 (Heap.get?_push_of_some _ g));have tN:=s5.extBut _ _ (show h2.objs.size≠b+aI.length+2 by exact eD lt) (s4.extBut _ _ (show h2.objs.size≠b+aI.length+2 by exact eD lt) (Heap.get?_push_size _ rfl));(have sz5:h5.objs.size=h2.objs.size+1:=by rw[s5.1,s4.1,Heap.size_push]);rw[i0] at z5 tN sz5;refine Q8 #[_,rfl,?_];show Q (.ref h2.objs.size) _;rw[i0];refine hQ h5 ay vl (λi hi=>by have:=vx i hi;rwa [q8] at this) #[#[_,_,.inr #[_,rfl],z5],up _ _ Β (k2 _ _ (.inr (.inl rfl)) (k1 _ _ Β hTI)),#[ay,vl,up _ _ Β t2'],λj p hp=>(i2 j p hp).at λo g=>up _ _ ?_ g] tN sz5 (λc o hc g=>up c o (by unfold Kp at hc;lia) (k2 c o hc (kp1 c o hc g)));have lH:=(aQ.mp hp).1;lia;simp only[vZ,if_false];refine Q3 ?_;rw[<-Array.forIn_toList,show(Zr b aI.length).toArray.toList=(jK 0 aI.length).map λi=>Value.ref (b+i)from rfl];have k1:∀c o,c≠b+aI.length+2->s.heap.get? c=se o->h1.get? c=se o:=λc o hc e=>eY.extBut _ _ hc e;refine IA aD (λj p s items Qf hp hi hq hQ hE=>?_) aI.length 0 Β ([].toArray) { s with heap:=h1} _ (λi p dL=>?_) (λi p dL=>?_) (λh2 ay vl vx i2 k2 s2=>?_) λhex h2 e k2 lG=>hE hex h2 e (λc o hc g=>k2 c o (by unfold Kp at hc;lia) (k1 c o (by unfold Kp at hc;lia) g)) lG;refine Q3 (Tg (Q3 ?_));(cases hx:(xss j)[k]? with| none=>exact BF hh hi hq hx λh2 e k2 lG=>hE hx h2 e k2 lG| some x=>exact BE hi hq hx λh2 i2 s2=>Q8 (Q8 (hQ x h2 hx i2 s2)));rw[QX (k7 i)];have:=(aQ.mp dL).1;exact(de i p dL).at λo g=>k1 _ _ (by lia) g;have:=aD p (aK dL);exact(hs i p dL).at λo g=>k1 _ _ (cF (by lia)) g;rw[show([].toArray)++ay.toArray=ay.toArray by simp];refine Q3 (wpAny_newTuple ?_ (bW (show ay.toArray.toList.length<=100 by rw[Aj];simp_all) (show 100<=sizeLine by decide)));have i0:=s2.trans eY.1;have up:∀c o,h2.get? c=se o->(h2.push (Um ay)).get? c=se o:=λc o g=>Heap.get?_push_of_some _ g;have tN:jw (h2.push (Um ay)) h2.objs.size ay:=Heap.get?_push_size _ rfl;refine Q8 #[_,rfl,?_];show Q (.ref h2.objs.size) { s with heap:=h2.push (Um ay)};rw[i0] at tN ⊢;exact hQ _ ay vl (λi hi=>by have:=vx i hi;rwa [q8] at this) #[#[f0,g1,hf,up _ _ (k2 _ _ Β o9)],up _ _ (k2 _ _ Β (k1 _ _ Β hTI)),#[old,hol,up _ _ (k2 _ _ Β (k1 _ _ Β hTO))],λj p hp=>(i2 j p hp).at λo g=>up _ _ g] tN (by rw[Heap.size_push,i0]) λc o hc g=>up _ _ (k2 _ _ (by unfold Kp at hc;lia) (k1 _ _ (by unfold Kp at hc;lia) g))
theorem BH {b:Nat}{aI:List (Bool×Q5)}{xss:Nat->Array Value}(hh:A.handled=ng)(df:aI.length≠0)(hm:aI.length<=100)(aD:∀p∈aI,p.2<b)(st:Zl b aI k s.heap) (hs:∀i p,aI[i]?=se p->SeqAt p.1 s.heap p.2 (xss i)) (hQ:∀h' ay,ay.length=aI.length->(∀i:Nat,i<aI.length->(xss i)[k]?=ay[i]?)->Zl b aI (k+1) h'->jw h' s.heap.objs.size ay->h'.objs.size=s.heap.objs.size+1->Kept b aI.length s.heap h'->Q (se (.ref s.heap.objs.size)) { s with heap:=h'}) (hE:(∃i:Nat,i<aI.length/\(xss i)[k]?=ng)->∀h',Kept b aI.length s.heap h'->Q ng { s with heap:=h'}) :Rd (Rf prog w) A (pyNext (.ref (b+aI.length+2))) Q E s:=by obtain⟨_,_,_,hz⟩:=st.zip;have hT:s.TypeIs (.ref (b+aI.length+2)) "zip":=#[_,hz,rfl];refine Q3 (wpAny_attempt (SX hT F.slot_zip_next (TC F.slot_zip_next hT F.entry_zip_next (IB hh df hm aD st hs (λh' ay a1 a2 a3 a4 a5 a6=>Q8 (hQ h' ay a1 a2 a3 a4 a5 a6)) λhex h' e kk lG=>?_) (F.args_zip_next_1 _))));obtain⟨o,ho,hc⟩:=lG;exact Q3 (wpAny_isInstance #[o,ho,hc] isSubtype_stop (Q8 (hE hex h' kk)))
end
noncomputable abbrev Sz (t:Bool) (a:Q5):Sr:={ cls:=.type (if t then "tuple_iterator"else "list_iterator"),data:=.fields ([.ref a,.int 0 0].toArray)}
noncomputable abbrev Y5 (I O:Q5):Sr:={ cls:=.type "zip",data:=.fields ([.none,.bool ff,.bool ff,.ref I,.ref O].toArray)}
section
variable {prog:Rh}{w:RK}{A:Rg}{E:Value->Q4->Prop}{s:Q4}
theorem rk (h:SeqAt t s.heap a xs)(hQ:Q (.ref s.heap.objs.size) { s with heap:=s.heap.push (Sz t a)}):Rd (Rf prog w) A (pyIter (.ref a)) Q E s:=by cases t;exact R5 h hQ;exact wpAny_pyIter_tuple h hQ
end
theorem SeqAt.push (x:SeqAt t h a xs)(o:Sr):SeqAt t (h.push o) a xs:=x.at λ_ g=>Heap.get?_push_of_some _ g
noncomputable abbrev z2H (h:Rs) (p q:Bool×Q5):Rs:=(((((h.push (Sz p.1 p.2)).push (Sz q.1 q.2)).push (Um [.ref h.objs.size,.ref (h.push (Sz p.1 p.2)).objs.size])).push (Um [.none,.none])).push (Y5 ((h.push (Sz p.1 p.2)).push (Sz q.1 q.2)).objs.size (((h.push (Sz p.1 p.2)).push (Sz q.1 q.2)).push (Um [.ref h.objs.size,.ref (h.push (Sz p.1 p.2)).objs.size])).objs.size))
noncomputable abbrev z2A (h:Rs) (p q:Bool×Q5):Q5:=((((h.push (Sz p.1 p.2)).push (Sz q.1 q.2)).push (Um [.ref h.objs.size,.ref (h.push (Sz p.1 p.2)).objs.size])).push (Um [.none,.none])).objs.size
theorem IC (p q:Bool×Q5)(xs ys:Array Value) :Meets (Builtin.«zip.__new__» #[[.type "zip",.ref p.2,.ref q.2],[]]) (λ_ R s=>SeqAt p.1 s.heap p.2 xs/\SeqAt q.1 s.heap q.2 ys/\R (.ok (.ret (.ref (z2A s.heap p q)))) { s with heap:=z2H s.heap p q}) :=.of_wp λprog w A R s h=>by obtain⟨hp,g,d,tk,os⟩:=s;obtain⟨h1,h2,h⟩:=h;have jT:=sub_zip;have hL1:=h1;have hL2:SeqAt q.1 (Shared.heap #[hp.push (Sz p.1 p.2),g,d,tk,os]) q.2 ys:=SeqAt.push h2 _;wp_walk using rk hL1,rk hL2;exact#[_,rfl,h]
noncomputable abbrev z3B (h:Rs) (p q r:Bool×Q5):Rs:=((h.push (Sz p.1 p.2)).push (Sz q.1 q.2)).push (Sz r.1 r.2)
noncomputable abbrev z3C (h:Rs) (p q r:Bool×Q5):Rs:=(z3B h p q r).push (Um [.ref h.objs.size,.ref (h.push (Sz p.1 p.2)).objs.size,.ref ((h.push (Sz p.1 p.2)).push (Sz q.1 q.2)).objs.size])
noncomputable abbrev z3D (h:Rs) (p q r:Bool×Q5):Rs:=(z3C h p q r).push (Um [.none,.none,.none])
noncomputable abbrev z3H (h:Rs) (p q r:Bool×Q5):Rs:=(z3D h p q r).push (Y5 (z3B h p q r).objs.size (z3C h p q r).objs.size)
set_option maxHeartbeats 2000000 in
theorem ID (p q r:Bool×Q5)(xs ys zs:Array Value) :
  Meets (Builtin.«zip.__new__» #[[.type "zip",.ref p.2,.ref q.2,.ref r.2],[]]) (λ_ R s=>SeqAt p.1 s.heap p.2 xs/\SeqAt q.1 s.heap q.2 ys/\SeqAt r.1 s.heap r.2 zs/\R (.ok (.ret (.ref (z3D s.heap p q r).objs.size))) { s with heap:=z3H s.heap p q r}) :=
 .of_wp λprog w A R s h=>by
  obtain⟨hp,g,d,tk,os⟩:=s;obtain⟨h1,h2,h3,h⟩:=h;have jT:=sub_zip;have hL1:SeqAt p.1 (Shared.heap #[hp,g,d,tk,os]) p.2 xs:=h1
  have hL2:SeqAt q.1 (Shared.heap #[hp.push (Sz p.1 p.2),g,d,tk,os]) q.2 ys:=SeqAt.push h2 _;have hL3:SeqAt r.1 (Shared.heap #[(hp.push (Sz p.1 p.2)).push (Sz q.1 q.2),g,d,tk,os]) r.2 zs:=SeqAt.push (SeqAt.push h3 _) _
  wp_walk using rk hL1,rk hL2,rk hL3
  exact#[_,rfl,h]
theorem IE (a b c:Value):checkTypeCall "zip" #[[a,b,c],[]]=pure ():=by kernel_rfl
theorem IF (a b c:Value):checkBuiltinCall "zip.__new__" #[[.type "zip",a,b,c],[]]=pure ():=by kernel_rfl
theorem IG (a b c d:Value):argsOk "object.__init__" #[[a,b,c,d],[]]:=by kernel_rfl
section
end
theorem IH (x:Vv t h i a k):∃o,h.get? i=se o/\∀v,o.data≠.cell v:=by cases t;obtain⟨o,e,c,d⟩:=x;simp_all;obtain⟨o,e,c,d⟩:=x;simp_all
theorem Zl.obj (st:Zl b aI k h)(c:Nat)(h1:b<=c)(h2:c<b+aI.length+3):∃o,h.get? c=se o/\∀v,o.data≠.cell v:=by by_cases e:c<b+aI.length;have:=IH (st.it (c-b) aI[c-b] (by simp[by lia]));simp_all;rcases(by lia:c=b+aI.length\/c=b+aI.length+1\/c=b+aI.length+2)with rfl | rfl | rfl;exact#[_,st.cG,λv z=>by cases z];obtain⟨old,_,ho⟩:=st.own;simp_all;obtain⟨_,_,_,hz⟩:=st.zip;exact#[_,hz,λv z=>by cases z]
theorem Zl.keep (st:Zl b aI k h)(kk:∀c,b<=c->c<b+aI.length+3->∀o,h.get? c=se o->h'.get? c=se o):Zl b aI k h':=by obtain⟨old,ol,ho⟩:=st.own;obtain⟨f0,f1,hf,hz⟩:=st.zip;refine#[#[f0,f1,hf,kk _ (by lia) Β _ hz],kk _ Β Β _ st.cG,#[old,ol,kk _ (by lia) Β _ ho],λj p hp=>(st.it j p hp).at λo g=>kk _ Β ?_ _ g];grind
theorem Wc:c∈List.range' b (m+3)↔b<=c/\c<b+m+3:=by grind
section
variable {prog:Rh}{w:RK}{A:Rg}{E:Value->Q4->Prop}{s:Q4}
theorem letGo (hf:f0=.none\/∃t:Nat,f0=VI t)(hz:lh s.heap z I O f0 f1)(hQ:∀h' f,(f=.none\/∃t:Nat,f=VI t)->lh h' z I O f f1->Heap.SameBut z s.heap h'->Q () { s with heap:=h'}):Rd (Rf prog w) A (SF tg (.ref z) (.ref T)) Q E s:=by have no:Rd (Rf prog w) A (pure ()) Q E s:=Q8 (hQ s.heap f0 hf hz (Heap.SameBut.refl ..));(have bD:Rd (Rf prog w) A (SF (.Tuple [] 0 #[0,0,0,0]) (.ref z) (.ref T)) Q E s:=by refine Q3 (wpAny_load hz ?_);show Rd _ _ (if(_&&_)=tj then _ else _) Q E s;split;exact Q3 (wpAny_rule (Ss hz (by simp) λh' hz' kQ=>hQ h' .none (.inl rfl) hz' kQ));exact no);cases tg<;>first |exact bD|exact no
theorem uP (st:Zl b aI k s.heap)(h:Q (.ref (b+aI.length+2)) s):Rd (Rf prog w) A (pyIter (.ref (b+aI.length+2))) Q E s:=by obtain⟨f0,f1,hf,hz⟩:=st.zip;have hT:s.TypeIs (.ref (b+aI.length+2)) "zip":=#[_,hz,rfl];exact wpAny_pyIter_slot hT F.slot_zip_iter (TC F.slot_zip_iter hT F.entry_zip_iter (Q8 #[_,rfl,"zip",_,hT,F.slot_zip_next.lookup,h]) (F.args_zip_iter_1 _))
end
theorem p8 (g:h.get? i=se (Sz t a)):Vv t h i a 0:=by cases t;exact#[_,g,rfl,rfl];exact#[_,g,rfl,rfl]
section
variable {prog:Rh}{w:RK}{A:Rg}{E:Value->Q4->Prop}{s:Q4}
theorem BI (l:List Sr)(h:Rs):(l.foldl Heap.push h).objs.size=h.objs.size+l.length/\(∀c o,h.get? c=se o->(l.foldl Heap.push h).get? c=se o)/\∀(j:Nat) o,l[j]?=se o->o.isFreed=ff->(l.foldl Heap.push h).get? (h.objs.size+j)=se o:=by induction l generalizing h with| nil=>exact#[rfl,λ_ _ e=>e,λj o e=>by simp at e]| cons x l ih =>obtain⟨a,b,c⟩:=ih (h.push x);rw[Heap.size_push] at a c;refine#[by rw[pO,a,fm];lia,λc o e=>b c o (Heap.get?_push_of_some _ e),λj o e f=>?_];cases j with| zero=>cases e;exact b _ _ (Heap.get?_push_size _ f)| succ j =>rw[show h.objs.size+(j+1)=h.objs.size+1+j by lia];exact c j o e f
theorem BJ (h1:SeqAt p.1 s.heap p.2 xs)(h2:SeqAt q.1 s.heap q.2 ys) (h:∀h',Zl s.heap.objs.size [p,q] 0 h'->(∀c o,s.heap.get? c=se o->h'.get? c=se o)->Q (.ref (s.heap.objs.size+4)) { s with heap:=h'}):Rd (Rf prog w) A (call (.type "zip") [.ref p.2,.ref q.2]) Q E s:=by refine callType_new F.called_zip Γ (F.typeCall_zip_2 _ _) (F.newCall_zip_2 _ _) (λobj=>F.args_object_init_3 obj _ _) F.entry_zip_new (IC p q xs ys) #[h1,h2,?_];unfold z2A z2H;simp only[Heap.size_push];obtain⟨_,k,g⟩:=BI [Sz p.1 p.2,Sz q.1 q.2,Um [.ref s.heap.objs.size,.ref (s.heap.objs.size+1)],Um [.none,.none],Y5 (s.heap.objs.size+1+1) (s.heap.objs.size+1+1+1)] s.heap;refine#[#[_,g 4 _ rfl rfl,rfl],h _ #[#[.none,ff,.inl rfl,g 4 _ rfl rfl],g 2 _ rfl rfl,#[[.none,.none],rfl,g 3 _ rfl rfl],λj r hr=>?_] k];match j,hr with| 0,hr=>cases hr;exact p8 (g 0 _ rfl rfl)| 1,hr=>cases hr;exact p8 (g 1 _ rfl rfl)| n+2,hr=>cases hr
theorem II (h1:SeqAt p.1 s.heap p.2 xs)(h2:SeqAt q.1 s.heap q.2 ys)(h3:SeqAt r.1 s.heap r.2 zs) (h:∀h',Zl s.heap.objs.size [p,q,r] 0 h'->(∀c o,s.heap.get? c=se o->h'.get? c=se o)->Q (.ref (s.heap.objs.size+5)) { s with heap:=h'}):Rd (Rf prog w) A (call (.type "zip") [.ref p.2,.ref q.2,.ref r.2]) Q E s:=by refine callType_new F.called_zip Γ (IE _ _ _) (IF _ _ _) (λobj=>IG obj _ _ _) F.entry_zip_new (ID p q r xs ys zs) #[h1,h2,h3,?_];unfold z3H z3D z3C z3B;simp only[Heap.size_push];obtain⟨_,k,g⟩:=BI [Sz p.1 p.2,Sz q.1 q.2,Sz r.1 r.2,Um [.ref s.heap.objs.size,.ref (s.heap.objs.size+1),.ref (s.heap.objs.size+1+1)],Um [.none,.none,.none],Y5 (s.heap.objs.size+1+1+1) (s.heap.objs.size+1+1+1+1)] s.heap;refine#[#[_,g 5 _ rfl rfl,rfl],h _ #[#[.none,ff,.inl rfl,g 5 _ rfl rfl],g 3 _ rfl rfl,#[[.none,.none,.none],rfl,g 4 _ rfl rfl],λj r hr=>?_] k];match j,hr with| 0,hr=>cases hr;exact p8 (g 0 _ rfl rfl)| 1,hr=>cases hr;exact p8 (g 1 _ rfl rfl)| 2,hr=>cases hr;exact p8 (g 2 _ rfl rfl)| n+3,hr=>cases hr
end
section
theorem xo (x:SeqAt t h a xs):a<h.objs.size:=by cases t;obtain⟨o,e,_⟩:=x;exact Heap.lt_size e;obtain⟨o,e,_⟩:=x;exact Heap.lt_size e
end
open PySem PySem.Spec PyProof.Rows PySem.SeqAt
section
end
end NAL.EX
namespace PySem
open AutoSeq1 (wpAny_loadPart')
open MeetsSeq MeetsSeq2 MeetsSeq3 SeqRoads2 SeqAt
end PySem
namespace NAL.EX
open PySem PySem.Spec PyProof.Rows PySem.SeqAt
section
end
section
end
end NAL.EX
namespace NAM
theorem xq (a b:Int):∃q1 q2:Int,a=(bK a b:Nat)*q1/\b=(bK a b:Nat)*q2:=by obtain⟨q1,h1⟩:=Int.gcd_dvd_left (a:=a) (b:=b);obtain⟨q2,h2⟩:=zR (a:=a) (b:=b);exact#[q1,q2,h1,h2]
theorem gone (hg:0<g)(h:(bK (g*q1) (g*q2))=g):bK q1 q2=1:=by rw[Int.gcd_mul_left] at h;(have h2:g*((bK q1 q2:Nat))=g*1:=by lia);have:=zN (by exact di hg) h2;lia
theorem rp (hb:b≠0):(0:Int)<(bK a b):=Β
theorem BK (hb:b≠0)(hj:j=if b<0 then-((bK a b):Int)else(bK a b)):j≠0/\j.natAbs<=b.natAbs/\1<=b.fdiv j/\bK (a.fdiv j) (b.fdiv j)=1/\a.fdiv j*b=a*b.fdiv j:=by obtain⟨q1,q2,h1,h2⟩:=xq a b;have hg:=rp (a:=a) hb;generalize hG:((bK a b):Int)=g at *;have one:bK q1 q2=1:=gone hg (by rwa [<-h1,<-h2]);(have q20:q2≠0:=by rintro rfl;simp at h2;exact hb h2);by_cases hn:b<0;rw[QY hn] at hj;subst hj;(have e1:a=-g*-q1:=by rwa [zT]);(have e2:b=-g*-q2:=by rwa [zT]);(have f1:a.fdiv (-g)=-q1:=by(conv=>lhs;rw[e1]);exact lZ _ Β);(have f2:b.fdiv (-g)=-q2:=by(conv=>lhs;rw[e2]);exact lZ _ Β);(have q2n:q2<0:=by rcases gR q2 0 with z | z;exact z;have:=jr (cy hg) z;lia);refine#[Β,?_,by lia,?_,?_];rw[h2,kj,Int.natAbs_neg];exact qY _ Β;rwa [f1,f2,Int.gcd_neg,Int.neg_gcd];rw[f1,f2,h2,h1,Int.neg_mul,wc,eE g q1,ee,ud];rw[QX hn] at hj;subst hj;(have f1:a.fdiv j=q1:=by(conv=>lhs;rw[h1]);exact lZ _ (by exact di hg));(have f2:b.fdiv j=q2:=by(conv=>lhs;rw[h2]);exact lZ _ (by exact di hg));(have q2p:0<q2:=by rcases gR 0 q2 with z | z;exact z;have:=jr (cy hg) (show 0<=-q2 by simp_all);rw[wc] at this;lia);refine#[by exact di hg,?_,by rwa [f2],?_,?_];rw[h2,kj];exact qY _ Β;rwa [f1,f2];rw[f1,f2,h2,h1];simp[eE,ud,ee]
theorem BL (h:bK n d=1)(k:d∣n*b):d∣b:=by(have k':d.natAbs∣n.natAbs*b.natAbs:=by rw[<-kj];simp_all);(have c:Nat.Coprime d.natAbs n.natAbs:=by show uD _ _=1;rwa [Nat.gcd_comm]);exact pF.mp (c.dvd_of_dvd_mul_left k')
theorem uQ (h:bK n d=1)(e:n*b=a*d):d∣b/\n∣a:=#[BL h #[a,by grind],BL (by rwa [l9]) #[b,by grind]]
theorem BM (h:bK n d=1)(hb:b≠0)(e:n*b=a*d):n.natAbs<=a.natAbs/\d.natAbs<=b.natAbs:=by obtain⟨h1,h2⟩:=uQ h e;refine#[?_,AP Β (pF.mpr h1)];by_cases ha:a=0;(.subst ha;rw[km] at e;rcases Int.mul_eq_zero.mp e with z | z;all_goals lia);exact AP Β (pF.mpr h2)
theorem uR (h1:bK n x=1)(h2:bK n y=1):bK n (x*y)=1:=by show uD _ _=1;rw[kj];exact Nat.Coprime.mul_right h1 h2
theorem uS (h:bK n x=1)(h1:m∣n)(h2:y∣x):bK m y=1:=(Nat.Coprime.coprime_dvd_left (pF.mpr h1) h).coprime_dvd_right (pF.mpr h2)
theorem BN (h:bK t x=1)(hu:x∣u):bK (t+u) x=1:=Β
theorem IJ (hb:1<=b)(hd:1<=d)(h1:bK a b=1)(h2:bK c d=1){g t e:Int}(hg:g=(bK b d))(ht:t=a*(d.fdiv g)+c*(b.fdiv g))(he:e=(bK t g)) :g≠0/\g.natAbs<=d.natAbs/\g.natAbs<=b.natAbs/\e≠0/\e.natAbs<=g.natAbs/\1<=b.fdiv g*d.fdiv e/\bK (t.fdiv e) (b.fdiv g*d.fdiv e)=1/\t.fdiv e*(b*d)=(a*d+c*b)*(b.fdiv g*d.fdiv e):=by obtain⟨b',d',e1,e2⟩:=xq b d;(have gp:0<g:=by rw[hg];exact rp (by exact di hd));rw[<-hg] at e1 e2;have one:bK b' d'=1:=gone gp (by rw[<-e1,<-e2];exact hg.symm);(have f1:b.fdiv g=b':=by(conv=>lhs;rw[e1]);exact lZ _ (by exact di gp));(have f2:d.fdiv g=d':=by(conv=>lhs;rw[e2]);exact lZ _ (by exact di gp));rw[f1,f2] at ht;obtain⟨t',g',e3,e4⟩:=xq t g;(have ep:0<e:=by rw[he];exact rp (by exact di gp));rw[<-he] at e3 e4;(have f3:t.fdiv e=t':=by(conv=>lhs;rw[e3]);exact lZ _ (by exact di ep));(have e5:d=e*(g'*d'):=by have:=e2;rw[this,<-ee,<-e4]);(have f4:d.fdiv e=g'*d':=by(conv=>lhs;rw[e5]);exact lZ _ (by exact di ep));(have pos:∀{x y z:Int},x=y*z->1<=x->0<y->1<=z:=λ{x y z} h hx hy=>by rcases gR 0 z with q | q;assumption;have:=jr (cy hy) (show 0<=-z by simp[*]);rw[wc] at this;lia);have bp:=pos e1 hb gp;have dp:=pos e2 hd gp;have gp':=pos e4 (by assumption) ep;(have tb:bK t b'=1:=by rw[ht];refine BN ?_ #[c,eE _ _];rw[l9];exact uR (by rw[l9];exact uS h1 (iP _) #[g,by rwa [eE]]) one);(have td:bK t d'=1:=by rw[ht,Int.add_comm];refine BN ?_ #[a,eE _ _];rw[l9];exact uR (by rw[l9];exact uS h2 (iP _) #[g,by rwa [eE]]) (by rwa [l9]));have tt:t'∣t:=#[e,by rwa [eE]];refine#[by exact di gp,?_,?_,by exact di ep,?_,?_,?_,?_];rw[e2,kj];exact qY _ (by lia);rw[e1,kj];exact qY _ (by lia);rw[e4,kj];exact qY _ (by lia);rw[f1,f4];have h1:0<g'*d':=kU (by assumption) (by assumption);have:=kU (show 0<b' by assumption) h1;assumption;rw[f1,f3,f4];exact uR (uS tb tt (iP _)) (uR (gone ep (by rw[<-e3,<-e4];exact he.symm)) (uS td tt (iP _)));rw[f1,f3,f4];(have k1:a*d+c*b=g*t:=by rw[ht,e1,e2,qP];congr 1<;>simp[eE,ud,ee]);rw[k1];(have k2:t'*(b*d)=t'*(g*b'*(e*(g'*d'))):=by rw[<-e5];conv=>lhs;rw[e1]);rw[k2];(conv=>rhs;rw[e3]);simp[eE,ud,ee]
theorem xr {a g:Int}(hg:0<g):(a.fdiv g).natAbs<=a.natAbs:=by rw[v7 _ (cy hg)];rcases gR a 0 with h | h;(have h1:a<=a/g:=by rw[zO hg];have:=Int.mul_le_mul_of_nonpos_left (cy h) (show 1<=g by assumption);simp_all);have h2:=Int.ediv_neg_of_neg_of_pos h hg;lia;have h1:=v9 g h;grind[wa,cy]
open PySem NAL NAL.EX
theorem BO (hg:0<=g)(hl:0<l):bK l (g%l)=bK g l:=by obtain⟨a,rfl⟩:=l6 hg;obtain⟨b,rfl⟩:=l6 (cy hl);show uD b (a%b)=uD a b;grind[Nat.gcd_comm,Nat.gcd_rec]
theorem BP (a b:Int):bK (if a<0 then-a else a) (if b<0 then-b else b)=bK a b:=by by_cases h1:a<0<;>by_cases h2:b<0<;>simp[h1,h2,Int.gcd_neg,Int.neg_gcd]
theorem uT (a:Int):0<=(if a<0 then-a else a):=by lia
theorem BQ (hg:0<=g):((bK g 0):Int)=g:=by rw[Int.gcd_zero_right];lia
theorem _root_.NAL.EX.Bd.mul (hx:Bd m x)(hy:Bd n y):Bd (m+n) (x*y):=by show(x*y).natAbs<2^(m+n);rw[kj,wR];exact Nat.mul_lt_mul'' hx hy
theorem _root_.NAL.EX.Bd.add (hx:Bd m x)(hy:Bd n y)(h1:m<k)(h2:n<k):Bd k (x+y):=by show(x+y).natAbs<2^k;have a':x.natAbs<2^(k-1):=hx.le (NAG.gl30 h1);have b':y.natAbs<2^(k-1):=hy.le (NAG.gl30 h2);(have e:2^k=2^(k-1)+2^(k-1):=by(have:k=(k-1)+1:=by lia);lia);grind[zS]
theorem _root_.NAL.EX.Bd.of_le (hy:Bd m y)(h:x.natAbs<=y.natAbs):Bd m x:=k6 h hy
theorem uU {b j:Int}(hb:Bd 9000 b)(h:j.natAbs<=b.natAbs)(h0:j≠0):j.natAbs.log2<9000:=HZ (hb.of_le h) (bE _) h0
noncomputable def qs (ps:xac):xag:=ps.foldl (λs p=>(s.1*p.2+p.1*s.2,s.2*p.2)) (0,1)
def Yh (p:xag):Prop:=1<=p.2/\bK p.1 p.2=1
theorem take_snoc {l:List α}{x:α}(h:l[i]?=se x):l.take (i+1)=l.take i++[x]:=by grind[zZ]
noncomputable def dNats (l:xaf):PyData:=.list (l.map λ(n:Nat)=>.int (n:Int))
section
end
theorem getD_at {l:xae}(h:i<l.length):l[i]?=se (l.getD i 0):=Β
theorem _root_.NAP.aY.weakT (B:NAP.aY N ac d row ar P aa aq)(h:∀a k b,Q a k->NAP.WW N a k b->P a k):NAP.aY N ac d row ar Q aa aq :=#[B.len,B.old,B.new,B.beh,λa k b q t g=>B.cl a k b (h a k b q t) t g]
theorem _root_.NAP.unr_set:∀{l:xae} {i:Nat} {x v:Int},l[i]?=se x->x<0->0<=v->NAP.unr (l.set i v)+1=NAP.unr l| [],_,_,_,h,_,_=>by trivial| y::r,0,x,v,h,h1,h2=>by simp at h;subst h;unfold NAP.unr;(have:¬v<0:=Β);rw[uq,uv,uv];simp[*]| y::r,i+1,x,v,h,h1,h2=>by have ih:=NAP.unr_set (l:=r) (i:=i) (x:=x) (v:=v) (by assumption) h1 h2;unfold NAP.unr at ih ⊢;rw[pL,uv,uv];lia
theorem _root_.NAP.unr_len (l:xae):NAP.unr l<=l.length:=List.countP_le_length
theorem rq (h:e<aa.length):aa[e]?=se (NAP.Lv aa e):=by grind[NAP.Lv,aT,gU]
theorem mJ (h:0<=NAP.Lv aa e):e<aa.length:=by grind[Nat.lt_or_ge,NAP.Lv,gU,fh]
noncomputable def goB (N:NAP.UN) (ac:xae) (e k:Nat):Bool:=decide (e<N.G)||decide (0<ac.getD k 0)
theorem xt (hk:k<ac.length):goB N ac e k=tj↔NAP.Go N ac e k:=by unfold goB NAP.Go;simp[*]
noncomputable def Wp (N:NAP.UN) (ab:xae) (e:Nat):Bool:=decide (N.G<=e)&&decide (0<ab.getD e 0)
theorem p9 (he:e<ab.length):Wp N ab e=tj↔NAP.Sq N ab e:=by unfold Wp NAP.Sq;simp[*]
noncomputable def rest (N:NAP.UN) (ab:xae):xaf:=(aR N.G).filter λg=>decide (0<ab.getD g 0)
section
def Found (N:NAP.UN)(ac ab aa:xae):Prop:=∃(d:Nat) (row:xaf),NAP.Rows N ac ab d row aa/\(row=[]\/∃e∈row,NAP.Sq N ab e)
noncomputable def YD (N:NAP.UN) (ac aa:xae) (e k b:Nat):Bool:=decide (NAP.Lv aa b=NAP.Lv aa e+1)&&goB N ac e k
end
theorem xu (W:N.WF)(t:NAP.WW N e k b):e<N.nE/\b<N.nE/\k<N.ends.length:=by obtain⟨p,hp,q⟩:=t;have h1:=W.lo k p hp;grind
theorem BR (W:N.WF)(t:NAP.WW N e k b)(hl:ac.length=N.ends.length):YD N ac aa e k b=tj↔NAP.WY N ac aa e k b:=by unfold YD NAP.WY;rw[cI,decide_eq_true_eq,xt (by rw[hl];exact(xu W t).2.2)];lia
theorem xw (W:N.WF)(hl:N.bI[e]?=se l)(hk:k∈l):∃b,NAP.WW N e k b:=by obtain⟨p,hp,hpe⟩:=(W.mem e l k hl).mp hk;rcases hpe with z | z;exact#[p.2,p,hp,.inl #[z,rfl]];exact#[p.1,p,hp,.inr #[z,rfl]]
theorem WD:g∈rest N ab↔g<N.G/\0<ab.getD g 0:=by unfold rest;simp_all
theorem BS:(rest N ab).length<=N.G:=by refine bW (eF _ _) ?_;simp
theorem IK (W:N.WF)(hl:aa.length=N.nE)(hp:ab.length=N.nE)(h:∀e,NAP.Lv aa e=if e∈rest N ab then 0 else-1):NAP.Rows N ac ab 0 (rest N ab) aa:=by have hg:=W.gle;(have two:∀e,(e∈rest N ab/\NAP.Lv aa e=0)\/(e∉rest N ab/\NAP.Lv aa e=-1):=λe=>by grind);refine#[#[hl,λe he=>?_,λg x hg' hx h0=>?_,λe he=>?_],λe=>?_,λe=>?_,λa k b t g h1 h2=>?_,λe h1 h2=>?_];rcases two e with ⟨a,b⟩ | ⟨a,b⟩;obtain⟨a1,a2⟩:=WD.mp a;grind;simp_all;have:=WD.mpr #[hg',by rw[getD_at (NAG.gl37 hg' hp hg)] at hx;cases hx;exact h0];simp_all;all_goals grind
theorem BU:∀{n:Nat} {l:xaf},l.Nodup->(∀x∈l,x<n)->l.length<=n| 0,[],_,_=>bE _| 0,x::l,_,h=>absurd (h x aO) (k7 _)| n+1,l,hn,h=>by(have h1:(l.filter λx=>decide (x<n)).length<=n:=BU (hn.filter _) λx hx=>Β);(have h2:l.length<=(l.filter λx=>decide (x<n)).length+l.count n:=by clear h1;induction l with| nil=>simp| cons x l ih =>have hx:=h x aO;have:=ih (eG.mp hn).2 λy hy=>h y (a7 _ hy);rw[jH,wN];by_cases c:x<n;(have c2:¬(x==n)=tj:=by simp;exact cF c);simp only[c,decide_true,if_true,fm,c2];simp;lia;(have c2:x=n:=by lia);subst c2;simp;exact qZ this);have h3:=wv.mp hn n;lia
section
def Way (N:NAP.UN)(ac ab aa:xae)(g:Nat)(ah:xae)(way:xaf):Prop:=(way=[]/\NAP.XX N ab ah g)\/(way≠[]/\∃(es:xaf) (f:Nat),NAP.Vu N aa ac es way/\es[0]?=se g/\es[way.length]?=se f/\NAP.Sq N ab f)
end
theorem IL (a:Int)(ac:xae)(l:xaf)(k:Nat):NAP.Tc a ac (l++[k])=(NAP.Tc a ac l).set k ((NAP.Tc a ac l).getD k 0+a):=by unfold NAP.Tc;rw[wJ];rfl
section
end
theorem uV:∀b (l:List α),(NAP.U1 b l).length<=l.length| true,[]=>bE _| false,[]=>bE _| true,x::r=>by have:=uV ff r;exact qZ this| false,x::r=>by have:=uV tj r;exact oj this
section
end
theorem tr0 {N:NAP.UN}(W:N.WF):NAP.Tr N (bf N.nE 0):=#[by rw[n6],λe l t _ h=>by rw[mj] at h;split at h;cases h;constructor<;>lia;cases h]
theorem IM:NAP.Ww N ac ab aa (bf N.nE 0):=λe l j k t _ _ h hj=>by rw[mj] at h;split at h;cases h;trivial;cases h
theorem IN:(rest N ab).Nodup:=List.Pairwise.filter _ uw
theorem IP {l:xaf}(h:l.Nodup)(hg:l[i]?=se g):g∉l.take i:=λhm=>by obtain⟨j,hj⟩:=bz hm;(have hji:j<i:=by grind);rw[qT hji] at hj;have hi:=(aQ.mp hg).1;have ki:=(aQ.mp hj).1;(have e:l[j]=l[i]:=Β);exact qS.mp h j i ki hi hji e
section
noncomputable def SJ (aa:xae):List Bool:=aa.map λs=>decide (0<=s)
end
theorem xy (n e:Nat)(f:Nat->α)(v:α):((aR n).map f).set e v=(aR n).map λx=>if x=e then v else f x:=by apply i7;grind
theorem oy (f:Nat->α)(h:e<n):((aR n).map f)[e]?=se (f e):=Β
theorem BV:∀{ends:xad} {ac:xae} {p:Nat×Nat} {s:Int} {e:Nat},ac.length=ends.length->NAP.load (ends++[p]) (ac++[s]) e=NAP.load ends ac e+[Δ,NAP.Ym p e,s]| [],[],p,s,e,_=>by simp[NAP.load]| [],_::_,_,_,_,h=>by trivial| _::_,[],_,_,_,h=>by trivial| q::r,x::y,p,s,e,h=>by have ih:=BV (p:=p) (s:=s) (e:=e) (by exact kz h);simp only[oa,NAP.load,ih];lia
noncomputable def Sm (G:Nat) (ai:xad):xad:=ai.map λp=>(p.1,G+p.2)
noncomputable def Xk (ends:xad) (i e:Nat):xaf:=(aR i).filter λk=>NAP.Ym (ends.getD k (0,0)) e
theorem IQ (ends:xad)(i e:Nat):Xk ends (i+1) e=Xk ends i e++(if NAP.Ym (ends.getD i (0,0)) e then[i]else[]):=by unfold Xk;rw[og,mn];rw[jH,Aw]
noncomputable def Xv (aZ:xae) (ends:xad) (ss:xae) (i e:Nat):Int:=aZ.getD e 0-NAP.load (ends.take i) (ss.take i) e
noncomputable def Su (G T:Nat) (ai:xad):NAP.UN:=NAP.WK G T ai ((aR (G+T)).map (Xk (Sm G ai) ai.length))
theorem xz (h:∀p∈ai,p.1<G/\p.2<T):(Su G T ai).WF:=by(have look:∀(k:Nat) p,(Sm G ai)[k]?=se p->∃q,ai[k]?=se q/\p=(q.1,G+q.2):=λk p hp=>by unfold Sm at hp;grind);refine#[ku _ _,by show((aR (G+T)).map _).length=G+T;simp,λk p hp=>?_,λe l k hl=>?_];obtain⟨q,h1,rfl⟩:=look k p hp;obtain⟨a,b⟩:=h q (aK h1);refine#[a,?_,?_];show G<=G+q.2;simp_all;show G+q.2<G+T;simp_all;have lU:((aR (G+T)).map (Xk (Sm G ai) ai.length))[e]?=se l:=hl;rw[oy _ (by grind)] at lU;cases lU;unfold Xk;rw[bi,dy];constructor;rintro⟨h1,h2⟩;(have hk:(Sm G ai)[k]?=se ((Sm G ai).getD k (0,0)):=by grind[Sm,bn,aT,gU]);exact#[_,hk,by grind[NAP.Ym]];rintro⟨p,hp,hq⟩;have dJ:(Sm G ai)[k]?=se p:=hp;grind[Sm,bn,gU,NAP.Ym]
section
end
theorem range_getD (l:xae):(aR l.length).map (λe=>l.getD e 0)=l:=by apply i7;intro i;rw[bo];by_cases h:i<l.length;rw[ko h,getD_at h];rfl;rw[fh Β,fh Β];rfl
section
end
section
end
theorem BW:∀ends n e,NAP.load ends (bf n 0) e=0| [],n,e=>by cases n<;>rfl| p::r,0,e=>rfl| p::r,n+1,e=>by rw[n9];simp only[NAP.load,BW r n e];simp
theorem IS (hl:ss.length=ai.length)(hn:∀(k:Nat) s,ss[k]?=se s->0<=s)(hs:∀e<gs.length+ts.length,0<=Xv (gs++ts) (Sm gs.length ai) ss ai.length e) :NAP.Flow (Su gs.length ts.length ai) (gs++ts) ss ((aR (gs.length+ts.length)).map (Xv (gs++ts) (Sm gs.length ai) ss ai.length)):=by(have pj:(Sm gs.length ai).length=ai.length:=by unfold Sm;rw[bn]);refine#[by show ss.length=(ai.map _).length;simp_all,by show _=gs.length+ts.length;simp,by show _=gs.length+ts.length;simp,hn,λe c s hc h=>?_,λe s h=>?_];rw[oy _ (by simpa using (aQ.mp h).1)] at h;cases h;unfold Xv;rw[dP Β,dP Β];rw[show(gs++ts).getD e 0=c by simp_all];rfl;grind
theorem xC {a b:List α}{d:α}(h:i<a.length):(a++b).getD i d=a.getD i d:=by grind
theorem xD {a b:List α}{d:α}:(a++b).getD (a.length+i) d=b.getD i d:=by simp[gU,fW (ku _ _)]
section
end
noncomputable def p1 (gv:List Bool):List Bool->xad->List Bool| tk,p::ps=>p1 gv (if gv.getD p.1 ff=tj then tk.set p.2 tj else tk) ps| tk,[]=>tk
section
end
theorem BX (h:e<aa.length):(SJ aa).getD e ff=NAP.nr aa e:=by grind[SJ,NAP.nr,NAP.Lv,gU,bo,aT]
section
end
theorem BY:∀(ends:xad) (ss:xae) (e:Nat),(∀(k:Nat) s,ss[k]?=se s->0<=s)->0<=NAP.load ends ss e| [],ss,e,_=>by simp[NAP.load]| p::ps,[],e,_=>by simp[NAP.load]| p::ps,s::ss,e,h=>by have ih:=BY ps ss e λk x hx=>h (k+1) x (by assumption);have h0:=h 0 s rfl;simp only[NAP.load];split<;>lia
section
end
end NAM
namespace NAL
open PySem PySem.Spec PyProof.Rows
section
end
section
end
section
end
section
end
section
end
section
end
section
end
section
end
section
end
section
end
section
end
section
end
section
end
section
end
section
end
section
end
section
end
section
end
section
end
section
end
section
end
section
end
section
end
section
end
section
variable {κ:Type}[DecidableEq κ]
end
section
end
section
end
section
end
section
end
section
end
section
end
section
end
section
end
section
end
end NAL
namespace NAA
open PySem PySem.W PySem.Calls PyProof.Rows
section
end
end NAA
namespace NAL
open PySem PySem.Spec PyProof.Rows
section
end
section
end
section
variable {κ:Type}[DecidableEq κ]
end
end NAL
namespace PySem
theorem IT:typeLookup (.type "list") "keys"=pure none:=by kernel_rfl
theorem BZ:entryFor table "dict.update.loop"=se Builtin.«dict.update.loop»:=entryFor_of_tree (by kernel_rfl)
theorem uW:plainId "dict.update.loop"=tj:=by decide +kernel
section
variable {prog:Rh}{w:RK}{A:Rg}{E:Value->Q4->Prop}{s:Q4}
theorem getAttr?_keys_list (hx:s.heap.get? a=se { cls:=.type "list",data:=.seq xs k})(hA:A.handled=ng) (h:∀h' tk,(∀b ob,s.heap.get? b=se ob->h'.get? b=se ob)->Q ng { s with heap:=h',toks:=tk}) :Rd (Rf prog w) A (getAttr? (.ref a) "keys") Q E s:=by obtain⟨hp,g,d,tk,os⟩:=s;have hT:∀bv,(#[hp,g,d,bv,os]:Q4).TypeIs (.ref a) "list":=λ_=>#[_,hx,rfl];have f1:=sub_AttributeError;have f3:=F.slot_list_getattribute.lookup;have f4:=F.slot_list_getattribute.bind (.ref a);have f5:=am_list_getattr_none;unfold getAttr? getAttrBy? getAttrBy;(repeat(any_goals(first |assumption|exact hT _|((with_reducible show Rd _ _ (call (Value.builtin "list.__getattribute__") _ _) _ _ _);refine TB F.slot_list_getattribute (hT _) am_entry_list_getattribute (F.args_list_getattribute_2 _ _) (meets_getattribute_miss_list a xs k _ "keys" _ IT (by decide +kernel) (by decide +kernel)) #[hx,hA,λh' bv e gQ=>?_])|wp_step)));obtain⟨t',u',he⟩:=gQ.there;show Rd _ _ (T5 _ _ _ _ _ _ _) _ _ _;unfold T5;(repeat(any_goals(first |assumption|wp_step)));exact h h' bv gQ.keeps
end
section
variable {prog:Rh}{w:RK}{K:Type}[DecidableEq K] {knd:KeyKind prog w K}
def xE (knd:KeyKind prog w K)(h:Rs)(items:Array Value)(ps:List (K×Value)):Prop :=items.size=ps.length/\∀(j:Nat) p,ps[j]?=se p->∃t bD,items[j]?=se (.ref t)/\h.IsTuple t ([bD,p.2].toArray)/\knd.is p.1 bD=tj
noncomputable def putAll (dN:List (K×Value)) (ps:List (K×Value)):List (K×Value):=ps.foldl (λacc p=>UB acc p.1 p.2) dN
theorem IU (dN:List (K×Value))(k:K)(v:Value):(UB dN k v).length<=dN.length+1:=by grind[UB]
structure DIt (knd:KeyKind prog w K)(d it:Q5)(fp:Q5->Prop)(ps:List (K×Value))(J:Nat->Rs->Prop):Prop where
 nd:¬fp d
 keep:∀{i h h'},J i h->(∀c o,c≠d->h.get? c=se o->h'.get? c=se o)->J i h'
 item:∀{i:Nat} {p A} {s:Q4} {Q E},A.handled=ng->ps[i]?=se p->J i s.heap->(∀h' t ot n bD,J (i+1) h'->h'.get? t=se ot->ot.cls=.type "tuple"->ot.data=.seq ([bD,p.2].toArray) n->knd.is p.1 bD=tj->(∀c o,¬fp c->s.heap.get? c=se o->h'.get? c=se o)->Q (se (.ref t)) { s with heap:=h'})->Rd (Rf prog w) A (pyNext (.ref it)) Q E s
 stop:∀{A} {s:Q4} {Q E},A.handled=ng->J ps.length s.heap->(∀h',(∀c o,¬fp c->s.heap.get? c=se o->h'.get? c=se o)->Q ng { s with heap:=h'})->Rd (Rf prog w) A (pyNext (.ref it)) Q E s
theorem IV {J:Nat->Rs->Prop}{ps:List (K×Value)}(D:DIt knd d it fp ps J)(n:Nat) :∀i dN,ps.length-i=n->i<=ps.length->dN.length+ps.length<=sizeLine+i->∀A R (s:Q4),A.handled=ng->J i s.heap->s.heap.DictOf knd d dN->(∀h' tk,h'.DictOf knd d (putAll dN (ps.drop i))->(∀c o,¬fp c->c≠d->s.heap.get? c=se o->h'.get? c=se o)->R (.ok (.ret .none)) { s with heap:=h',toks:=tk})->Rd (Rf prog w) A.in1 (Builtin.«dict.update.loop» #[[.ref d,.ref it,VI i,.none],[]]) (λfin s'=>match fin with| .done f=>R (.ok f) s'| .again c'=>c'.quiet=tj/\U6 (Rf prog w) A c' R s') (λe s'=>R (.error e) s') s:=by have gone:∀{h h':Rs} {dN},(∀c o,¬fp c->h.get? c=se o->h'.get? c=se o)->h.DictOf knd d dN->h'.DictOf knd d dN:=λk #[o,es,ep,ho,r]=>#[o,es,ep,k d o D.nd ho,r];induction n with| zero =>(intro i dN hn hi hz A R s hA st hd hR;unfold Builtin.«dict.update.loop»;(have e:i=ps.length:=by lia);subst e;refine Q3 (D.stop (show A.in1.handled=ng from hA) st λh' kk=>?_);refine Q3 (wpAny_of_eq (by first |rfl |(unfold Builtin.Dict.addKeywords;rfl)) (Q8 ?_));rw[List.drop_of_length_le (bE _)] at hR;exact hR h' s.toks (gone kk hd) λc o hc _ ho=>kk c o hc ho)| succ n ih =>intro i dN hn hi hz A R s hA st hd hR;unfold Builtin.«dict.update.loop»;obtain⟨r,hr⟩:∃r,ps[i]?=se r:=#[_,aT (by lia)];refine Q3 (D.item (show A.in1.handled=ng from hA) hr st λh' t ot m bD gJ g1 g2 g3 g4 kk=>?_);refine Q3 (Tg (Q3 (wpAny_tryCatch ?_)));unfold Builtin.Dict.pairItems;refine Q3 (wpAny_typeOf #[_,g1,g2] ?_);rw[QY (by decide)];refine Q3 (Tv g1 g3 (Q8 ?_));show Rd _ _ (holding [bD,r.2] (dictSet d bD r.2)) _ _ _;have dZ:=IU dN r.1 r.2;refine Tg (wpAny_dictSet_pairs g4 (gone kk hd) (λh3 hd3 sb=>?_) (by lia));have k3:∀c o,c≠d->h'.get? c=se o->h3.get? c=se o:=λc o hc ho=>(sb.2 c hc).trans ho;refine Q8 #[plainId_quiet uW _,TX BZ ?_];rw[Around.under_plainId uW _,show(i+1)=((i+1):Int) by push_cast;rfl];refine ih (i+1) (UB dN r.1 r.2) (by lia) (by lia) (by lia) A R _ hA (D.keep gJ k3) hd3 λh5 tk hd5 k5=>?_;rw[show putAll dN (ps.drop i)=putAll (UB dN r.1 r.2) (ps.drop (i+1)) by obtain⟨y1,y2⟩:=aQ.mp hr;rw[ui y1,y2];rfl] at hR;exact hR h5 tk hd5 λc o hc hd ho=>k5 c o hc hd (k3 c o hd (kk c o hc ho))
theorem B6 {a:Q5}{T:String}{o:Sr}{ps:List (K×Value)}{fp:Q5->Prop}(hA:A.handled=ng)(ho:s.heap.get? a=se o)(hc:o.cls=.type T)(hz:ps.length<=sizeLine) (hT:(Value.type T !=.type "dict")=tj) (hk:∀{A} {s:Q4} {Q E},s.heap.get? a=se o->A.handled=ng->(∀h' tk,(∀b ob,s.heap.get? b=se ob->h'.get? b=se ob)->Q ng { s with heap:=h',toks:=tk})->Rd (Rf prog w) A (getAttr? (.ref a) "keys") Q E s) (hi:∀{A Q E} (s2:Q4),(∀c o,s.heap.get? c=se o->s2.heap.get? c=se o)->s.heap.objs.size<s2.heap.objs.size->(∀it h3 J,DIt knd s.heap.objs.size it fp ps J->J 0 h3->(∀c o,s2.heap.get? c=se o->h3.get? c=se o)->Q (.ref it) { s2 with heap:=h3})->Rd (Rf prog w) A (pyIter (.ref a)) Q E s2) (h:∀h' tk,h'.DictOf knd s.heap.objs.size (putAll [] ps)->(∀c o,¬fp c->s.heap.get? c=se o->h'.get? c=se o)->Q (.ref s.heap.objs.size) { s with heap:=h',toks:=tk}) :Rd (Rf prog w) A (call (.type "dict") [.ref a]) Q E s:=by refine callType_codes (Q₁:=λobj s₁=>obj=.ref s.heap.objs.size/\s₁={ s with heap:=s.heap.push { cls:=.type "dict",data:=.dict ([].toArray)}}) F.kt_called_dict (F.kt_typeCall_dict_1 _) F.entry_dict_init (kt_code_dict_new _ #[rfl,rfl]) ?_;rintro obj s₁ ⟨rfl,rfl⟩;have pq:(s.heap.push { cls:=.type "dict",data:=.dict ([].toArray)}).DictOf knd s.heap.objs.size []:=Heap.DictOf.new s.heap;refine#[pq.typeIs,F.args_dict_init_2 _ _,?_];unfold Builtin.«dict.__init__»;refine Q3 ?_;unfold Builtin.Dict.selfAndRest;refine Q3 (wpAny_notOrdered_dict pq.typeIs ?_);show Rd _ _ (pure (s.heap.objs.size,[Value.ref a])) _ _ _;refine Q8 ?_;show Rd _ _ (Builtin.Dict.updateFrom "dict.__init__" s.heap.objs.size (.ref a) [] .none) _ _ _;unfold Builtin.Dict.updateFrom;have k1:∀c o,s.heap.get? c=se o->(s.heap.push { cls:=.type "dict",data:=.dict ([].toArray)}).get? c=se o:=λc o ho=>Heap.get?_push_of_some _ ho;refine Q3 (wpAny_typeOf #[_,k1 _ _ ho,hc] ?_);rw[QY hT];refine Q3 (hk (k1 _ _ ho) hA λh2 tk2 k2=>?_);rw[QY (show none.isNone=tj from rfl)];obtain⟨od,es,ep,hod,r⟩:=pq;refine Q3 (wpAny_rule (Q3 (hi _ (λc o ho=>k2 _ _ (k1 _ _ ho)) (Heap.lt_size (k2 _ _ hod)) λit h3 J D j0 k3=>?_)));refine Q8 #[plainId_quiet uW _,TX BZ ?_];rw[Around.under_plainId uW _];exact IV D _ 0 [] rfl (iT _) Β A.in1 _ _ hA j0 #[od,es,ep,k3 _ _ (k2 _ _ hod),r] λh4 tk hd4 k4=>#[rfl,h h4 tk hd4 λc o hc ho=>k4 c o hc (cF (Heap.lt_size ho)) (k3 _ _ (k2 _ _ (k1 _ _ ho)))]
theorem IX (hA:A.handled=ng)(hl:s.heap.get? l=se { cls:=.type "list",data:=.seq items n})(hp:xE knd s.heap items ps)(hz:items.size<=sizeLine) (h:∀h' tk,h'.DictOf knd s.heap.objs.size (putAll [] ps)->(∀b o,s.heap.get? b=se o->h'.get? b=se o)->Q (.ref s.heap.objs.size) { s with heap:=h',toks:=tk}) :Rd (Rf prog w) A (call (.type "dict") [.ref l]) Q E s:=by refine B6 (fp:=λc=>s.heap.objs.size<c) hA hl rfl (hp.1▸hz) Γ getAttr?_keys_list (λs2 k lt hQ=>?_) λh' tk hd k=>h h' tk hd λc o ho=>k c o (Nat.lt_asymm (Heap.lt_size ho)) ho;have P:xE knd s2.heap items ps:=#[hp.1,λj p hj=>let #[t,bD,g1,g2,g3]:=hp.2 j p hj;#[t,bD,g1,g2.at λo ho=>k _ _ ho,g3]];have isl:s2.heap.IsList l items:=#[_,k _ _ hl,rfl,n,rfl];refine R5 isl (hQ s2.heap.objs.size _ (λi h=>h.IsListIter s2.heap.objs.size l i/\h.IsList l items/\xE knd h items ps/\(∀(j:Nat) t,items[j]?=se (.ref t)->t≠s.heap.objs.size/\t≠s2.heap.objs.size)) #[om _,?_,?_,?_] #[#[_,Heap.get?_push_size _ rfl,rfl,rfl],isl.at λo ho=>Heap.get?_push_of_some _ ho,#[P.1,λj p hj=>let #[t,bD,g1,g2,g3]:=P.2 j p hj;#[t,bD,g1,g2.at λo ho=>Heap.get?_push_of_some _ ho,g3]],?_] λc o ho=>Heap.get?_push_of_some _ ho);intro i h h'#[a,b,c,e]kk;exact#[a.at λo ho=>kk _ _ (eD lt) ho,b.at λo ho=>kk _ _ (cF (Heap.lt_size hl)) ho,#[c.1,λj p hj=>let #[t,bD,g1,g2,g3]:=c.2 j p hj;#[t,bD,g1,g2.at λo ho=>kk _ _ (e j t g1).1 ho,g3]],e];intro i p A s Q E hA hr#[a,b,c,e]hQ;obtain⟨t,bD,g1,⟨ot,hot,hct,m,hdt⟩,g3⟩:=c.2 i p hr;refine Uj a b g1 λh' a' sb=>?_;have kk:∀c o,c≠s2.heap.objs.size->s.heap.get? c=se o->h'.get? c=se o:=λc o hc ho=>(sb.2 c hc).trans ho;exact hQ h' t ot m bD #[a',b.at λo ho=>kk _ _ (cF (uC (Heap.lt_size hl) lt)) ho,#[c.1,λj p hj=>let #[t,bD,g1,g2,g3]:=c.2 j p hj;#[t,bD,g1,g2.at λo ho=>kk _ _ (e j t g1).2 ho,g3]],e] (kk _ _ (e i t g1).2 hot) hct hdt g3 λc o hc ho=>kk c o (λz=>hc (z▸lt)) ho;intro A s Q E hA#[a,b,c,e]hQ;exact Ux hA a b (by rw[<-c.1];simp) λh' eb=>hQ h' λc o hc ho=>eb c o (λz=>hc (z▸lt)) ho;intro j t hj;obtain⟨t',bD,g1,⟨o,ho,_⟩,_⟩:=hp.2 j _ (aT (show j<ps.length by rw[<-hp.1];exact(Array.getElem?_eq_some_iff.mp hj).1));rw[hj] at g1;cases g1;have:=Heap.lt_size ho;exact#[cF this,cF (uC this lt)]
end
end PySem
namespace NAL.EX
open PySem PySem.Spec PyProof.Rows
section
theorem hu1 (hr:Sq k A):A.units+1<cLine:=by have:=w7 hr;lia
end
section
end
section
end
end NAL.EX
namespace NAM
open PySem NAL NAL.EX
theorem uX {l:xaf}(h:l.Nodup)(he:l[e]?=se a):l.idxOf a=e:=by grind
noncomputable def placeOf (ag:xaf) (h:Nat):Option Nat:=if h∈ag then se (ag.idxOf h)else ng
noncomputable def UI (ag:xaf) (g:Nat) (row:xaf):xad:=row.filterMap λh=>(placeOf ag h).map λp=>(g,p)
noncomputable def TY (aF:xab) (ag ad:xaf):Nat->xad| 0=>[]| i+1=>TY aF ag ad i++UI ag i (aF.getD (ad.getD i 0) [])
noncomputable def RV (aF:xab) (ag ad:xaf):xad:=TY aF ag ad ad.length
theorem xF (hp:placeOf ag h=se p):ag[p]?=se h:=by unfold placeOf at hp;split at hp;rename_i c;cases hp;have:=fV c;rw[aT this];simp;cases hp
theorem place_of (hd:ag.Nodup)(hp:ag[p]?=se h):placeOf ag h=se p:=by unfold placeOf;grind
theorem B7 (hd:ag.Nodup):(a,b)∈UI ag g row↔a=g/\∃h,ag[b]?=se h/\h∈row:=by unfold UI;rw[wD];constructor;rintro⟨h,hr,e⟩;(cases q:placeOf ag h with| none=>simp_all| some p =>rw[q] at e;cases e;exact#[rfl,h,xF q,hr]);rintro⟨rfl,h,hb,hr⟩;exact#[h,hr,by rw[place_of hd hb];rfl]
theorem B8 (hd:ag.Nodup):∀{i:Nat},(a,b)∈TY aF ag ad i↔a<i/\∃h,ag[b]?=se h/\h∈aF.getD (ad.getD a 0) []:=by intro i;induction i with| zero =>simp[TY]| succ i ih =>rw[TY,c8,ih,B7 hd];grind
theorem jN (hd:ag.Nodup):NAP.ZN (λc=>aF.getD c []) ag ad (RV aF ag ad):=λg t=>by grind[RV,B8,NAP.TD,NAP.Sb]
theorem B9 (ag:xaf)(g:Nat)(row:xaf):(UI ag g row).length<=row.length:=List.length_filterMap_le _ _
noncomputable def Zg (aF:xab):PyData:=.list (aF.map dNats)
theorem IY {aF:xab}(h:∀r∈aF,r.length<=20)(k:Nat):(aF.getD k []).length<=20:=by grind
theorem rr (h:∀r∈aF,r.length<=20):∀i,(TY aF ag ad i).length<=i*20| 0=>by exact ku ..| i+1=>by have a:=rr (ag:=ag) (ad:=ad) h i;grind[B9,IY,TY,dW]
noncomputable def Ul (ws:xae) (ad:xaf):Int:=(ad.map λc=>ws.getD c 0).sum
noncomputable def Rx (ws:xae) (ag ad:xaf):xae:=ad.map λc=>ws.getD c 0*(ag.length:Int)
noncomputable def takesIn (ws:xae) (ag ad:xaf):xae:=bf ag.length (Ul ws ad)
noncomputable def Xh {α:Type} (xs:List α) (bs:List Bool) (w:Bool):List α:=((xs.zip bs).filter λp=>p.2==w).map (·.1)
theorem IZ {xs:List α}{bs:List Bool}(h1:xs[i]?=se x)(h2:bs[i]?=se b):Xh (xs.take (i+1)) (bs.take (i+1)) w=Xh (xs.take i) (bs.take i) w++(if b=w then[x]else[]):=by unfold Xh;(have e1:(xs.take i).length=(bs.take i).length:=by have:=(aQ.mp h1).1;have:=(aQ.mp h2).1;rw[i8,i8];exact NAG.gl34 (by assumption) this);rw[take_snoc h1,take_snoc h2,mB e1,mn,cV];by_cases c:b=w<;>simp[c]
theorem Cd (hb:∀x∈ws,Bd 300 x):∀{ad:xaf},ad.length<=20->(∀c∈ad,c<ws.length)->Bd (300+ad.length) (Ul ws ad)| [],_,_=>by show(0:Int).natAbs<_;trivial| c::cs,hl,h=>by have ih:=Cd hb (ad:=cs) (by exact eI hl) λx hx=>h x (a7 _ hx);have b1:=hb _ (aK (getD_at (h c aO)));(have e:Ul ws (c::cs)=ws.getD c 0+Ul ws cs:=by rfl);rw[e];grind[fm,Bd.add]
noncomputable def Sg (ws:xae) (c:Nat):Int:=if c<ws.length then ws.getD c 0 else 1
noncomputable def So (aF:xab) (c:Nat):xaf:=aF.getD c []
structure DoOk (ws:xae)(aF:xab)(ae:Nat):Prop where
 few:ae<=20
 some:∀c<ws.length,So aF c≠[]
 lt:∀c<ws.length,∀h∈So aF c,h<ae
theorem ru (h:∀x∈ws,1<=x)(c:Nat):0<Sg ws c:=by unfold Sg;split;rename_i hc;have:=h _ (aK (getD_at hc));assumption;decide
theorem Ce (hl:xs.length=bs.length)(h:∀(i x:Nat),xs[i]?=se x->bs[i]?=se (f x)):Xh xs bs tj=xs.filter f/\Xh xs bs ff=xs.filter λx=>! f x:=by(have bD:∀i w,i<=xs.length->Xh (xs.take i) (bs.take i) w=(xs.take i).filter λx=>f x==w:=by intro i w;induction i with| zero=>simp[Xh]| succ i ih =>intro hi;have hx:xs[i]?=se xs[i]:=aT (by lia);rw[IZ hx (h i _ hx),ih (by exact eI hi),take_snoc hx,mn];grind);have k1:=bD xs.length tj (bE _);have k2:=bD xs.length ff (bE _);rw[dP (bE _),dP (by lia)] at k1 k2;simp[*]
theorem oz {l:xaf}(h:l.Pairwise (· < ·)):l.Nodup:=h.imp λh=>cF h
section
variable {ws:xae}{aF:xab}{c:NAP.Cr}{ac ab aa:xae}
theorem I3 (hh:c.1.Pairwise (· < ·))(hc:c.2.Pairwise (· < ·))(hi:∀x∈c.2,x<ws.length) (D:NAP.Uw (Su (Rx ws c.1 c.2).length (takesIn ws c.1 c.2).length (RV aF c.1 c.2)) (Rx ws c.1 c.2++takesIn ws c.1 c.2) ac ab aa) :∃nc nh:Nat->Bool,NAP.ZY (Sg ws) (So aF) c.1 c.2 c.1.length (NAP.Uy (Sg ws) c) nc nh/\(∀(i x:Nat),c.2[i]?=se x->((SJ aa).take (Rx ws c.1 c.2).length)[i]?=se (nc x))/\(∀(i x:Nat),c.1[i]?=se x->((SJ aa).drop (Rx ws c.1 c.2).length)[i]?=se (nh x)):=by(have gl:(Rx ws c.1 c.2).length=c.2.length:=by unfold Rx;simp);(have tl:(takesIn ws c.1 c.2).length=c.1.length:=by unfold takesIn;simp);rw[gl,tl] at D;rw[gl];have n1:=oz hh;have n2:=oz hc;have ll:aa.length=c.2.length+c.1.length:=D.st.len;(have nl:(SJ aa).length=c.2.length+c.1.length:=by unfold SJ;rw[bn];exact ll);(have ew:∀x∈c.2,ws.getD x 0=Sg ws x:=λx hx=>by unfold Sg;rw[QY (hi x hx)]);(have o8:Ul ws c.2=NAP.Uy (Sg ws) c:=by unfold Ul NAP.Uy;rw[cz ew]);(have eg:Rx ws c.1 c.2++takesIn ws c.1 c.2=c.2.map (λx=>Sg ws x*(c.1.length:Int))++bf c.1.length (NAP.Uy (Sg ws) c):=by unfold Rx takesIn;rw[o8];congr 1;exact cz λx hx=>by rw[ew x hx]);rw[eg] at D;have tR:NAP.ZN (So aF) c.1 c.2 (RV aF c.1 c.2):=jN n1;(have hb:∀p∈RV aF c.1 c.2,p.1<c.2.length/\p.2<c.1.length:=λp hp=>by obtain⟨g,t⟩:=p;obtain⟨x,h,g1,g2,_⟩:=(tR g t).mp hp;exact#[(aQ.mp g1).1,(aQ.mp g2).1]);refine#[λx=>NAP.nr aa (c.2.idxOf x),λh=>NAP.nr aa (c.2.length+c.1.idxOf h),?_,λi x hx=>?_,λi x hx=>?_];refine NAP.cut_of (ai:=RV aF c.1 c.2) tR (xz hb) D (λi x hx=>by rw[uX n2 hx]) (λi x hx=>by rw[uX n1 hx]) ?_;(have e1:(c.1.map λ_=>NAP.Uy (Sg ws) c).sum=(c.1.length:Int)*NAP.Uy (Sg ws) c:=by generalize NAP.Uy (Sg ws) c=W;induction c.1 with| nil=>simp| cons a r ih=>simp[ih];rw[kW];lia);rw[e1];unfold NAP.Uy;rw[NAP.V8];congr 1;exact cz λx _=>eE _ _;have lH:=(aQ.mp hx).1;show _=se (NAP.nr aa (c.2.idxOf x));rw[wF,QY lH,uX n2 hx];have e:=BX (aa:=aa) (e:=i) (by lia);rw[<-e,aT (by lia)];simp[gU,aT (show i<(SJ aa).length by lia)];have lH:=(aQ.mp hx).1;show _=se (NAP.nr aa (c.2.length+c.1.idxOf x));rw[ur,uX n1 hx];have e:=BX (aa:=aa) (e:=c.2.length+i) (by lia);rw[<-e,aT (by lia)];simp[gU,aT (show c.2.length+i<(SJ aa).length by lia)]
end
def rx (ws:xae)(aF:xab)(c:NAP.Cr):Prop:=NAP.Hi (Sg ws) (So aF) c (NAP.Uy (Sg ws) c) c.1.length
theorem I4 (C:NAP.ZY (Sg ws) (So aF) c.1 c.2 c.1.length (NAP.Uy (Sg ws) c) nc nh)(hn:∀h∈c.1,nh h=ff)(own:∀x∈c.2,∃h∈c.1,h∈So aF x):rx ws aF c:=by have h:=C.hi_rest;(have e:NAP.aX c nc nh=c:=by unfold NAP.aX;(have e2:(c.2.filter λx=>! nc x)=c.2:=wy.mpr λx hx=>by obtain⟨h,h1,h2⟩:=own x hx;cases q:nc x with| false=>rfl| true =>have:=C.up x hx h h1 h2 q;simp_all);rw[wy.mpr λh hh=>Β,e2]);rwa [e] at h
theorem I8 (D:DoOk ws aF ae)(h0:0<ae):NAP.Vr (Sg ws) (So aF) ae ws.length [(aR ae,aR ws.length)]:=by refine#[λi x y hx hy=>?_,λc hc=>?_,λc hc x hx=>?_,λi c hc x hx h hh=>?_,λh=>?_,λx=>?_,λc hc=>?_,λc hc=>?_];trivial;intro e;simp_all;rw[cT.mp hc] at hx ⊢;have gQ:=dy.mp hx;obtain⟨h,r,e⟩:=uh (D.some x gQ);(have hm:h∈So aF x:=by rw[e];exact aO);exact#[h,dy.mpr (D.lt x gQ h hm),hm];have hi:=(aQ.mp hc).1;simp at hi;subst hi;simp at hc;subst hc;have gQ:=dy.mp hx;exact#[0,_,bE _,rfl,dy.mpr (D.lt x gQ h hh)];simp_all;simp_all;rw[cT.mp hc];exact Ab;rw[cT.mp hc];exact Ab
section
end
noncomputable def YC (U:List NAP.Cr):Nat:=(U.map λc=>2*c.1.length-1).sum
theorem Cf:∀{l:xaf} {k n:Nat},l.Pairwise (· < ·)->(∀x∈l,k<=x)->(∀x∈l,x<n)->l≠[]->k+l.length<=n| [],_,_,_,_,_,h=>absurd rfl h| x::r,k,n,h,hk,hn,_=>by rw[ut] at h;have h1:=hk x aO;have h2:=hn x aO;by_cases c:r=[];subst c;exact k6 h1 h2;have ih:=Cf (k:=k+1) h.2 (λy hy=>by have:=h.1 y hy;lia) (λy hy=>hn y (a7 _ hy)) c;rw[fm];lia
theorem kD {l:xaf}(h:l.Pairwise (· < ·))(hb:∀x∈l,x<n):l.length<=n:=by by_cases c:l=[];subst c;simp;have:=Cf h (λ_ _=>iT _) hb c;simp_all
theorem I9 {l:xaf}(hn:l.Nodup)(hb:∀x∈l,x<n):l.length<=n:=by have p:(l.mergeSort (λa b=>decide (a<=b))).Perm l:=List.mergeSort_perm l _;(have rs:(l.mergeSort (λa b=>decide (a<=b))).Pairwise (· < ·):=((List.pairwise_mergeSort (λa b c h1 h2=>by lia) (λa b=>by lia) l).and (p.nodup_iff.mpr hn)).imp λh=>by lia);have:=kD rs λx hx=>hb x (p.mem_iff.mp hx);simp_all
theorem Cg (C:NAP.Vr (Sg ws) (So aF) ae ad L)(hm:ae<=20:=by assumption):L.length<=20:=by(have bD:∀(L:List NAP.Cr),(∀c∈L,c.1≠[])->L.length<=(L.map λc=>c.1.length).sum:=by intro L;induction L with| nil=>trivial| cons c r ih =>intro h;have a:=ih λd hd=>h d (a7 _ hd);have b:=fj.mpr (h c aO);simp;lia);have a:=bD L C.ne;(have Uy:∀(L:List NAP.Cr),(∀h,(L.map λc=>c.1.count h).sum<=[Δ,h<ae,1])->(L.map λc=>c.1.length).sum<=ae:=by intro L hL;(have e:(L.map λc=>c.1.length).sum=(L.flatMap λc=>c.1).length:=by rw[List.length_flatMap]);rw[e];(have cnt:∀h,(L.flatMap λc=>c.1).count h=(L.map λc=>c.1.count h).sum:=λh=>by rw[wG];rfl);(have nd:=wv.mpr λh=>by rw[cnt];have:=hL h;lia);(have lt:∀h∈L.flatMap λc=>c.1,h<ae:=λh hh=>by have p:=wH.mpr hh;rw[cnt] at p;have:=hL h;lia);exact I9 nd lt);(have b:=Uy L λh=>by rw[C.hs h];simp_all);lia
theorem Ja:∀{l:xaf} {x:Nat},x∈l->x<=l.sum:=by intro r;induction r with| nil =>rintro _ h;cases h| cons y r ih =>rintro x h;rw[bL];rcases bj.mp h with rfl | h;simp_all;have:=ih h;lia
structure Xu (ws:xae)(L:List NAP.Cr)(ps:xac):Prop where
 len:ps.length=L.length
 at_:∀(i:Nat) c p,L[i]?=se c->ps[i]?=se p->Yh p/\p.1*(c.1.length:Int)=NAP.Uy (Sg ws) c*p.2
structure V0 (ws:xae)(aF:xab)(ae:Nat)(L:List NAP.Cr):Prop where
 none:ae=0->L=[]
 cr:0<ae->NAP.Vr (Sg ws) (So aF) ae ws.length L
 rst:∀c∈L,rx ws aF c
theorem V0.lt (C:V0 ws aF ae L)(hc:c∈L):(∀h∈c.1,h<ae)/\(∀x∈c.2,x<ws.length)/\c.1≠[]/\c.1.Pairwise (· < ·)/\c.2.Pairwise (· < ·):=by(have h0:0<ae:=by rcases pU ae with z | z;rw[C.none z] at hc;cases hc;exact z);have K:=C.cr h0;(have one:∀(f:NAP.Cr->Nat),f c<=(L.map f).sum:=λf=>by have:f c∈L.map f:=aU.mpr #[c,hc,rfl];exact Ja this);refine#[λh hh=>?_,λx hx=>?_,K.ne c hc,K.hr c hc,K.cr c hc];have a:=one λc=>c.1.count h;rw[K.hs h] at a;grind;have a:=one λc=>c.2.count x;rw[K.cs x] at a;grind
theorem V0.few (C:V0 ws aF ae L)(hm:ae<=20):L.length<=20:=by rcases pU ae with z | z;rw[C.none z];simp;exact Cg (C.cr z) hm
structure Wo (ae:Nat)(L:List NAP.Cr)(ps qs:xac):Prop where
 len:qs.length=ae
 at_:∀(i:Nat) c p,L[i]?=se c->ps[i]?=se p->∀h∈c.1,qs[h]?=se p
def WX (n ae:Nat)(aF:xab):Prop:=aF.length=n/\∀r∈aF,r≠[]/\r.Pairwise (· < ·)/\∀h∈r,h<ae
theorem WX.doOk (h:WX n ae aF)(hw:ws.length=n)(hm:ae<=20):DoOk ws aF ae:=by(have look:∀c<ws.length,So aF c∈aF:=λc hc=>by(have o7:c<aF.length:=by rw[h.1];simp_all);grind[So,gU,aT,jI]);exact#[hm,λc hc=>(h.2 _ (look c hc)).1,λc hc=>(h.2 _ (look c hc)).2.2]
section
variable {ws:xae}{aF:xab}{ae:Nat}{L:List NAP.Cr}{ps:xac}
theorem Jb (hg:bK n d=1)(h:n*k=t*d):d∣k:=by(have hg':Nat.Coprime d.natAbs n.natAbs:=by grind[bK,l9]);(have h2:d.natAbs∣n.natAbs*k.natAbs:=by rw[<-kj];simp_all);exact pF.mp (hg'.dvd_of_dvd_mul_left h2)
theorem Jc (hp:∀x∈ws,1<=x)(c:NAP.Cr):0<=NAP.Uy (Sg ws) c:=by refine NAP.Ys λi x hx=>?_;obtain⟨y,_,rfl⟩:=aU.mp (aK hx);exact cy (ru hp y)
theorem Xu.part (lo:Xu ws L ps)(co:V0 ws aF ae L)(hm:ae<=20)(hp:∀x∈ws,1<=x)(hb:∀x∈ws,Bd 300 x)(hw:ws.length<=20){i:Nat}(hc:L[i]?=se c)(hi:ps[i]?=se p):Yh p/\0<=p.1/\p.2<=20/\Bd 400 p.1:=by obtain⟨fS,e⟩:=lo.at_ i c p hc hi;obtain⟨l1,l2,ne,r1,r2⟩:=co.lt (aK hc);have ax:=fj.mpr ne;have cl:=kD r1 l1;have ka:=kD r2 l2;have d1:=fS.1;have d20:=zV Β (Jb fS.2 e);(have n0:0<=p.1:=by rcases gR p.1 0 with z | z;have a:p.1*c.1.length<0:=Int.mul_neg_of_neg_of_pos z Β;have b:0<=NAP.Uy (Sg ws) c*p.2:=jr (Jc hp c) (by exact cy d1);lia;exact z);(have o8:Ul ws c.2=NAP.Uy (Sg ws) c:=by unfold Ul NAP.Uy;rw[cz λx hx=>?_];unfold Sg;simp_all);have wb:=(Cd hb (by exact bW ka hw) l2).le (show 300+c.2.length<=320 by lia);rw[o8] at wb;have b2:Bd 325 (NAP.Uy (Sg ws) c*p.2):=Bd.mul (n:=5) wb (by show _<_;lia);refine#[fS,n0,by lia,(b2.le Γ).of_le ?_];rw[<-e];(have:=by have:=ub (show(1:Int)<=c.1.length by exact i6 d1 d20) n0;lia);lia
theorem Xu.falls (lo:Xu ws L ps)(co:V0 ws aF ae L)(hp:∀x∈ws,1<=x)(hc:L[i]?=se c)(hd:L[i+1]?=se d)(h1:ps[i]?=se p)(h2:ps[i+1]?=se q):q.1*p.2<p.1*q.2:=by(have h0:0<ae:=by rcases pU ae with z | z;rw[co.none z] at hc;simp at hc;exact z);obtain⟨lp,ep⟩:=lo.at_ i c p hc h1;obtain⟨lq,eq⟩:=lo.at_ (i+1) d q hd h2;have p2:=lp.1;have q2:=lq.1;have m:0<p.2*q.2:=kU (by assumption) (by assumption);have a:=nX (NAP.Vr.fall (ru hp) (co.cr h0) hc hd) m;(have e1:NAP.Uy (Sg ws) d*c.1.length*(p.2*q.2)=(q.1*p.2)*(c.1.length*d.1.length):=by grind);(have e2:NAP.Uy (Sg ws) c*d.1.length*(p.2*q.2)=(p.1*q.2)*(c.1.length*d.1.length):=by grind);rw[e1,e2] at a;exact pE a (jr Β Β)
noncomputable def W1 (L:List NAP.Cr) (i:Nat):xaf:=(L.take i).flatMap (·.1)
noncomputable def WV (L:List NAP.Cr) (i:Nat):xaf:=(L.take i).flatMap (·.2)
theorem uY (co:V0 ws aF ae L)(h0:0<ae):(W1 L L.length).Perm (aR ae):=by rw[Ak];intro h;unfold W1;rw[dP (bE _),wG,As];exact(co.cr h0).hs h
theorem xG (co:V0 ws aF ae L)(h0:0<ae):(WV L L.length).Perm (aR ws.length):=by rw[Ak];intro h;unfold WV;rw[dP (bE _),wG,As];exact(co.cr h0).cs h
end
def QOk (qs:xac):Prop:=∀q∈qs,1<=q.2/\q.2<=20/\0<=q.1/\Bd 400 q.1
end NAM
namespace NAP
theorem uZ (f:α->xaf)(g:Nat->Int):∀L:List α,((L.flatMap f).map g).sum=(L.map λc=>((f c).map g).sum).sum:=by intro r;induction r with| nil =>exact rfl| cons c r ih =>rw[Ao,cV,jJ,be,bL,ih]
theorem u0 {l m:xaf}(g:Nat->Int)(h:l.Perm m):(l.map g).sum=(m.map g).sum:=by induction h with| nil=>rfl| cons x _ ih=>rw[be,be,bL,bL,ih]| swap x y l=>simp only[be,bL];lia| trans _ _ a b=>exact a.trans b
theorem WZ {f g:α->Int}:∀{l:List α},(∀x∈l,f x<=g x)->(l.map f).sum<=(l.map g).sum:=by intro r;induction r with| nil =>rintro _;exact dw _| cons x r ih =>rintro h;rw[be,be,bL,bL];have a:=h x aO;have b:=ih λy hy=>h y (a7 x hy);exact NAG.gl40 a b
theorem WB (f:α->Int)(k:Int):∀l:List α,(l.map f).sum*k=(l.map λx=>f x*k).sum:=by intro r;induction r with| nil =>simp| cons x r ih =>rw[be,be,bL,bL,kW,ih]
theorem sum_eqI {f g:α->Int}:∀{l:List α},(∀x∈l,f x<=g x)->(l.map g).sum<=(l.map f).sum->∀x∈l,f x=g x:=by intro r;induction r with| nil =>rintro _ _ x hx;cases hx| cons y r ih =>rintro h k x hx;rw[be,be,bL,bL] at k;have a:=h y aO;have b:=WZ λz hz=>h z (a7 y hz);rcases bj.mp hx with rfl | hx;lia;exact ih (λz hz=>h z (a7 y hz)) (NAG.gl65 k a) x hx
noncomputable def SH (ae:Nat) (T:Nat->Bool) (x:Nat->Int):Int:=((aR ae).map λh=>[Δ,T h,x h]).sum
noncomputable def IW (wk:Nat->Int) (dr:Nat->xaf) (ad:Nat) (T:Nat->Bool):Int:=((aR ad).map λk=>[Δ,(dr k).all T,wk k]).sum
structure Z8 (wk:Nat->Int)(dr:Nat->xaf)(ae ad:Nat)(M:Int)(L:List Cr)(x:Nat->Int):Prop where
 hp:(L.flatMap (·.1)).Perm (aR ae)
 cp:(L.flatMap (·.2)).Perm (aR ad)
 hi:∀c∈L,Hi wk dr c (Uy wk c) c.1.length
 ne:∀c∈L,c.1≠[]
 eq:∀c∈L,∀h∈c.1,x h*c.1.length=Uy wk c*M
 up:∀(i:Nat) c,L[i]?=se c->∀k∈c.2,∀h∈dr k,∃(j:Nat) (d:Cr),j<=i/\L[j]?=se d/\h∈d.1
 fall:∀(i:Nat) c d,L[i]?=se c->L[i+1]?=se d->∀h∈c.1,∀g∈d.1,x g<x h
 wp:∀k,0<wk k
 mp:0<M
section
variable {wk:Nat->Int}{dr:Nat->xaf}{ae ad:Nat}{M:Int}{L:List Cr}{x:Nat->Int}
theorem Z8.len (S:Z8 wk dr ae ad M L x)(hc:c∈L):(0:Int)<c.1.length:=by have:=fj.mpr (S.ne c hc);simp_all
theorem Z8.same (S:Z8 wk dr ae ad M L x)(hc:c∈L)(hh:h∈c.1)(hg:g∈c.1):x h=x g:=by have a:=S.eq c hc h hh;have b:=S.eq c hc g hg;grind[kS]
theorem Z8.borne (S:Z8 wk dr ae ad M L x)(T:Nat->Bool):IW wk dr ad T*M<=SH ae T x:=by unfold IW SH;rw[<-u0 _ S.cp,<-u0 _ S.hp,uZ,uZ,WB];refine WZ λc hc=>?_;have hn:=S.len hc;obtain⟨h0,r0,e0⟩:=uh (S.ne c hc);(have m0:h0∈c.1:=by rw[e0];exact aO);have ex:=S.eq c hc h0 m0;(have one:(c.2.map λk=>[Δ,(dr k).all T,wk k]).sum<=Wa wk dr c T:=by unfold Wa;refine WZ λk hk=>?_;have wpk:=S.wp k;by_cases a:(dr k).all T=tj;(have b:(c.1.all λh=>(!(dr k).contains h||T h))=tj:=iQ.mpr λh hh=>by cases q:(dr k).contains h with| false=>rfl| true =>have:=iQ.mp a h (kn.mp q);rw[this];rfl);rw[QY a,QY b];exact dw _;rw[QX a];split<;>lia);(have two:(c.1.map λh=>[Δ,T h,x h]).sum=x h0*cnt c T:=by unfold cnt;rw[V8];congr 1;refine cz λh hh=>?_;rw[S.same hc hh m0];split<;>simp);rw[two];have thr:=S.hi c hc T;refine i6 (lY one (by have:=S.mp;exact cy this)) ?_;refine v8 (a:=(c.1.length:Int)) ?_ hn;(have e1:x h0*cnt c T*(c.1.length:Int)=Uy wk c*cnt c T*M:=by rw[l7,ex,l7]);rw[e1,l7,eE (Wa wk dr c T) _];exact lY thr (by have:=S.mp;exact cy this)
theorem Z8.falls (S:Z8 wk dr ae ad M L x):∀(n i:Nat) {c d:Cr},L[i]?=se c->L[i+n]?=se d->∀h∈c.1,∀g∈d.1,x g<=x h| 0,i,c,d,hc,hd,h,hh,g,hg=>by rw[Nat.add_zero,hc] at hd;cases hd;have:=S.same (aK hc) hh hg;simp_all| n+1,i,c,d,hc,hd,h,hh,g,hg=>by have eO:=(aQ.mp hd).1;have he:L[i+n]?=se (L[i+n]'(by exact eI eO)):=aT (by exact eI eO);obtain⟨g0,r0,e0⟩:=uh (S.ne _ (aK he));(have m0:g0∈(L[i+n]'(by exact eI eO)).1:=Β);have a:=S.falls n i hc he h hh g0 m0;have b:=S.fall (i+n) _ _ he hd g0 m0 g hg;lia
theorem Z8.tight (S:Z8 wk dr ae ad M L x)(v:Int):SH ae (λh=>decide (v<=x h)) x<=IW wk dr ad (λh=>decide (v<=x h))*M:=by unfold IW SH;rw[<-u0 _ S.cp,<-u0 _ S.hp,uZ,uZ,WB];refine WZ λc hc=>?_;obtain⟨i,hi⟩:=bz hc;obtain⟨h0,r0,e0⟩:=uh (S.ne c hc);(have m0:h0∈c.1:=Β);by_cases q:v<=x h0;(have one:(c.1.map λh=>[Δ,decide (v<=x h)=tj,x h]).sum=x h0*c.1.length:=by(have:(c.1.map λh=>[Δ,decide (v<=x h)=tj,x h])=c.1.map λ_=>x h0*1:=cz λh hh=>by rw[S.same hc hh m0,QY (QZ q),Int.mul_one]);rw[this,<-V8];congr 1;induction c.1 with| nil=>rfl| cons y r ih=>grind);(have two:(c.2.map λk=>[Δ,(dr k).all (λh=>decide (v<=x h))=tj,wk k]).sum=Uy wk c:=by congr 1;refine cz λk hk=>QY (iQ.mpr λh hh=>QZ ?_);obtain⟨j,d,hj,hd,iz⟩:=S.up i c hi k hk h hh;have:=S.falls (i-j) j hd Β h iz h0 m0;exact NAG.gl66 q this);rw[one,two,S.eq c hc h0 m0];simp_all;(have one:(c.1.map λh=>[Δ,decide (v<=x h)=tj,x h]).sum=0:=by(have:(c.1.map λh=>[Δ,decide (v<=x h)=tj,x h])=c.1.map λ_=>0:=cz λh hh=>by rw[S.same hc hh m0,QX (λz=>q (Q0 z))]);rw[this];induction c.1 with| nil=>rfl| cons y r ih=>simp_all);rw[one];refine jr ?_ (by have:=S.mp;exact cy this);(have:(c.2.map λ_=>0).sum<=(c.2.map λk=>[Δ,(dr k).all (λh=>decide (v<=x h))=tj,wk k]).sum:=WZ λk _=>by have:=S.wp k;lia);(have z:∀l:xaf,(l.map λ_=>(0:Int)).sum=0:=λl=>by induction l with| nil=>rfl| cons y r ih=>simp_all);simp_all
end
end NAP
namespace NAM
open PySem NAL NAL.EX
noncomputable def Yy:xac->Int| []=>1| p::r=>p.2*Yy r
theorem Ch:∀{ps:xac},(∀p∈ps,1<=p.2)->0<Yy ps:=by intro r;induction r with| nil =>rintro _;decide| cons p r ih =>rintro h;have a:=h p aO;exact kU (by assumption) (ih λq hq=>h q (a7 _ hq))
theorem ry:∀{ps:xac} {p:xag},p∈ps->p.2∣Yy ps| q::r,p,h=>by show p.2∣q.2*Yy r;rcases bj.mp h with rfl | h;simp_all;exact pH (ry h) (Int.dvd_mul_left _ _)
theorem Jd (l1:Yh p)(l2:Yh q)(e:p.1*q.2=q.1*p.2):p=q:=by have h1:=l1.1;have h2:=l2.1;have e2:=Int.dvd_antisymm (by exact cy h1) (by exact cy h2) (uQ l1.2 e).1 (uQ l2.2 e.symm).1;grind[kS,Prod.ext]
noncomputable def xOf (qs:xac) (M:Int) (h:Nat):Int:=(qs.getD h (0,1)).1*(M/(qs.getD h (0,1)).2)
theorem xH {qs:xac}(hp:qs[h]?=se p)(hd:p.2∣M):xOf qs M h*p.2=p.1*M:=by grind[xOf,bR,ee,zP]
variable {ws:xae}{aF:xab}{ae:Nat}{L:List NAP.Cr}{ps qs:xac}
theorem oB:(L.take L.length).flatMap f=L.flatMap f:=Β
theorem Wo.of_hand (lk:Wo ae L ps qs)(lo:Xu ws L ps)(co:V0 ws aF ae L)(h0:0<ae)(hh:h<ae):∃(i:Nat) (c:NAP.Cr) (p:xag),L[i]?=se c/\ps[i]?=se p/\h∈c.1/\qs[h]?=se p:=by have hm:=(uY co h0).mem_iff.mpr (dy.mpr hh);unfold W1 at hm;rw[oB] at hm;obtain⟨c,hc,iz⟩:=ju.mp hm;obtain⟨i,hi⟩:=bz hc;have hp:ps[i]?=se (ps[i]'(by rw[lo.len];exact(aQ.mp hi).1)):=aT _;exact#[i,c,_,hi,hp,iz,lk.at_ i c _ hi hp h iz]
theorem Wo.sol (lk:Wo ae L ps qs)(lo:Xu ws L ps)(co:V0 ws aF ae L)(h0:0<ae)(hp:∀x∈ws,1<=x)(hM:0<M)(hd:∀p∈ps,p.2∣M):NAP.Z8 (Sg ws) (So aF) ae ws.length M L (xOf qs M):=by have K:=co.cr h0;(have Xh:∀{i:Nat} {c:NAP.Cr},L[i]?=se c->∃p,ps[i]?=se p/\p.2∣M/\Yh p/\p.1*c.1.length=NAP.Uy (Sg ws) c*p.2/\∀h∈c.1,xOf qs M h*p.2=p.1*M:=λ{i c} hi=>by have hp:ps[i]?=se (ps[i]'(by rw[lo.len];exact(aQ.mp hi).1)):=aT _;have a:=lo.at_ i c _ hi hp;have d:=hd _ (aK hp);exact#[_,hp,d,a.1,a.2,λh hh=>xH (lk.at_ i c _ hi hp h hh) d]);refine#[by have:=uY co h0;unfold W1 at this;rwa [oB] at this,by have:=xG co h0;unfold WV at this;rwa [oB] at this,λc hc=>co.rst c hc,K.ne,λc hc h hh=>?_,K.up,λi c d hc ke h hh g hg=>?_,λk=>ru hp k,hM];obtain⟨i,hi⟩:=bz hc;obtain⟨p,_,_,fS,e,ex⟩:=Xh hi;refine kS (by have:=fS.1;exact di this) ?_;rw[l7,ex h hh,l7,e,l7];obtain⟨p,hp1,_,fS,_,ex⟩:=Xh hc;obtain⟨q,hq1,_,low',_,ey⟩:=Xh ke;have l1:=fS.1;have l2:=low'.1;have pos:0<p.2*q.2:=kU (by assumption) (by assumption);refine pE (a:=p.2*q.2) ?_ (by exact cy pos);(have a1:xOf qs M g*(p.2*q.2)=q.1*p.2*M:=by rw[eE p.2 q.2,<-ee,ey g hg,l7]);(have a2:xOf qs M h*(p.2*q.2)=p.1*q.2*M:=by rw[<-ee,ex h hh,l7]);rw[a1,a2];exact nX (lo.falls co hp hc ke hp1 hq1) hM
theorem Wo.qok (lk:Wo ae L ps qs)(lo:Xu ws L ps)(co:V0 ws aF ae L)(h0:0<ae)(hm:ae<=20)(hp:∀x∈ws,1<=x)(hb:∀x∈ws,Bd 300 x)(hw:ws.length<=20):QOk qs/\∀q∈qs,Yh q:=by(have all:∀q∈qs,Yh q/\0<=q.1/\q.2<=20/\Bd 400 q.1:=λq hq=>by obtain⟨h,hh⟩:=bz hq;have hl:=(aQ.mp hh).1;rw[lk.len] at hl;obtain⟨i,c,p,h1,h2,h3,h4⟩:=lk.of_hand lo co h0 hl;rw[hh] at h4;cases h4;exact lo.part co hm hp hb hw h1 h2);exact#[λq hq=>#[(all q hq).1.1,(all q hq).2.2.1,(all q hq).2.1,(all q hq).2.2.2],λq hq=>(all q hq).1]
section
end
end NAM
namespace NAP
theorem Va:∀l:List α,(l.map λ_=>(0:Int)).sum=0:=by intro r;induction r with| nil =>exact rfl| cons x r ih =>rw[be,bL,ih];rfl
section
end
end NAP
namespace NAM
open PySem NAL NAL.EX
section
end
noncomputable def vl (M:Int) (p:xag):Int:=p.1*(M/p.2)
theorem xI (h:p.2∣M):vl M p*p.2=p.1*M:=by unfold vl;rw[ee,zP h]
theorem Je:∀{l:xae},(∀x∈l,0<=x)->0<=l.sum:=by intro r;induction r with| nil =>rintro _;decide| cons x r ih =>rintro h;rw[bL];have:=h x aO;have:=ih λy hy=>h y (a7 _ hy);lia
theorem xJ (f:α->β)(d:α):∀l:List α,((aR l.length).map λh=>f (l.getD h d))=l.map f:=λl=>by refine i7 λh=>?_;grind
theorem u4 (f:Nat->Int):∀n,NAP.upTo f n=((aR n).map f).sum:=by intro n;induction n with| zero =>exact rfl| succ n ih =>rw[og,cV,jJ,NAP.upTo,ih];simp
theorem jO {l:xaf}(h:l.Nodup)(he:l[e]?=se a):l.idxOf a=e:=by grind
theorem Jf (S:Nat->Bool):NAP.bnd (Su gs.length ts.length ai) (gs++ts) S=NAP.upTo (λe=>if S e then 0 else gs.getD e 0) gs.length+NAP.upTo (λj=>[Δ,S (gs.length+j),ts.getD j 0]) ts.length:=by show NAP.upTo (λe=>[Δ,NAP.side (Su gs.length ts.length ai) S e,(gs++ts).getD e 0]) (gs.length+ts.length)=_;rw[NAP.Vd];congr 1;refine NAP.Rb λe he=>?_;have:NAP.side (Su gs.length ts.length ai) S e=! S e:=QY he;grind;refine NAP.Rb λe he=>?_;have:NAP.side (Su gs.length ts.length ai) S (gs.length+e)=S (gs.length+e):=QX (show¬gs.length+e<gs.length from NAG.gl82);rw[this,xD]
theorem Ci:∀{ends:xad} {ss:xae} {k:Nat} {p:Nat×Nat} {s:Int},(∀(k:Nat) s,ss[k]?=se s->0<=s)->ends[k]?=se p->ss[k]?=se s->s<=NAP.load ends ss p.1| [],_,_,_,_,_,h,_=>by simp at h| _::_,[],_,_,_,_,_,h=>by simp at h| q::r,x::y,0,p,s,hn,h1,h2=>by simp at h1 h2;subst h1 h2;have:=BY r y q.1 λk s hs=>hn (k+1) s (by simpa using hs);simp only[NAP.load,NAP.Ym];simp;lia| q::r,x::y,k+1,p,s,hn,h1,h2=>by have ih:=Ci (ends:=r) (ss:=y) (k:=k) (p:=p) (s:=s) (λk s hs=>hn (k+1) s (by simpa using hs)) (by simpa using h1) (by simpa using h2);have:=hn 0 x rfl;simp only[NAP.load];split<;>lia
section
end
end NAM
namespace NAP
structure Ev (own:(Nat->Bool)->Int)(ae:Nat)(x:Nat->Int):Prop where
 borne:∀T,own T<=SH ae T x
 tight:∀v:Int,SH ae (λh=>decide (v<=x h)) x<=own λh=>decide (v<=x h)
section
end
theorem Z8.ev (S:Z8 wk dr ae ad M L x):Ev (λT=>IW wk dr ad T*M) ae x:=#[S.borne,S.tight]
end NAP
namespace NAL.EX
section
open PySem
end
end NAL.EX
namespace NAM
open PySem NAL NAL.EX
noncomputable def ownW (ws:xae) (aF:xab) (M:Int) (T:Nat->Bool):Int:=NAP.IW (Sg ws) (So aF) ws.length T*M
def qb (p:xag):Prop:=Yh p/\0<=p.1/\p.2<=20/\Bd 400 p.1
structure Borns (ws:xae)(aF:xab)(ae:Nat)(qs:xac):Prop where
 len:qs.length=ae
 ok:∀q∈qs,qb q
 ev:∃D:Int,0<D/\(∀q∈qs,q.2∣D)/\∀M:Int,0<M->D∣M->NAP.Ev (ownW ws aF M) ae (xOf qs M)
theorem Jg {ws:xae}{aF:xab}{ae:Nat}{L:List NAP.Cr}{ps qs:xac}(co:V0 ws aF ae L)(lo:Xu ws L ps)(lk:Wo ae L ps qs)(h0:0<ae)(hm:ae<=20)(hp:∀x∈ws,1<=x)(hb:∀x∈ws,Bd 300 x)(hw:ws.length<=20):Borns ws aF ae qs:=by obtain⟨qok,qlow⟩:=lk.qok lo co h0 hm hp hb hw;(have fS:∀p∈ps,1<=p.2:=λp hp=>by obtain⟨i,hi⟩:=bz hp;have lH:=(aQ.mp hi).1;rw[lo.len] at lH;exact(lo.at_ i _ p (aT lH) hi).1.1);refine#[lk.len,λq hq=>#[qlow q hq,(qok q hq).2.2.1,(qok q hq).2.1,(qok q hq).2.2.2],Yy ps,Ch fS,λq hq=>?_,λM hM hd=>?_];obtain⟨h,hh⟩:=bz hq;have hl:=(aQ.mp hh).1;rw[lk.len] at hl;obtain⟨i,c,p,_,h2,_,h4⟩:=lk.of_hand lo co h0 hl;rw[hh] at h4;cases h4;exact ry (aK h2);exact(lk.sol lo co h0 hp hM λp hp=>pH (ry hp) hd).ev
section
variable {ws:xae}
theorem Jh {q q':xag}(hM:0<M)(l1:1<=q.2)(l2:1<=q'.2)(a1:x*q.2=q.1*M)(a2:x'*q'.2=q'.1*M)(h:x<=x'):q.1*q'.2<=q'.1*q.2:=by have pos:0<q.2*q'.2:=kU (by assumption) (by assumption);have:=lY h (show 0<=q.2*q'.2 by exact cy pos);refine v8 ?_ hM;(have c2:q'.1*q.2*M=x'*(q.2*q'.2):=by grind);lia
theorem u5 (h:k<ws.length):Sg ws k=ws.getD k 0:=QY h
end
end NAM
namespace NAL.EX
open PySem PySem.Spec PyProof.Rows
open Builtin Builtin.ObjectAttr
def Ji (a C:Q5)(h:Rs):Prop:=∃o vs,h.get? a=se o/\o.cls=.ref C/\o.data=.fields vs
section
end
section
end
section
end
end NAL.EX
namespace NAL.EX
open PySem PySem.Spec PyProof.Rows
section
end
section
end
section
end
section
end
section
end
section
end
section
end
end NAL.EX
namespace NAL.RX
open PySem PySem.Spec PyProof.Rows NAL.EX
inductive D where
 | non | bl (b:Bool) | int (i:Int) | str (x:Q7) | lst (ds:List D) | tup (ds:List D) | dic (ks:List Ry) (ds:List D) | at (i:Nat) | fn (k:Nat)
inductive TM where
 | ml (ds:List D) | mr (ns:xae) | md (ks:List Ry) (ds:List D) | mi (c:Nat) (ds:List D) | mx (c:Nat) | mf (k:Nat) | no
abbrev TH:=List TM
abbrev R4:=List (Option D)
structure Lam where
 qual:Q7
 params:Arguments
 body:Ru
 scope:U2
structure CT where
 K:bw
 cl:Nat->Q5
 nm:Nat->List Q7
 xc:Nat->Q5
 fa:Nat->Q5
 lm:Nat->Lam
 tb:Nat->Q5
 nl:Nat
section
end
section
end
def eg {α:Type} (l:List α) (n:Nat):Option α:=bT (motive:=λ_=>Nat->Option α) (λ_=>ng) (λv _ ih n=>jL (motive:=λ_=>Option α) (se v) (λm _=>ih m) n) l n
theorem aW:∀(l:List α) n,eg l n=l[n]?| [],n=>by simp[eg]| v::l,0=>rfl| v::l,n+1=>by rw[uj,<-aW l n];rfl
def Yf {α:Type} (l:List α) (n:Nat) (x:α):List α:=bT (motive:=λ_=>Nat->List α) (λ_=>[]) (λv t ih n=>jL (motive:=λ_=>List α) (x::t) (λm _=>v::ih m) n) l n
theorem eW (x:α):∀l n,Yf l n x=l.set n x| [],n=>rfl| v::l,0=>rfl| v::l,n+1=>by rw[pL,<-eW x l n];rfl
def Ze {α:Type} (l m:List α):List α:=bT (motive:=λ_=>List α) m (λv _ ih=>v::ih) l
theorem gN (m:List α):∀l:List α,Ze l m=l++m:=by intro l;induction l with| nil =>exact rfl| cons v l ih =>rw[oa,<-ih];rfl
def Sn {α:Type} (l:List α):Nat:=bT (motive:=λ_=>Nat) 0 (λ_ _ ih=>iU ih) l
theorem aV:∀l:List α,Sn l=l.length:=by intro l;induction l with| nil =>exact rfl| cons v l ih =>rw[fm,<-ih];rfl
def RB {α β:Type} (f:α->Option β) (l:List α):Option (List β):=bT (motive:=λ_=>Option (List β)) (se []) (λv _ ih=>match f v with| some x=>(match ih with| some xs=>se (x::xs)| none=>ng)| none=>ng) l
theorem Rt {f:α->Option β}{v:α}{l:List α}{ys:List β}:RB f (v::l)=se ys↔∃x xs,f v=se x/\RB f l=se xs/\ys=x::xs:=by show(match f v with| some x=>(match RB f l with| some xs=>se (x::xs)| none=>ng)| none=>ng)=se ys↔_;grind
noncomputable def YF:Int->Int->Bool| .ofNat a,.ofNat b=>bH a b| .ofNat _,.negSucc _=>ff| .negSucc _,.ofNat _=>tj| .negSucc a,.negSucc b=>bH b a
theorem gO:∀x y:Int,YF x y=decide (x<y)| .ofNat a,.ofNat b=>by rw[fJ];simp[YF,cD]| .ofNat _,.negSucc _=>by simp[YF];lia| .negSucc _,.ofNat _=>by simp[YF];lia| .negSucc a,.negSucc b=>by rw[fJ];simp[YF,cD];lia
noncomputable def ZD:Int->Int->Bool| .ofNat a,.ofNat b=>bZ a b| .negSucc a,.negSucc b=>bZ a b| _,_=>ff
theorem kE:∀x y:Int,ZD x y=decide (x=y)| .ofNat a,.ofNat b=>by rw[fJ];simp[ZD];lia| .ofNat _,.negSucc _=>by simp[ZD]| .negSucc _,.ofNat _=>by simp[ZD]| .negSucc a,.negSucc b=>by rw[fJ];simp[ZD]
def nEq (x y:xaf):Bool:=bT (motive:=λ_=>xaf->Bool) (λl=>match l with| []=>tj| _=>ff) (λa _ ih l=>match l with| []=>ff| b::l=>bZ a b&&ih l) x y
theorem Cj:∀x y:xaf,nEq x y=decide (x=y)| [],[]=>rfl| [],_::_=>rfl| _::_,[]=>rfl| a::x,b::y=>by show(bZ a b&&nEq x y)=_;rw[Cj x y,fJ];simp
def sEq (x y:Q7):Bool:=nEq x.cps.toList y.cps.toList
theorem mK (x y:Q7):sEq x y=decide (x=y):=by unfold sEq;rw[Cj];congr 1;rw[eq_iff_iff];constructor;cases x;simp_all;simp_all
def ZG {α:Type} (l:List α):Int->Option α| .ofNat k=>eg l k| .negSucc k=>bif bH k (Sn l)then eg l (Sn l-(k+1))else ng
theorem Ck {l:List α}{x:α}(h:ZG l i=se x):∃j,ixN l.length i=se j/\l[j]?=se x:=by cases i with| ofNat k =>(have e:l[k]?=se x:=by rwa [<-aW]);have lt:=(aQ.mp e).1;exact#[k,by unfold ixN;simp_all,e]| negSucc k =>(have h:(bif bH k l.length then eg l (l.length-(k+1))else ng)=se x:=by rwa [<-aV]);cases hb:bH k l.length with| false=>simp_all| true =>rw[hb] at h;(have e:l[l.length-(k+1)]?=se x:=by grind[aW]);have lt:=cD.mp hb;refine#[_,?_,e];unfold ixN;grind
inductive R (α:Type) where
 | ok (a:α) (h:TH) | ex (c:Nat) (h:TH) | no
inductive Fl where
 | nx (ρ:R4) | rt (v:D)
abbrev RE:=R4->TH->R D
abbrev RA:=R4->TH->R (List D)
abbrev RT:=R4->TH->R Bool
abbrev RS:=R4->TH->R Fl
noncomputable def R.bnd {α β:Type} (r:R α) (k:α->TH->R β):R β:=match r with| .ok a h=>k a h| .ex c h=>.ex c h| .no=>.no
def R.sat {α:Type}(r:R α)(P:α->TH->Prop)(E:Nat->TH->Prop):Prop:=match r with| .ok a h=>P a h| .ex c h=>E c h| .no=>False
theorem R.sat.bnd {r:R α}{k:α->TH->R β}{P:β->TH->Prop}(q:(r.bnd k).sat P E):r.sat (λa h=>(k a h).sat P E) E:=by cases r<;>exact q
theorem R.sat.mono {r:R α}{P P':α->TH->Prop}(q:r.sat P E)(f:∀a h,P a h->P' a h):r.sat P' E:=by cases r with| ok a h=>exact f a h q| ex c h=>exact q| no=>exact q
noncomputable def Rz {α:Type} (o:Option α) (k:α->R β):R β:=match o with| some a=>k a| none=>.no
theorem R.sat.o {o:Option α}(q:(Rz o k).sat P E):∃a,o=se a/\(k a).sat P E:=by cases o with| none=>exact q.elim| some a=>exact#[a,rfl,q]
noncomputable def RU {β:Type} (c:Bool) (k:R β):R β:=bif c then k else .no
theorem R.sat.i (q:(RU c k).sat P E):c=tj/\k.sat P E:=by cases c with| false=>exact q.elim| true=>exact#[rfl,q]
section
variable {ρ:R4}
def rV (i:Nat):RE:=fun ρ h=>match eg ρ i with| some (se v)=>.ok v h| _=>.no
end
section
noncomputable def rC (d:D):RE:=λ_ h=>.ok d h
end
section
variable {ρ:R4}{fa fb:RE}
noncomputable def Rp (g:D->D->TH->R D) (fa fb:RE):RE:=fun ρ h=>(fa ρ h).bnd λx h=>(fb ρ h).bnd λy h=>g x y h
end
section
variable {ρ:R4}{fa:RE}
noncomputable def rUn (g:D->TH->R D) (fa:RE):RE:=fun ρ h=>(fa ρ h).bnd λx h=>g x h
end
section
noncomputable def Q6:RA:=λ_ h=>.ok [] h
end
section
variable {ρ:R4}{fa:RE}{f:RA}
noncomputable def Q2 (fa:RE) (f:RA):RA:=fun ρ h=>(fa ρ h).bnd λx h=>(f ρ h).bnd λxs h=>.ok (x::xs) h
end
section
variable {ρ:R4}{f:RA}
noncomputable def RW (g:List D->TH->R D) (f:RA):RE:=fun ρ h=>(f ρ h).bnd λxs h=>g xs h
end
section
variable {ρ:R4}{fa:RE}
noncomputable def Rj (fa:RE):RT:=fun ρ h=>(fa ρ h).bnd λx h=>match x with| .bl b=>.ok b h| _=>.no
end
section
variable {ρ:R4}{fT fU:RT}
noncomputable def WJ (fT fU:RT):RT:=fun ρ h=>(fT ρ h).bnd λb h=>bif b then fU ρ h else .ok ff h
end
section
variable {ρ:R4}{fT fU:RT}
noncomputable def Za (fT fU:RT):RT:=fun ρ h=>(fT ρ h).bnd λb h=>bif b then .ok tj h else fU ρ h
end
section
variable {ρ:R4}{fT:RT}
noncomputable def V6 (fT:RT):RT:=fun ρ h=>(fT ρ h).bnd λb h=>.ok (! b) h
end
section
variable {ρ:R4}{fa fb:RE}{fT:RT}
noncomputable def Z3 (fT:RT) (fa fb:RE):RE:=fun ρ h=>(fT ρ h).bnd λb h=>bif b then fa ρ h else fb ρ h
end
section
variable {ρ:R4}{fa fb:RE}
noncomputable def TP (fa fb:RE):RE:=fun ρ h=>(fa ρ h).bnd λx h=>match x with| .bl b=>bif b then fb ρ h else .ok (.bl ff) h| _=>.no
end
section
variable {ρ:R4}{fa fb:RE}
noncomputable def Y9 (fa fb:RE):RE:=fun ρ h=>(fa ρ h).bnd λx h=>match x with| .bl b=>bif b then .ok (.bl tj) h else fb ρ h| _=>.no
end
section
variable {ρ:R4}{fa:RE}
noncomputable def rNotV (fa:RE):RE:=fun ρ h=>(fa ρ h).bnd λx h=>match x with| .bl b=>.ok (.bl (! b)) h| _=>.no
end
section
variable {ρ:R4}{fs fu:RS}
noncomputable def Ra (fs fu:RS):RS:=fun ρ h=>(fs ρ h).bnd λx h=>match x with| .nx ρ=>fu ρ h| .rt v=>.ok (.rt v) h
end
section
variable {ρ:R4}
noncomputable def Rw:RS:=fun ρ h=>.ok (.nx ρ) h
end
section
variable {ρ:R4}{fa:RE}
noncomputable def Rr (fa:RE):RS:=fun ρ h=>(fa ρ h).bnd λx h=>.ok (.rt x) h
end
section
variable {ρ:R4}{fa:RE}
noncomputable def V1 (fa:RE):RS:=fun ρ h=>(fa ρ h).bnd λ_ h=>.ok (.nx ρ) h
end
section
variable {ρ:R4}{fT:RT}{fs fu:RS}
noncomputable def RN (fT:RT) (fs fu:RS):RS:=fun ρ h=>(fT ρ h).bnd λb h=>bif b then fs ρ h else fu ρ h
end
section
abbrev RG:=D->R4->Option R4
end
section
variable {ρ:R4}
def rN (i:Nat):RG:=λd ρ=>se (Yf ρ i (se d))
end
section
variable {ρ:R4}
@[irreducible] def WH (i j:Nat):RG:=λd ρ=>match d with| .tup [x,y]=>se (Yf (Yf ρ i (se x)) j (se y))| _=>ng
end
section
variable {ρ:R4}
@[irreducible] def rN3 (i j k:Nat):RG:=λd ρ=>match d with| .tup [x,y,z]=>se (Yf (Yf (Yf ρ i (se x)) j (se y)) k (se z))| _=>ng
end
section
variable {ρ:R4}{fa:RE}
noncomputable def Rn (fa:RE) (fg:RG):RS:=fun ρ h=>(fa ρ h).bnd λx h=>Rz (fg x ρ) fun ρ=>.ok (.nx ρ) h
end
def eL (h:TH):D->Option (List D)| .lst ds=>se ds| .at i=>(match eg h i with| some (.ml ds)=>se ds| _=>ng)| _=>ng
def eS (h:TH):D->Option (List D)| .tup ds=>se ds| .lst ds=>se ds| .at i=>(match eg h i with| some (.ml ds)=>se ds| some (.mr ns)=>se (ns.map .int)| _=>ng)| _=>ng
def hn (h:TH):Nat:=Sn h
def hp (h:TH) (o:TM):TH:=Ze h [o]
def hs (h:TH) (i:Nat) (o:TM):TH:=Yf h i o
def mk (m:Bool) (ds:List D) (h:TH):R D:=bif m then .ok (.at (hn h)) (hp h (.ml ds))else .ok (.lst ds) h
section
noncomputable def RQ:D->Bool| .tup _=>tj| _=>ff
end
section
end
section
theorem iV:hs h i t=h.set i t:=eW _ _ _
end
section
def big {α:Type} (l:List α):Bool:=bQ (Sn l) 16777216
end
section
end
section
variable {xs:List V}
def TZ (f:RA):RE:=fun ρ h=>(f ρ h).bnd λxs h=>RU (big xs) (.ok (.tup xs) h)
end
section
variable {xs:List V}
def Sj (m:Bool) (f:RA):RE:=fun ρ h=>(f ρ h).bnd λxs h=>RU (big xs) (mk m xs h)
end
section
variable {x y:D}
noncomputable def gI (p:Int->Int->Bool) (g:Int->Int->D) (x y:D) (h:TH):R D:=match x,y with| .int i,.int j=>RU (p i j) (.ok (g i j) h)| _,_=>.no
end
section
noncomputable def pT (_ _:Int):Bool:=tj
end
section
noncomputable def pMul (i j:Int):Bool:=bH i.natAbs (2^4096)&&bH j.natAbs (2^4096)
end
section
noncomputable def pDiv (_ j:Int):Bool:=! ZD j 0&&bH j.natAbs.log2 9000
end
section
noncomputable def Z6 (_ j:Int):Bool:=YF 0 j
end
section
noncomputable def pPow (i j:Int):Bool:=! YF j 0&&bQ (i.natAbs.log2*j.natAbs+j.natAbs) 100000
end
section
noncomputable abbrev X3:=gI pT λi j=>.int (i-j)
end
section
noncomputable abbrev UO:=gI pDiv λi j=>.int (i.fdiv j)
end
section
noncomputable abbrev Ti:=gI Z6 λi j=>.int (i%j)
end
section
variable {x y:D}
def UP (m:Bool) (x y:D) (h:TH):R D:=match x,y with| .int i,.int j=>.ok (.int (i+j)) h| .str i,.str j=>RU (bQ (Sn i.cps.toList+Sn j.cps.toList) 16777216) (.ok (.str #[#[Ze i.cps.toList j.cps.toList]]) h)| x,y=>Rz (eL h x) λa=>Rz (eL h y) λb=>RU (bQ (Sn a+Sn b) 16777216) (mk m (Ze a b) h)
end
section
theorem Jj (i j:Q7):(#[#[Ze i.cps.toList j.cps.toList]])=i++j:=by rw[gN];show _=(#[i.cps++j.cps]:Q7);simp_all
end
section
variable {d:D}
def eRep (n:Nat) (d:D):List D:=jL (motive:=λ_=>List D) [] (λ_ ih=>d::ih) n
end
section
variable {d:D}
theorem Cm (d:D):∀n,eRep n d=bf n d:=by intro n;induction n with| zero =>exact rfl| succ n ih =>rw[n9,<-ih];rfl
end
section
variable {x:D}
theorem Jk (x:α):∀n:Nat,(bf n [x]).flatten=bf n x| 0=>rfl| n+1=>Β
end
section
variable {d x y:D}
def Uq (m:Bool) (x y:D) (h:TH):R D:=match x,y with| .int i,.int j=>RU (pMul i j) (.ok (.int (i*j)) h)| x,.int (.ofNat n)=>(Rz (eL h x) λl=>match l with| [d]=>RU (bQ n 16777216) (mk m (eRep n d) h)| _=>.no)| _,_=>.no
end
section
theorem Jl (h:pPow i j=tj):0<=j/\(Builtin.Int.intBits i)*j<=2^27:=by unfold pPow at h;rw[cI,gO,kR,decide_eq_false_iff_not] at h;have:=bW (uA _ (intBits_le_iff.mpr (show i.natAbs<_ from Nat.lt_log2_self))) (by rw[wS,Nat.one_mul];exact dz.mp h.2);lia
end
section
noncomputable abbrev gPow:=gI pPow λi j=>.int (i^j.natAbs)
end
section
variable {x:D}
noncomputable def YH (x:D) (h:TH):R D:=match x with| .int i=>.ok (.int (-i)) h| _=>.no
end
section
variable {x y:D}
def nLt (x y:xaf):Bool:=bT (motive:=λ_=>xaf->Bool) (λl=>match l with| []=>ff| _=>tj) (λa _ ih l=>match l with| []=>ff| b::l=>bH a b||(bZ a b&&ih l)) x y
end
section
variable {x y:D}
theorem Cn:∀x y:xaf,nLt x y=decide (x<y)| [],[]=>by simp[nLt]| [],b::y=>by simp[nLt]| a::x,[]=>by simp[nLt]| a::x,b::y=>by show(bH a b||(bZ a b&&nLt x y))=_;rw[Cn x y,fJ,qO,cI,cD,Nat.beq_eq,decide_eq_true_iff,decide_eq_true_iff,List.cons_lt_cons_iff]
end
section
def YY:D->D->TH->R D:=gI pT λi j=>.bl (YF i j)
end
section
def YO:D->D->TH->R D:=gI pT λi j=>.bl (YF j i)
end
section
def gGe:D->D->TH->R D:=gI pT λi j=>.bl (! YF i j)
end
section
variable {x y:D}
def gLe (x y:D) (h:TH):R D:=match x,y with| .int i,.int j=>.ok (.bl (! YF j i)) h| .str i,.str j=>.ok (.bl (! nLt j.cps.toList i.cps.toList)) h| _,_=>.no
end
section
noncomputable def isN:D->Bool| .non=>tj| _=>ff
end
section
variable {x y:D}
noncomputable def gIs (n:Bool) (x y:D) (h:TH):R D:=match y with| .non=>.ok (.bl (n^^isN x)) h| _=>.no
end
theorem jx {f:α->Option β}:∀{l:List α} {m:List β},RB f l=se m->m.length=l.length/\∀(i:Nat) x,l[i]?=se x->∃y,m[i]?=se y/\f x=se y:=by intro l;induction l with| nil =>rintro m e;cases e;exact#[rfl,λi x h=>by simp at h]| cons a l ih =>rintro m e;obtain⟨x,xs,h1,h2,rfl⟩:=Rt.mp e;obtain⟨h3,h4⟩:=ih h2;refine#[by simp[h3],λi y h=>?_];cases i with| zero=>cases h;exact#[x,rfl,h1]| succ i=>obtain⟨z,g1,g2⟩:=h4 i y (by exact h);exact#[z,by exact g1,g2]
noncomputable def Uz {α β:Type} (o:Option α) (k:α->β):Option β:=match o with| some a=>se (k a)| none=>ng
theorem iE (e:Uz o k=se y):∃a,o=se a/\y=k a:=by cases o with| none=>cases e| some a=>cases e;simp_all
def fz (h:TH) (n:Nat) (m:Nat):D->Option D:=jL (motive:=λ_=>D->Option D) (λ_=>ng) (λ_ ih d=>match d with| .lst ds=>Uz (RB ih ds) .lst| .tup ds=>Uz (RB ih ds) .tup| .dic ks ds=>Uz (RB ih ds) (.dic ks)| .at i=>(bif bH i n then se (.at i)else match eg h i with| some (.ml ds)=>Uz (RB ih ds) .lst| _=>ng)| d=>se d) m
def fzo (h:TH) (n:Nat):TM->Option TM| .ml ds=>Uz (RB (fz h n 9) ds) .ml| .md ks ds=>Uz (RB (fz h n 9) ds) (.md ks)| .mi c ds=>Uz (RB (fz h n 9) ds) (.mi c)| t=>se t
def etk {α:Type} (n:Nat) (l:List α):List α:=jL (motive:=λ_=>List α->List α) (λ_=>[]) (λ_ ih l=>match l with| []=>[]| a::l=>a::ih l) n l
theorem rz:∀n (l:List α),etk n l=l.take n| 0,l=>by rfl| n+1,[]=>rfl| n+1,a::l=>by rw[List.take_succ_cons,<-rz n l];rfl
noncomputable def trunc (n:Nat) (v:D) (h:TH):R D:=bif bZ (Sn h) n then .ok v h else Rz (RB (fzo h n) (etk n h)) λh0=>Rz (fz h n 9 v) λv=>.ok v h0
def Zx (n c:Nat) (h:TH):R D:=bif bZ (Sn h) n then .ex c h else Rz (RB (fzo h n) (etk n h)) λh0=>.ex c h0
section
end
mutual
noncomputable def py:D->PyData
 | .non=>.none
 | .bl b=>.bool b
 | .int i=>.int i
 | .str x=>.str x
 | .lst ds=>.list (pys ds)
 | .tup ds=>.tuple (pys ds)
 | .dic _ _=>.none
 | .at _=>.none
 | .fn _=>.none
noncomputable def pys:List D->List PyData
 | []=>[]
 | d::ds=>py d::pys ds
end
def UQ (n:Nat):D->Bool:=jL (motive:=λ_=>D->Bool) (λ_=>ff) (λ_ ih d=>match d with| .lst ds=>bT (motive:=λ_=>Bool) tj (λd _ r=>ih d&&r) ds| .tup ds=>bT (motive:=λ_=>Bool) tj (λd _ r=>ih d&&r) ds| .dic _ _=>ff| .at _=>ff| .fn _=>ff| .str x=>bT (motive:=λ_=>Bool) tj (λc _ r=>bH c 1114112&&r) x.cps.toList| _=>tj) n
def Zt (n:Nat) (ds:List D):Bool:=bT (motive:=λ_=>Bool) tj (λd _ r=>UQ n d&&r) ds
theorem xK:Zt n (d::ds)=(UQ n d&&Zt n ds):=rfl
theorem Co:∀l:xaf,(bT tj (λc _ r=>bH c 1114112&&r) l:Bool)=l.all (·<0x110000):=by intro l;induction l with| nil =>exact rfl| cons c l ih =>rw[AE,<-ih];show(bH c 1114112&&_)=_;congr 1;rw[fJ,cD,decide_eq_true_iff]
mutual
theorem rA:∀(n:Nat) (d:D),UQ n d=tj->Sh n (py d)
 | 0,d,h=>by cases h
 | n+1,.non,h=>#[by simp only[py,PyData.canLay0],by simp only[py,PyData.depth];lia]
 | n+1,.bl b,h=>by simp only[py];exact H7 b
 | n+1,.int i,h=>by simp only[py];exact H6 i
 | n+1,.str x,h=>#[by
   simp only[py,PyData.canLay0];have z:(bT (motive:=λ_=>Bool) tj (λc _ r=>bH c 1114112&&r) x.cps.toList:Bool)=tj:=h;rw[Co] at z;unfold PyData.strOk;rw[<-Array.all_toList];exact z,by simp only[py,PyData.depth];lia]
 | n+1,.lst ds,h=>by simp only[py];exact H8 (xL n ds h)
 | n+1,.tup ds,h=>by simp only[py];exact H9 (xL n ds h)
 | n+1,.dic _ _,h=>by cases h
 | n+1,.at _,h=>by cases h
 | n+1,.fn _,h=>by cases h
theorem xL:∀(n:Nat) (ds:List D),Zt n ds=tj->∀d∈pys ds,Sh n d
 | n,[],_,d,hd=>by simp[pys] at hd
 | n,e::ds,h,d,hd=>by
  rw[xK,cI] at h;simp only[pys,bj] at hd;rcases hd with rfl | hd
  .exact rA n e h.1
  .exact xL n ds h.2 d hd
end
def ZI (g:D->D->Option Bool) (ds es:List D):Option Bool:=bT (motive:=λ_=>List D->Option Bool) (λes=>match es with| []=>se tj| _=>se ff) (λd _ ih es=>match es with| []=>se ff| e::r=>match g d e with| some tj=>ih r| some ff=>se ff| none=>ng) ds es
noncomputable def bEq (a b:Bool):Bool:=bif a then b else ! b
def dEq1 (ih:D->D->Option Bool) (d e:D):Option Bool:=match d,e with| .non,.non=>se tj| .non,.str _=>se ff| .str _,.non=>se ff| .non,.tup _=>se ff| .tup _,.non=>se ff| .bl a,.bl b=>se (bEq a b)| .int i,.int j=>se (ZD i j)| .str x,.str y=>se (sEq x y)| .lst ds,.lst es=>ZI ih ds es| .tup ds,.tup es=>ZI ih ds es| _,_=>ng
def dEq (n:Nat):D->D->Option Bool:=jL (motive:=λ_=>D->D->Option Bool) (λ_ _=>ng) (λ_ ih=>dEq1 ih) n
theorem xM {g:D->D->Option Bool}(hg:∀d e b,g d e=se b->PyData.eqv (py d) (py e)=b):∀{ds es:List D} {b:Bool},ZI g ds es=se b->PyData.eqvAll (pys ds) (pys es)=b| [],[],b,z=>by cases z;rfl| [],e::es,b,z=>by cases z;simp[pys,PyData.eqvAll]| d::ds,[],b,z=>by cases z;simp[pys,PyData.eqvAll]| d::ds,e::es,b,z=>by replace z:(match g d e with| some tj=>ZI g ds es| some ff=>se ff| none=>ng)=se b:=z;simp only[pys,PyData.eqvAll];split at z;rename_i e1;rw[hg _ _ _ e1,xM hg z];rfl;all_goals grind
theorem Jm:∀(n:Nat) {d e:D} {b:Bool},dEq n d e=se b->PyData.eqv (py d) (py e)=b:=by intro n;induction n with| zero =>rintro _ _ _ z;cases z| succ n ih =>rintro d e b z;have ih:∀d e b,dEq n d e=se b->PyData.eqv (py d) (py e)=b:=λd e b=>ih;replace z:dEq1 (dEq n) d e=se b:=z;(cases d<;>cases e<;>first |(cases z;done) |skip);(case bl.bl a c=>cases z;cases a<;>cases c<;>rfl);(case int.int=>cases z;simp only[py,PyData.eqv,kE];rfl);(case str.str=>cases z;simp only[py,PyData.eqv,mK];rfl);(case lst.lst=>exact xM ih z);(case tup.tup=>exact xM ih z);all_goals cases z;rfl
def TK (neg:Bool) (x y:D) (h:TH):R D:=Rz (fz h 0 9 x) λx=>Rz (fz h 0 9 y) λy=>RU (UQ 60 x&&UQ 60 y) (Rz (dEq 60 x y) λb=>.ok (.bl (neg^^b)) h)
noncomputable def ZZ:D->Option V| .non=>se .non| .bl b=>se (.bl b)| .int i=>se (.int i)| .str x=>se (.str x)| _=>ng
def vEq:V->V->Bool| .non,.non=>tj| .bl a,.bl b=>bEq a b| .int i,.int j=>ZD i j| .str x,.str y=>sEq x y| _,_=>ff
def XG:V->Nat| .non=>0| .bl _=>1| .int _=>2| .str _=>3| _=>4
def vIn (x:V) (ys:List V):Option Bool:=bT (motive:=λ_=>Option Bool) (se ff) (λy _ r=>bif bZ (XG y) (XG x)then Uz r λr=>vEq y x||r else ng) ys
def gInS (neg:Bool) (x y:D) (h:TH):R D:=Rz (ZZ x) λx=>Rz (eS h y) λds=>Rz (RB ZZ ds) λvs=>Rz (vIn x vs) λb=>.ok (.bl (neg^^b)) h
def Yl:Ry->Ry->Bool| .inl i,.inl j=>ZD i j| .inr x,.inr y=>sEq x y| _,_=>ff
theorem oE:∀k j:Ry,Yl k j=decide (k=j)| .inl i,.inl j=>by show ZD i j=_;rw[kE,fJ];simp| .inr i,.inr j=>by show sEq i j=_;rw[mK,fJ];simp| .inl i,.inr j=>by simp[Yl]| .inr i,.inl j=>by simp[Yl]
noncomputable def dk:D->Option Ry| .int i=>se (.inl i)| .str x=>se (.inr x)| _=>ng
noncomputable def kd:Ry->D| .inl i=>.int i| .inr x=>.str x
section
variable {ds:List D}{ks:List Ry}
def eK (h:TH):D->Option (List Ry×List D)| .dic ks ds=>se (ks,ds)| .at i=>(match eg h i with| some (.md ks ds)=>se (ks,ds)| _=>ng)| _=>ng
end
section
variable {ds:List D}{ks:List Ry}
def X7 (h:TH):D->Option (Nat×List Ry×List D)| .at i=>(match eg h i with| some (.md ks ds)=>se (i,ks,ds)| _=>ng)| _=>ng
end
section
variable {d:D}{v:V}{ks:List Ry}{k:Ry}
def lk (k:Ry) (ks:List Ry) (vs:List D):Option D:=bT (motive:=λ_=>List D->Option D) (λ_=>ng) (λd _ ih vs=>bT (motive:=λ_=>Option D) ng (λv t _=>bif Yl d k then se v else ih t) vs) ks vs
end
section
variable {d:D}{ds:List D}{ks:List Ry}{k:Ry}
theorem Jn:lk k (j::ks) (d::ds)=bif Yl j k then se d else lk k ks ds:=rfl
end
section
variable {d x y:D}{ds:List D}
def gIx (x y:D) (h:TH):R D:=match x,y with| .str z,.int i=>Rz (ZG z.cps.toList i) λc=>RU (bQ (Sn z.cps.toList) 16777216) (.ok (.str #[#[[c]]]) h)| x,.int i=>Rz (eS h x) λds=>Rz (ZG ds i) λd=>.ok d h| _,_=>.no
end
section
variable {d x y:D}{k:Ry}
def gDg (x y:D) (h:TH):R D:=Rz (eK h x) λp=>Rz (dk y) λk=>Rz (lk k p.1 p.2) λd=>.ok d h
end
section
variable {x:D}
def Yi (x:D) (h:TH):Bool:=match eK h x with| some _=>tj| none=>ff
end
section
variable {x y:D}
def Rk (fa fb:RE):RE:=Rp (λx y h=>bif Yi x h then gDg x y h else gIx x y h) fa fb
end
section
variable {x y:D}{k:Ry}
def Xj (neg:Bool) (x y:D) (h:TH):R D:=match eK h y with| some p=>(Rz (dk x) λk=>match lk k p.1 p.2 with| some _=>.ok (.bl (neg^^tj)) h| none=>.ok (.bl (neg^^ff)) h)| none=>gInS neg x y h
end
section
variable {ds:List D}{ks:List Ry}
def mkD (m:Bool) (ks:List Ry) (ds:List D) (h:TH):R D:=bif m then .ok (.at (hn h)) (hp h (.md ks ds))else .ok (.dic ks ds) h
end
section
def WG (m:Bool):RE:=λ_ h=>mkD m [] [] h
end
section
variable {x:D}
def rFz (fa:RE):RE:=fun ρ h=>(fa ρ h).bnd λx h=>Rz (X7 h x) λp=>.ok (.dic p.2.1 p.2.2) (hs h p.1 .no)
end
section
variable {ks:List Ry}{k:Ry}
def U0 (k:Ry) (ks:List Ry):List Ry:=bT (motive:=λ_=>List Ry) [k] (λj t ih=>bif Yl j k then j::t else j::ih) ks
end
section
variable {d:D}{ds:List D}{ks:List Ry}{k:Ry}
def Wr (k:Ry) (e:D) (ks:List Ry) (ds:List D):List D:=bT (motive:=λ_=>List D->List D) (λ_=>[e]) (λj _ ih ds=>bT (motive:=λ_=>List D) [e] (λd t _=>bif Yl j k then e::t else d::ih t) ds) ks ds
end
section
end
section
variable {d:D}{ks:List Ry}{k:Ry}
def YX (k:Ry) (ks:List Ry):Bool:=bT (motive:=λ_=>Bool) ff (λd _ ih=>Yl d k||ih) ks
end
section
variable {d:D}{ks:List Ry}{k:Ry}
theorem Cp (k:Ry):∀ks,YX k ks=tj↔k∈ks:=by intro ks;induction ks with| nil =>simp[YX]| cons d ks ih =>have:YX k (d::ks)=(Yl d k||YX k ks):=rfl;rw[this,qO,ih,oE,decide_eq_true_iff,bj,eq_comm]
end
section
variable {d:D}{ks:List Ry}
def ZA (ks:List Ry):Bool:=bT (motive:=λ_=>Bool) tj (λd t ih=>! YX d t&&ih) ks
end
section
variable {d:D}{ks:List Ry}
theorem u6:∀{ks:List Ry},ZA ks=tj->ks.Nodup:=by intro ks;induction ks with| nil =>rintro _;exact List.nodup_nil| cons d ks ih =>rintro e;replace e:(!YX d ks&&ZA ks)=tj:=e;rw[cI,kR] at e;exact eG.mpr #[λz=>(by rw[(Cp d ks).mpr z] at e;cases e.1),ih e.2]
end
section
variable {x y:D}{v:V}{k:Ry}
def gDput (x y v:D) (ρ:R4) (h:TH):R Fl:=Rz (X7 h x) λp=>Rz (dk y) λk=>RU (ZA p.2.1&&bH (Sn p.2.1) 16777216) (.ok (.nx ρ) (hs h p.1 (.md (U0 k p.2.1) (Wr k v p.2.1 p.2.2))))
end
section
end
section
variable {d x y:D}{k:Ry}
def Yu (fx fy fz:RE):RE:=fun ρ h=>(fx ρ h).bnd λx h=>RU (Yi x h)<|(fy ρ h).bnd λy h=>(fz ρ h).bnd λz h=>Rz (eK h x) λp=>Rz (dk y) λk=>match lk k p.1 p.2 with| some d=>.ok d h| none=>.ok z h
end
section
variable {ks:List Ry}{k:Ry}
def Vo (k:Ry) (ks:List Ry):List Ry:=bT (motive:=λ_=>List Ry) [] (λj _ ih=>bif Yl j k then ih else j::ih) ks
end
section
variable {d:D}{ds:List D}{ks:List Ry}{k:Ry}
def UW (k:Ry) (ks:List Ry) (ds:List D):List D:=bT (motive:=λ_=>List D->List D) (λ_=>[]) (λj _ ih ds=>bT (motive:=λ_=>List D) [] (λd t _=>bif Yl j k then ih t else d::ih t) ds) ks ds
end
section
variable {d x y:D}{k:Ry}
def Y2 (fx fy:RE):RE:=fun ρ h=>(fx ρ h).bnd λx h=>RU (Yi x h)<|(fy ρ h).bnd λy h=>Rz (X7 h x) λp=>Rz (dk y) λk=>Rz (lk k p.2.1 p.2.2) λd=>.ok d (hs h p.1 (.md (Vo k p.2.1) (UW k p.2.1 p.2.2)))
end
section
variable {x:D}{ds:List D}{xs:List V}
def R3 (xs:List D) (h:TH):R D:=match xs with| [.str x]=>RU (bQ (Sn x.cps.toList) 16777216) (.ok (.int (.ofNat (Sn x.cps.toList))) h)| [x]=>(match eK h x with| some p=>.ok (.int (.ofNat (Sn p.1))) h| none=>Rz (eS h x) λds=>.ok (.int (.ofNat (Sn ds))) h)| _=>.no
end
section
def X8:D->Option Int| .int i=>se i| _=>ng
end
section
def dBl:D->Option Bool| .bl i=>se i| _=>ng
end
section
def Zi (bs:List Bool):Bool:=bT (motive:=λ_=>Bool) ff (λb _ r=>b||r) bs
end
section
def ZM (bs:List Bool):Bool:=bT (motive:=λ_=>Bool) tj (λb _ r=>b&&r) bs
end
section
theorem Cq:∀bs,Zi bs=bs.any id:=by intro bs;induction bs with| nil =>exact rfl| cons b bs ih =>rw[wO,<-ih];rfl
end
section
theorem Jo:∀bs,ZM bs=bs.all id:=by intro bs;induction bs with| nil =>exact rfl| cons b bs ih =>rw[AE,<-ih];rfl
end
section
variable {x:D}{ds:List D}{xs:List V}
def Yj (g:List Bool->Bool) (xs:List D) (h:TH):R D:=match xs with| [x]=>Rz (eL h x) λds=>Rz (RB dBl ds) λbs=>.ok (.bl (g bs)) h| _=>.no
end
section
theorem Jp (bs:List Bool):((aR bs.length).all λi=>bs.getD i ff)=bs.all id:=by rw[fJ,iQ,iQ];constructor;intro h b hb;obtain⟨i,hi⟩:=bz hb;have:=h i (dy.mpr (aQ.mp hi).1);simp_all;intro h i hi;have hl:=dy.mp hi;have:=h bs[i] (jI hl);rwa [bR,aT hl]
end
section
variable {d:D}
def iSum (ns:xae):Int:=bT (motive:=λ_=>Int) 0 (λd _ ih=>d+ih) ns
end
section
theorem xO:∀ns,iSum ns=ns.sum:=by intro ns;induction ns with| nil =>exact rfl| cons n ns ih =>rw[bL,<-ih];rfl
end
section
variable {x:D}{ds:List D}{xs:List V}
def gSum (xs:List D) (h:TH):R D:=match xs with| [x]=>Rz (eL h x) λds=>Rz (RB X8 ds) λns=>.ok (.int (iSum ns)) h| _=>.no
end
section
variable {d:D}
def YE (n:Int) (ns:xae):Int:=bT (motive:=λ_=>Int->Int) (λn=>n) (λd _ ih n=>ih (bif YF d n then d else n)) ns n
end
section
variable {d y:D}
theorem Cs:∀ns n,YE n ns<=n/\(∀y∈ns,YE n ns<=y)/\YE n ns∈n::ns:=by intro ns;induction ns with| nil =>rintro n;exact#[dw _,λy h=>(by simp at h),by simp[YE]]| cons d ns ih =>rintro n;have e:YE n (d::ns)=YE (bif YF d n then d else n) ns:=rfl;obtain⟨h1,h2,h3⟩:=ih (bif YF d n then d else n);rw[e];cases hb:YF d n with| true =>rw[hb] at h1 h2 h3;rw[gO] at hb;grind| false =>rw[hb] at h1 h2 h3;rw[gO] at hb;grind
end
section
variable {x:D}{ds:List D}{xs:List V}
def gMin (xs:List D) (h:TH):R D:=match xs with| [x]=>(Rz (eL h x) λds=>Rz (RB X8 ds) λns=>match ns with| n::ns=>.ok (.int (YE n ns)) h| []=>.no)| [.int i,.int j]=>.ok (.int (bif YF j i then j else i)) h| _=>.no
end
section
end
section
variable {xs:List V}
def Zs (xs:List D) (h:TH):R D:=match xs with| [.int i]=>.ok (.int (bif YF i 0 then-i else i)) h| _=>.no
end
section
variable {ks:List Ry}{k:Ry}
def kds (ks:List Ry):List D:=bT (motive:=λ_=>List D) [] (λk _ r=>kd k::r) ks
end
section
variable {x:D}{ds:List D}{xs:List V}
def Ws (m:Bool) (xs:List D) (h:TH):R D:=match xs with| [x]=>(match eK h x with| some p=>mk m (kds p.1) h| none=>Rz (eS h x) λds=>mk m ds h)| _=>.no
end
section
variable {k:Ry}
def prK:D->Option Ry| .tup [k,_]=>dk k| _=>ng
end
section
variable {v:V}
def prV:D->Option D| .tup [_,v]=>se v| _=>ng
end
section
end
section
variable {x:D}{ds:List D}{ks:List Ry}{xs:List V}
def VV (m:Bool) (xs:List D) (h:TH):R D:=match xs with| [x]=>(match eK h x with| some p=>mkD m p.1 p.2 h| none=>Rz (eL h x) λds=>Rz (RB prK ds) λks=>Rz (RB prV ds) λes=>RU (ZA ks) (mkD m ks es h))| _=>.no
end
section
variable {f:RA}
def FAt (N:List Q7)(f:Q7)(n:Nat):Prop:=N[n]?=se f/\∀m,m<n->N[m]?≠se f
end
section
end
section
end
section
end
section
variable {ds:List D}
def ZH (c:Nat) (h:TH):D->Option (Nat×List D)| .at i=>(match eg h i with| some (.mi c' ds)=>bif bZ c' c then se (i,ds)else ng| _=>ng)| _=>ng
end
section
variable {d x:D}{fa:RE}
def RL (c n:Nat) (fa:RE):RE:=fun ρ h=>(fa ρ h).bnd λx h=>Rz (ZH c h x) λp=>Rz (eg p.2 n) λd=>.ok d h
end
section
variable {x y:D}{fa:RE}
def X2 (c n:Nat) (fa fv:RE):RS:=fun ρ h=>(fv ρ h).bnd λy h=>(fa ρ h).bnd λx h=>Rz (ZH c h x) λp=>RU (bQ n (Sn p.2)) (.ok (.nx ρ) (hs h p.1 (.mi c (bif bH n (Sn p.2)then Yf p.2 n y else Ze p.2 [y]))))
end
noncomputable def Xt (z:Q7) (lo hi:Option Int):Q7:=if(Builtin.Str.strSliceIndices lo hi 1 z.length).length==z.length then z else#[((Builtin.Str.strSliceIndices lo hi 1 z.length).filterMap (z.cps[·]?)).toArray]
theorem part_of (p:IsPart v o):∃q:Option (Int×Tok),v=partValue q/\q.map (·.1)=o:=by cases p with| none=>exact#[ng,rfl,rfl]| int i t=>exact#[se (i,t),rfl,rfl]
section
abbrev RO:=R4->TH->R (Option Int)
end
section
noncomputable def rO0:RO:=λ_ h=>.ok ng h
end
section
variable {x:D}{fa:RE}
noncomputable def Z1 (fa:RE):RO:=fun ρ h=>(fa ρ h).bnd λx h=>match x with| .int i=>.ok (se i) h| _=>.no
end
section
variable {ds:List D}
def cutD (ds:List D) (lo hi:Option Int):List D:=(ds.drop (NAH.Ud ds.length 0 lo)).take (NAH.Ud ds.length ds.length hi-NAH.Ud ds.length 0 lo)
end
section
variable {x:D}{ds:List D}
def gSl (m:Bool) (x:D) (l u:Option Int) (h:TH):R D:=match x with| .str z=>RU (bQ (Xt z l u).length 16777216) (.ok (.str (Xt z l u)) h)| .tup ds=>RU (!(bZ (NAH.Ud ds.length 0 l) 0&&bZ (NAH.Ud ds.length ds.length u) ds.length)) (.ok (.tup (cutD ds l u)) h)| x=>Rz (eS h x) λds=>mk m (cutD ds l u) h
end
section
variable {x:D}{fa:RE}
def rSl (m:Bool) (fa:RE) (fl fu:RO):RE:=fun ρ h=>(fa ρ h).bnd λx h=>(fl ρ h).bnd λl h=>(fu ρ h).bnd λu h=>gSl m x l u h
end
section
variable {d:D}{ds:List D}
def ZJ (ds:List D) (b:Bool):List D:=bT (motive:=λ_=>Bool->List D) (λ_=>[]) (λd _ ih b=>match b with| true=>d::ih ff| false=>ih tj) ds b
end
section
variable {x:D}{ds:List D}{fa:RE}
def Zp (m b:Bool) (fa:RE):RE:=fun ρ h=>(fa ρ h).bnd λx h=>Rz (eL h x) λds=>mk m (ZJ ds b) h
end
section
variable {ds:List D}
def VN (h:TH):D->Option (Nat×List D)| .at i=>(match eg h i with| some (.ml ds)=>se (i,ds)| _=>ng)| _=>ng
end
section
variable {x y:D}{v:V}
def gSet (x y v:D) (ρ:R4) (h:TH):R Fl:=match y with| .int (.ofNat k)=>Rz (VN h x) λp=>RU (bH k (Sn p.2)) (.ok (.nx ρ) (hs h p.1 (.ml (Yf p.2 k v))))| _=>.no
end
section
end
section
variable {x y:D}{v:V}
def WE (fv fx fy:RE):RS:=fun ρ h=>(fv ρ h).bnd λv h=>(fx ρ h).bnd λx h=>(fy ρ h).bnd λy h=>bif Yi x h then gDput x y v ρ h else gSet x y v ρ h
end
section
variable {x y:D}
def Yw (op:Int->Int->Int) (fx fy fe:RE):RS:=fun ρ h=>(fx ρ h).bnd λx h=>(fy ρ h).bnd λy h=>match y with| .int (.ofNat k)=>Rz (VN h x) λp=>Rz (eg p.2 k) λu=>Rz (X8 u) λu=>(fe ρ h).bnd λz h=>Rz (X8 z) λz=>Rz (VN h x) λp=>RU (bH k (Sn p.2)) (.ok (.nx ρ) (hs h p.1 (.ml (Yf p.2 k (.int (op u z))))))| _=>.no
end
section
variable {x y:D}{fa:RE}{f:RA}
def Wu (fa:RE) (f:RA):RE:=fun ρ h=>(fa ρ h).bnd λx h=>Rz (VN h x) λ_=>(f ρ h).bnd λys h=>match ys with| [y]=>Rz (VN h x) λp=>RU (bH (Sn p.2) 16777216) (.ok .non (hs h p.1 (.ml (Ze p.2 [y]))))| _=>.no
end
section
variable {x y:D}{fa:RE}{f:RA}
def rExt (fa:RE) (f:RA):RE:=fun ρ h=>(fa ρ h).bnd λx h=>Rz (VN h x) λ_=>(f ρ h).bnd λys h=>match ys with| [y]=>Rz (VN h x) λp=>Rz (eL h y) λes=>RU (bQ (Sn p.2+Sn es) 16777216) (.ok .non (hs h p.1 (.ml (Ze p.2 es))))| _=>.no
end
section
variable {d:D}{ds:List D}
def Zu (ds:List D):List D:=bT (motive:=λ_=>List D) [] (λd t ih=>bT (motive:=λ_=>List D) [] (λ_ _ _=>d::ih) t) ds
end
section
variable {d:D}{ds:List D}
theorem u7:∀ds:List D,Zu ds=ds.dropLast| []=>rfl| [d]=>rfl| d::e::t=>by rw[List.dropLast_cons₂,<-u7 (e::t)];rfl
end
section
variable {x y:D}{fa:RE}
def Yd (fa:RE):RE:=fun ρ h=>(fa ρ h).bnd λx h=>Rz (VN h x) λp=>Rz (eg p.2 (Sn p.2-1)) λy=>.ok y (hs h p.1 (.ml (Zu p.2)))
end
section
variable {x:D}{fa:RE}
def rClr (fa:RE):RE:=fun ρ h=>(fa ρ h).bnd λx h=>Rz (VN h x) λp=>.ok .non (hs h p.1 (.ml []))
end
section
variable {d:D}
def YG (n:Int) (ns:xae):Option Nat:=bT (motive:=λ_=>Option Nat) ng (λd _ ih=>bif ZD d n then se 0 else Uz ih iU) ns
end
section
variable {d y:D}
theorem Jq {n:Int}:∀{ns:xae} {j:Nat},YG n ns=se j->ns[j]?=se n/\∀(m:Nat) y,m<j->ns[m]?=se y->y≠n:=by intro ns;induction ns with| nil =>rintro _ e;cases e| cons d ns ih =>rintro j e;replace e:(bif ZD d n then se 0 else Uz (YG n ns) iU)=se j:=e;rw[kE] at e;by_cases z:d=n;rw[QZ z] at e;cases e;exact#[by rw[z];rfl,λm y h=>by simp_all];rw[Q1 z] at e;obtain⟨i,e1,rfl⟩:=iE e;obtain⟨h1,h2⟩:=ih e1;refine#[by exact h1,λm y hm hy=>?_];cases m with| zero=>cases hy;exact z| succ m=>exact h2 m y (by simp_all) (by exact hy)
end
section
variable {x:D}{ds:List D}{fa:RE}{f:RA}
def rIdx (fa:RE) (f:RA):RE:=fun ρ h=>(fa ρ h).bnd λx h=>Rz (eL h x) λ_=>(f ρ h).bnd λys h=>match ys with| [.int n]=>Rz (eL h x) λds=>Rz (RB X8 ds) λns=>Rz (YG n ns) λj=>.ok (.int (.ofNat j)) h| _=>.no
end
section
def dUp (k n:Nat):List D:=jL (motive:=λ_=>Nat->List D) (λ_=>[]) (λ_ ih k=>.int (.ofNat k)::ih (iU k)) n k
end
section
variable {x:D}{fa:RE}
def XH (m:Bool) (fa:RE):RE:=fun ρ h=>(fa ρ h).bnd λx h=>match x with| .int (.ofNat n)=>RU (bQ n 1000) (mk m (dUp 0 n) h)| _=>.no
end
abbrev Nx:=TH->Nat->Option (Option D)
abbrev RI:=R4->TH->R Nx
section
variable {d:D}{ds:List D}
def VS (d:D):Nx:=λh i=>Uz (eS h d) λds=>eg ds i
end
section
def nKs (ks:List Ry):Nx:=λ_ i=>se (Uz (eg ks i) kd)
end
section
variable {x:D}
def nStr (x:Q7):Nx:=λ_ i=>bif bQ i (Sn x.cps.toList)then se (Uz (eg x.cps.toList i) λc=>.str #[#[[c]]])else ng
end
section
variable {x:D}{fa:RE}
def Td (fa:RE):RI:=fun ρ h=>(fa ρ h).bnd λx h=>match x with| .dic ks _=>.ok (nKs ks) h| .str z=>.ok (nStr z) h| x=>Rz (eS h x) λ_=>.ok (VS x) h
end
section
def nRg (n:Nat):Nx:=λ_ i=>se (bif bH i n then se (.int (.ofNat i))else ng)
end
section
variable {xs:List V}{f:RA}
def rIr (f:RA):RI:=fun ρ h=>(f ρ h).bnd λxs h=>match xs with| [.int (.ofNat n)]=>RU (bH n (2^62)) (.ok (nRg n) h)| _=>.no
end
section
end
section
end
section
variable {d x:D}{ds:List D}
def nEn (d:D):Nx:=λh i=>Uz (eS h d) λds=>Uz (eg ds i) λx=>.tup [.int (.ofNat i),x]
end
section
variable {x:D}{fa:RE}
def rIe (fa:RE):RI:=fun ρ h=>(fa ρ h).bnd λx h=>Rz (eS h x) λ_=>RU (! RQ x) (.ok (nEn x) h)
end
section
variable {d x:D}{ds:List D}{xs:List V}
def eZ (h:TH) (i:Nat) (ds:List D):Option (Option (List D)):=bT (motive:=λ_=>Option (Option (List D))) (se (se [])) (λd _ ih=>match eS h d with| none=>ng| some xs=>match ih with| none=>ng| some ng=>se ng| some (se ys)=>match eg xs i with| some x=>se (se (x::ys))| none=>se ng) ds
end
section
end
section
end
section
variable {ds:List D}
def nZp (ds:List D):Nx:=λh i=>Uz (eZ h i ds) λo=>Uz o .tup
end
section
variable {x y:D}{fa fb:RE}
def Z2 (fa fb:RE):RI:=fun ρ h=>(fa ρ h).bnd λx h=>(fb ρ h).bnd λy h=>Rz (eS h x) λ_=>Rz (eS h y) λ_=>.ok (nZp [x,y]) h
end
section
variable {x y:D}{fa fb fc:RE}
def rIz3 (fa fb fc:RE):RI:=fun ρ h=>(fa ρ h).bnd λx h=>(fb ρ h).bnd λy h=>(fc ρ h).bnd λz h=>Rz (eS h x) λ_=>Rz (eS h y) λ_=>Rz (eS h z) λ_=>.ok (nZp [x,y,z]) h
end
section
end
section
end
section
variable {d x:D}{v:V}{nx:Nx}{fs:RS}{fg:RG}
def rGo (nx:Nx) (fg:RG) (fs:RS) (m:Nat):Nat->RS:=jL (motive:=λ_=>Nat->RS) (λ_ _ _=>.no) (λ_ ih i ρ h=>match nx h i with| some ng=>.ok (.nx ρ) h| some (se d)=>(Rz (fg d ρ) fun ρ=>(fs ρ h).bnd λx h=>match x with| .nx ρ=>ih (iU i) ρ h| .rt v=>.ok (.rt v) h)| none=>.no) m
end
section
variable {d x:D}{v:V}{nx:Nx}{fs:RS}{fg:RG}
theorem xP:rGo nx fg fs (m+1) i ρ h=match nx h i with| some ng=>.ok (.nx ρ) h| some (se d)=>(Rz (fg d ρ) fun ρ=>(fs ρ h).bnd λx h=>match x with| .nx ρ=>rGo nx fg fs m (i+1) ρ h| .rt v=>.ok (.rt v) h)| none=>.no:=rfl
end
section
variable {nx:Nx}{fs:RS}{fi:RI}{fg:RG}
def S8 (fi:RI) (fg:RG) (fs:RS):RS:=fun ρ h=>(fi ρ h).bnd λnx h=>rGo nx fg fs 1000 0 ρ h
end
section
variable {x:D}{v:V}{nx:Nx}{fT:RT}{fs:RS}
def Y8 (fT:RT) (fs:RS) (m:Nat):RS:=jL (motive:=λ_=>RS) (λ_ _=>.no) (λ_ ih ρ h=>(fT ρ h).bnd λb h=>bif b then(fs ρ h).bnd λx h=>match x with| .nx ρ=>ih ρ h| .rt v=>.ok (.rt v) h else .ok (.nx ρ) h) m
end
section
end
section
variable {fT:RT}{fs:RS}
open Classical in
def UE (w:Option Nat) (fT:RT) (fs:RS):RS:=fun ρ h=>match w with
 | some m=>Y8 fT fs m ρ h
 | none=>if k:∃m,Y8 fT fs m ρ h≠.no then Y8 fT fs k.choose ρ h else .no
end
section
noncomputable def R.nox {α:Type} (r:R α):R α:=match r with| .ok a h=>.ok a h| _=>.no
end
section
theorem R.sat.unx {r:R α}{P:α->TH->Prop}(q:r.nox.sat P E):r.sat P E':=by cases r with| ok a h=>exact q| ex c h=>exact q.elim| no=>exact q.elim
end
section
theorem R.sat.unb {r:R α}{k:α->TH->R β}{P:β->TH->Prop}(q:r.sat (λa h=>(k a h).sat P E) E):(r.bnd k).sat P E:=by cases r<;>exact q
end
section
variable {d y:D}{fa:RE}{nx:Nx}{fT:RT}{fg:RG}
def Y3 (nx:Nx) (fg:RG) (fT:RT) (fa:RE) (ρ:R4) (m:Nat):Nat->TH->R (List D):=jL (motive:=λ_=>Nat->TH->R (List D)) (λ_ _=>.no) (λ_ ih i h=>match nx h i with| some ng=>.ok [] h| some (se d)=>Rz (fg d ρ) fun ρ=>(fT ρ h).nox.bnd λb h=>bif b then(fa ρ h).nox.bnd λy h=>(ih (iU i) h).bnd λys h=>.ok (y::ys) h else ih (iU i) h| none=>.no) m
end
section
variable {d y:D}{fa:RE}{nx:Nx}{fT:RT}{fg:RG}
theorem qe:Y3 nx fg fT fa ρ (m+1) i h=match nx h i with| some ng=>.ok [] h| some (se d)=>Rz (fg d ρ) fun ρ'=>(fT ρ' h).nox.bnd λb h=>bif b then(fa ρ' h).nox.bnd λy h=>(Y3 nx fg fT fa ρ m (i+1) h).bnd λys h=>.ok (y::ys) h else Y3 nx fg fT fa ρ m (i+1) h| none=>.no:=rfl
end
section
variable {v:V}
def Zf (ρ:R4) (fr:xaf):R4:=bT (motive:=λ_=>R4) [] (λj _ ih=>(match eg ρ j with| some v=>v| none=>ng)::ih) fr
end
section
variable {v:V}
theorem Ct:Zf ρ (j::js)=(match ρ[j]? with| some v=>v| none=>ng)::Zf ρ js:=by rw[<-aW];rfl
end
section
variable {fa:RE}{nx:Nx}{fT:RT}{fi:RI}{fg:RG}
def Wq (m:Bool) (fi:RI) (n:Nat) (fr:xaf) (fg:RG) (fT:RT) (fa:RE):RE:=fun ρ h=>(fi ρ h).bnd λnx h=>(Y3 nx fg fT fa (bf n ng++Zf ρ fr) 1000 0 h).bnd λys h=>mk m ys h
end
section
variable {c:Nat}{ev:List D->TH->R D}{x:Q7}{fa:RE}
def Rv (c:Nat) (ev:List D->TH->R D) (fa:RE) (f:RA):RE:=fun ρ h=>(fa ρ h).bnd λx h=>Rz (ZH c h x) λ_=>(f ρ h).bnd λxs h=>ev (x::xs) h
end
section
variable {c:Nat}{ev:List D->TH->R D}
def XQ (c:Nat) (ev:List D->TH->R D) (xs:List D) (h:TH):R D:=(ev (.at (hn h)::xs) (hp h (.mi c []))).nox.bnd λv h'=>match v with| .non=>.ok (.at (hn h)) h'| _=>.no
end
section
end
def Vn (ds:List D) (k:Nat):R4:=bT (motive:=λ_=>R4) (bf k ng) (λd _ ih=>se d::ih) ds
theorem Cu (k:Nat):∀ds,Vn ds k=ds.map se++bf k none:=by intro ds;induction ds with| nil =>exact rfl| cons d ds ih =>rw[be,oa,<-ih];rfl
def Sy (keep:Bool) (n k:Nat) (f:RS) (ds:List D) (h:TH):R D:=RU (bZ (Sn ds) n) (match f (Vn ds k) h with| .ok (.nx _) h'=>bif keep then .ok .non h' else trunc (Sn h) .non h'| .ok (.rt v) h'=>bif keep then .ok v h' else trunc (Sn h) v h'| .ex c h'=>bif keep then .ex c h' else Zx (Sn h) c h'| .no=>.no)
def Z4 (ks:List Ry) (ds:List D):List D:=bT (motive:=λ_=>List D->List D) (λ_=>[]) (λk _ ih ds=>bT (motive:=λ_=>List D) [] (λd t _=>.tup [kd k,d]::ih t) ds) ks ds
theorem Cv:∀{ks:List Ry} {ds:List D} {i:Nat} {e:D},(Z4 ks ds)[i]?=se e->∃k d,ks[i]?=se k/\ds[i]?=se d/\e=.tup [kd k,d]| [],_,_,_,h=>by simp[Z4] at h| _::_,[],_,_,h=>by simp[Z4] at h| k::ks,d::ds,0,e,h=>by cases h;simp_all| k::ks,d::ds,i+1,e,h=>by obtain⟨k',d',h1,h2,h3⟩:=Cv (ks:=ks) (by have:Z4 (k::ks) (d::ds)=.tup [kd k,d]::Z4 ks ds:=rfl;rw[this] at h;exact h);simp_all
theorem Cw:∀{ks:List Ry} {ds:List D},ks.length=ds.length->(Z4 ks ds).length=ks.length| [],[],_=>rfl| [],_::_,h=>by simp at h| _::_,[],h=>by simp at h| k::ks,d::ds,h=>by have:Z4 (k::ks) (d::ds)=.tup [kd k,d]::Z4 ks ds:=rfl;rw[this,fm,fm,Cw (by simpa using h)]
section
variable {fa:RE}{x:Q7}
def Zc (m:Bool) (fa:RE):RE:=fun ρ h=>(fa ρ h).bnd λx h=>Rz (eK h x) λp=>RU (bQ (Sn p.1) 1000) (mk m (Z4 p.1 p.2) h)
end
section
variable {fa fb:RE}{x y:Q7}
def rDz (m:Bool) (fa fb:RE):RE:=fun ρ h=>(fa ρ h).bnd λx h=>(fb ρ h).bnd λy h=>Rz (eS h x) λds=>Rz (eS h y) λes=>Rz (RB dk ds) λks=>RU (ZA ks&&(bZ (Sn ks) (Sn es)&&bQ (Sn ks) 1000)) (mkD m ks es h)
end
section
end
section
def XZ (ks:List Ry) (ds:List D) (ls:List Ry) (es:List D):List Ry×List D:=bT (motive:=λ_=>List D->List Ry->List D->List Ry×List D) (λ_ ks ds=>(ks,ds)) (λl _ ih es ks ds=>bT (motive:=λ_=>List Ry×List D) (ks,ds) (λe t _=>ih t (U0 l ks) (Wr l e ks ds)) es) ls es ks ds
end
section
variable {k:Nat}
theorem Jr {k:Ry}:∀{ks:List Ry},ks.Nodup->(U0 k ks).Nodup/\∀j,j∈U0 k ks->j=k\/j∈ks:=by intro ks;induction ks with| nil =>rintro _;exact#[by simp[U0],λj h=>.inl (by grind[U0])]| cons j ks ih =>rintro h;have e1:U0 k (j::ks)=bif Yl j k then j::ks else j::U0 k ks:=rfl;have h2:=eG.mp h;obtain⟨n,m⟩:=ih h2.2;rw[e1,oE];by_cases z:j=k;lia;rw[Q1 z];refine#[eG.mpr #[λhm=>(m j hm).elim z h2.1,n],λi hi=>?_];grind
end
section
variable {fa fb:RE}{x y:Q7}
def rUpd (fa fb:RE):RE:=fun ρ h=>(fa ρ h).bnd λx h=>RU (Yi x h)<|(fb ρ h).bnd λy h=>Rz (X7 h x) λp=>Rz (X7 h y) λr=>RU (! Nat.beq p.1 r.1&&(ZA p.2.1&&bQ (Sn p.2.1+Sn r.2.1) 1000)) (.ok .non (hs h p.1 (.md (XZ p.2.1 p.2.2 r.2.1 r.2.2).1 (XZ p.2.1 p.2.2 r.2.1 r.2.2).2)))
end
section
variable {x:Q7}
def dStr:D->Option Q7| .str x=>se x| _=>ng
end
section
variable {k:Nat}
def Z0 (k:Q7) (ks:List Q7):Bool:=bT (motive:=λ_=>Bool) ff (λd _ ih=>sEq d k||ih) ks
end
section
variable {k:Nat}
theorem Js (k:Q7):∀ks,Z0 k ks=decide (k∈ks):=by intro ks;induction ks with| nil =>simp[Z0]| cons d ks ih =>have:Z0 k (d::ks)=(sEq d k||Z0 k ks):=rfl;rw[this,ih,mK,fJ,qO,decide_eq_true_iff,decide_eq_true_iff,decide_eq_true_iff,bj];lia
end
section
variable {k:Nat}
def Zo (ks:List Q7):List Q7->List Q7:=bT (motive:=λ_=>List Q7->List Q7) (λacc=>acc) (λk _ ih acc=>ih (bif Z0 k acc then acc else Ze acc [k])) ks
end
section
variable {k:Nat}
theorem Cy:∀ks acc,Zo ks acc=ks.foldl (λacc k=>if k∈acc then acc else acc++[k]) acc:=by intro ks;induction ks with| nil =>rintro acc;exact rfl| cons k ks ih =>rintro acc;have:Zo (k::ks) acc=Zo ks (bif Z0 k acc then acc else Ze acc [k]):=rfl;rw[this,ih,pO,Js,gN];lia
end
section
variable {fa:RE}{x:Q7}
def rLs (fa:RE):RE:=fun ρ h=>(fa ρ h).bnd λx h=>Rz (eS h x) λds=>Rz (RB dStr ds) λks=>RU (! RQ x&&bQ (Sn ks) 1000) (.ok (.int (.ofNat (Sn (Zo ks [])))) h)
end
section
variable {fa fb fc:RE}{x y:Q7}
def Yv (g g':D->D->TH->R D) (fa fb fc:RE):RE:=fun ρ h=>(fa ρ h).bnd λx h=>(fb ρ h).bnd λy h=>(g x y h).bnd λz h=>match z with| .bl b=>bif b then(fc ρ h).bnd λu h=>g' y u h else .ok (.bl ff) h| _=>.no
end
section
variable {k:Nat}
def rLam (k:Nat):RE:=λ_ h=>.ok (.at (hn h)) (hp h (.mf k))
end
section
variable {k:Nat}
def eMf (h:TH):D->Option Nat| .at i=>(match eg h i with| some (.mf k)=>se k| _=>ng)| _=>ng
end
section
variable {k:Nat}{fa:RE}{x:Q7}
def Zb (lb:Nat->Option (Nat×RE)) (fa:RE) (f:RA):RE:=fun ρ h=>(fa ρ h).bnd λx h=>Rz (eMf h x) λk=>(f ρ h).bnd λxs h=>Rz (eMf h x) λk=>Rz (lb k) λp=>RU (bZ (Sn xs) p.1) (p.2 (Vn xs 0) h).nox
end
section
end
section
end
section
end
section
end
abbrev UJ (_N:List Q7):=Wq
noncomputable def Si:RT:=λ_ h=>.ok tj h
noncomputable def ZE (N:List Q7) (f:Q7) (n:Nat):Bool:=match N,n with| [],_=>ff| g::_,0=>g==f| g::N,n+1=>!(g==f)&&ZE N f n
theorem CA:∀{N:List Q7} {f:Q7} {n:Nat},ZE N f n=tj->FAt N f n| g::N,f,0,h=>#[by rw[show g=f from beq_iff_eq.mp h];rfl,λm hm=>absurd hm (k7 _)]| g::N,f,n+1,h=>by obtain⟨h1,h2⟩:=nW.mp h;obtain⟨i1,i2⟩:=CA h2;refine#[i1,λm hm=>?_];grind
theorem xQ:∀{N:List Q7} {f:Q7} {n:Nat},ZE N f n=tj->N.contains f=tj| g::N,f,0,h=>by rw[show g=f from beq_iff_eq.mp h];simp| g::N,f,n+1,h=>by have:=xQ (nW.mp h).2;simp_all
noncomputable def tn:Nat->String| 0=>"NoneType"| 1=>"bool"| 2=>"int"| 3=>"str"| 4=>"list"| 5=>"tuple"| _=>"dict"
def tc (h:TH):D->Option Nat| .non=>se 0| .bl _=>se 1| .int _=>se 2| .str _=>se 3| .lst _=>se 4| .tup _=>se 5| .at i=>(match eg h i with| some (.ml _)=>se 4| some (.mr _)=>se 4| some (.md _ _)=>se 6| _=>ng)| _=>ng
noncomputable def isBn (t c:Nat):Bool:=bZ t c||(bZ t 1&&bZ c 2)
section
end
def Xr (c:Nat) (fa:RE):RE:=fun ρ h=>(fa ρ h).bnd λx h=>Rz (tc h x) λt=>.ok (.bl (isBn t c)) h
noncomputable def Un:RS:=λ_ _=>.no
def Zz (i:Nat) (f:RS):RS:=fun ρ h=>(f ρ h).bnd λx h=>match x with| .nx ρ=>(match eg ρ i with| some (se d)=>Rz (X7 h d) λp=>.ok (.nx (Yf ρ i (se (.dic p.2.1 p.2.2)))) (hs h p.1 .no)| _=>.no)| .rt v=>.ok (.rt v) h
section
variable {f g:RS}{ρ ρ':R4}{h h':TH}
theorem oF (z:f ρ h=.ok (.nx ρ') h'):Ra f g ρ h=g ρ' h':=by unfold Ra;rw[z];rfl
end
section
end
section
variable {f g:RS}{ρ:R4}{h h':TH}{d:D}
theorem xR (z:f ρ h=.ok (.rt d) h'):Ra f g ρ h=.ok (.rt d) h':=by unfold Ra;rw[z];rfl
end
section
variable {f g:RS}{fT:RT}{ρ:R4}{h h':TH}
theorem iW (z:fT ρ h=.ok tj h'):RN fT f g ρ h=f ρ h':=by unfold RN;rw[z];rfl
end
section
variable {f g:RS}{fT:RT}{ρ:R4}{h h':TH}
theorem kF (z:fT ρ h=.ok ff h'):RN fT f g ρ h=g ρ h':=by unfold RN;rw[z];rfl
end
section
variable {fa:RE}{ρ ρ':R4}{h h':TH}{d:D}{fg:RG}
theorem jb (z:fa ρ h=.ok d h')(k:fg d ρ=se ρ'):Rn fa fg ρ h=.ok (.nx ρ') h':=by unfold Rn;rw[z];show Rz (fg d ρ) _=_;rw[k];rfl
end
section
variable {fa fb:RE}{ρ:R4}{h h' h2:TH}{d e:D}
theorem aG {o:D->D->TH->R D}{r:R D}(z1:fa ρ h=.ok d h')(z2:fb ρ h'=.ok e h2)(z3:o d e h2=r):Rp o fa fb ρ h=r:=by unfold Rp;rw[z1];show R.bnd (fb ρ h') _=_;rwa [z2]
end
section
variable {fa fb:RE}{ρ:R4}{h h' h2:TH}{x y:Int}
theorem Jt (z1:fa ρ h=.ok (.int x) h')(z2:fb ρ h'=.ok (.int y) h2)(p:0<y):Rp Ti fa fb ρ h=.ok (.int (x%y)) h2:=aG z1 z2 (by show RU (Z6 x y) _=_;unfold Z6;rw[gO,QZ p];rfl)
end
section
variable {fa fb:RE}{ρ:R4}{h h' h2:TH}{d:D}{l:List D}
theorem CB {i:Int}(z1:fa ρ h=.ok (.lst l) h')(z2:fb ρ h'=.ok (.int i) h2)(z3:ZG l i=se d):Rk fa fb ρ h=.ok d h2:=by unfold Rk;refine aG z1 z2 ?_;show gIx (.lst l) (.int i) h2=_;unfold gIx;show Rz (ZG l i) _=_;rw[z3];rfl
end
section
end
section
end
section
end
section
end
section
end
section
variable {f:RS}{h h' h2:TH}{e:D}
theorem Ju {keep:Bool}{n k:Nat}{ds:List D}{v:D}(hn:ds.length=n)(z:f (Vn ds k) h=.ok (.rt v) h')(t:trunc (Sn h) v h'=.ok e h2):Sy ff n k f ds h=.ok e h2:=by unfold Sy;rwa [z,aV,hn,show bZ n n=tj from gW n]
end
section
variable {f:RS}{h h':TH}
theorem mL {n k:Nat}{ds:List D}{v:D}(hn:ds.length=n)(z:f (Vn ds k) h=.ok (.rt v) h')(hl:h'.length=h.length):Sy ff n k f ds h=.ok v h':=Ju (keep:=ff) hn z (by unfold trunc;rw[aV,aV,hl,show bZ h.length h.length=tj from gW _];rfl)
end
section
end
def fnK (m n k:Nat) (f:RS) (ds:List D) (h:TH):R D:=RU (bZ (Sn ds) n) (match f (Vn ds k) h with| .ok (.nx _) h'=>RU (bQ (Sn h+m) (Sn h')) (trunc (Sn h+m) .non h')| .ok (.rt v) h'=>RU (bQ (Sn h+m) (Sn h')) (trunc (Sn h+m) v h')| _=>.no)
section
def gInt (xs:List D) (h:TH):R D:=match xs with| [.bl b]=>.ok (.int (bif b then 1 else 0)) h| [.int i]=>.ok (.int i) h| _=>.no
end
section
end
section
end
section
end
section
end
section
def erv (l:List D):List D:=bT (motive:=λ_=>List D->List D) (λa=>a) (λd _ ih a=>ih (d::a)) l []
end
section
theorem CD (l:List D):erv l=l.reverse:=by(have:∀l a,(bT (motive:=λ_=>List D->List D) (λa=>a) (λd _ ih a=>ih (d::a)) l a)=l.reverse++a:=λl=>by induction l with| nil=>intro a;rfl| cons d l ih=>simp_all);show(bT (motive:=λ_=>List D->List D) (λa=>a) (λd _ ih a=>ih (d::a)) l [])=_;simp_all
end
section
variable {fa fb:RE}
def Zy (m:Bool) (fa fb:RE):RE:=fun ρ h=>(fa ρ h).bnd λx h=>(fb ρ h).bnd λy h=>Rz (eL h x) λds=>match y with| .int (.ofNat 1)=>mk m ds h| .int (.negSucc 0)=>mk m (erv ds) h| _=>.no
end
section
variable {fa:RE}
def ZT (m:Bool) (fa:RE):RE:=fun ρ h=>(fa ρ h).bnd λx h=>Rz (eK h x) λp=>mk m (kds p.1) h
end
section
def gEqE (x y:D) (h:TH):R D:=Rz (eK h x) λp=>Rz (eK h y) λr=>match r.1 with| []=>.ok (.bl (match p.1 with| []=>tj| _=>ff)) h| _=>.no
end
section
variable {fA:RA}
def rPar (i j:Nat) (fA:RA):RS:=fun ρ h=>(fA ρ h).bnd λxs h=>match xs with| [x,y]=>.ok (.nx (Yf (Yf ρ i (se x)) j (se y))) h| _=>.no
end
open PySem NAL.EX
section
variable {f g:RS}{fT:RT}{fa:RE}{ρ ρ':R4}{h h' h2:TH}{d e v w:D}{l:List D}{x y:Int}{n m:Nat}{o:TM}
theorem fM:hn h=h.length:=aV h
theorem fO:hp h o=h++[o]:=gN _ _
theorem eq_int:TK neg (.int x) (.int y) h=.ok (.bl (neg^^decide (x=y))) h:=by rw[<-kE];rfl
theorem eq_str {x y:Q7}(hx:UQ 60 (.str x)=tj)(hy:UQ 60 (.str y)=tj):TK neg (.str x) (.str y) h=.ok (.bl (neg^^decide (x=y))) h:=by rw[<-mK];show RU (UQ 60 (.str x)&&UQ 60 (.str y)) _=_;rw[hx,hy];rfl
theorem lt_int:YY (.int x) (.int y) h=.ok (.bl (decide (x<y))) h:=by rw[<-gO];rfl
theorem gt_int:YO (.int x) (.int y) h=.ok (.bl (decide (y<x))) h:=by rw[<-gO];rfl
theorem le_int:gLe (.int x) (.int y) h=.ok (.bl (decide (x<=y))) h:=by show R.ok (D.bl (! YF y x)) h=_;rw[gO];congr 2;rw[fJ];simp
theorem ge_int:gGe (.int x) (.int y) h=.ok (.bl (decide (y<=x))) h:=by show R.ok (D.bl (! YF x y)) h=_;rw[gO];congr 2;rw[fJ];simp
theorem add_int {m:Bool}:UP m (.int x) (.int y) h=.ok (.int (x+y)) h:=rfl
theorem sub_int:X3 (.int x) (.int y) h=.ok (.int (x-y)) h:=rfl
theorem mod_int (p:0<y):Ti (.int x) (.int y) h=.ok (.int (x%y)) h:=by show RU (Z6 x y) _=_;unfold Z6;rw[gO,QZ p];rfl
theorem Vj {i:Nat}:ZG l i=l[i]?:=aW _ _
theorem CG:ZG l (-1)=l.getLast?:=by show(bif bH 0 (Sn l)then eg l (Sn l-1)else ng)=_;rw[aV,aW];cases l with| nil=>rfl| cons x l =>rw[show bH 0 (x::l).length=tj from cD.mpr (Nat.succ_pos _),pI];rfl
def cd (n:Nat):Nat->D->Prop| 0,_=>False| m+1,.lst ds=>∀d∈ds,cd n m d| m+1,.tup ds=>∀d∈ds,cd n m d| m+1,.dic _ ds=>∀d∈ds,cd n m d| _+1,.at i=>i<n| _+1,_=>True
theorem xS {n n':Nat}(hn:n<=n'):∀(m:Nat) {d:D},cd n m d->cd n' m d:=by intro m;induction m with| zero =>rintro _ z;exact z.elim| succ m ih =>rintro d z;cases d with| lst ds=>exact λd hd=>ih (z d hd)| tup ds=>exact λd hd=>ih (z d hd)| dic ks ds=>exact λd hd=>ih (z d hd)| «at» i=>exact iR (show i<n from z) hn| _=>trivial
theorem CI:∀(m:Nat) {d:D} {k:Nat},cd n m d->cd n (m+k) d:=by intro m;induction m with| zero =>rintro _ _ z;exact z.elim| succ m ih =>rintro d k z;rw[AK];cases d with| lst ds=>exact λd hd=>ih (z d hd)| tup ds=>exact λd hd=>ih (z d hd)| dic ks ds=>exact λd hd=>ih (z d hd)| «at» i=>exact z| _=>trivial
theorem jP {f:D->Option D}:∀{l:List D},(∀x∈l,f x=se x)->RB f l=se l:=by intro l;induction l with| nil =>rintro _;exact rfl| cons x l ih =>rintro h;exact Rt.mpr #[x,l,h x (.head _),ih λy hy=>h y (.tail _ hy),rfl]
theorem iF:∀(m:Nat) {d:D},cd n m d->fz h n m d=se d:=by intro m;induction m with| zero =>rintro d z;exact z.elim| succ m ih =>rintro d z;cases d with| lst ds=>show Uz (RB (fz h n m) ds) _=_;rw[jP λx hx=>ih (z x hx)];rfl| tup ds=>show Uz (RB (fz h n m) ds) _=_;rw[jP λx hx=>ih (z x hx)];rfl| dic ks ds=>show Uz (RB (fz h n m) ds) _=_;rw[jP λx hx=>ih (z x hx)];rfl| «at» i =>show(bif bH i n then se (D.at i) else _)=_;rw[cD.mpr (show i<n from z)];rfl| non=>rfl| bl _=>rfl| int _=>rfl| str _=>rfl| fn _=>rfl
def ct (n:Nat):TM->Prop| .ml ds=>∀d∈ds,cd n 9 d| .md _ ds=>∀d∈ds,cd n 9 d| .mi _ ds=>∀d∈ds,cd n 9 d| _=>True
def Cl (h:TH):Prop:=∀o∈h,ct h.length o
theorem oG (hn:n<=n')(z:ct n o):ct n' o:=by cases o with| ml ds=>exactλd hd=>xS hn 9 (z d hd)| md ks ds=>exactλd hd=>xS hn 9 (z d hd)| mi c ds=>exactλd hd=>xS hn 9 (z d hd)| _=>trivial
theorem Cl.app (z:Cl h)(zo:ct (h.length+1) o):Cl (h++[o]):=λp hp=>by rw[dW,wq];rcases c8.mp hp with hp | hp;exact oG (k8 _) (z p hp);simp_all
theorem Cl.set (z:Cl h)(zo:ct h.length o):Cl (h.set i o):=λp hp=>by rw[eV];rcases zX hp with hp | rfl;exact z p hp;exact zo
theorem rB (z:ct n o):fzo h n o=se o:=by cases o with| ml ds=>show Uz (RB (fz h n 9) ds) _=_;rw[jP λx hx=>iF 9 (z x hx)];rfl| md ks ds=>show Uz (RB (fz h n 9) ds) _=_;rw[jP λx hx=>iF 9 (z x hx)];rfl| mi c ds=>show Uz (RB (fz h n 9) ds) _=_;rw[jP λx hx=>iF 9 (z x hx)];rfl| mr _=>rfl| mx _=>rfl| mf _=>rfl| no=>rfl
theorem xT {f:TM->Option TM}:∀{l:TH},(∀x∈l,f x=se x)->RB f l=se l:=by intro l;induction l with| nil =>rintro _;exact rfl| cons x l ih =>rintro h;exact Rt.mpr #[x,l,h x (.head _),ih λy hy=>h y (.tail _ hy),rfl]
theorem bF (e:h'.length=n):trunc n v h'=.ok v h':=by unfold trunc;rw[aV,e,show bZ n n=tj from gW _];rfl
theorem u8 (c:Cl h)(z:fz (h++t) h.length 9 v=se w)(nt:t≠[]):trunc h.length v (h++t)=.ok w h:=by unfold trunc;rw[aV,show bZ (h++t).length h.length=ff from e9.mpr λz=>by exact nt (nZ.mp Β)];rw[rz,Ax,xT λx hx=>rB (c x hx)];rw[z];rfl;rfl
theorem li (c:Cl h)(z:cd h.length 9 v):trunc h.length v (h++t)=.ok v h:=by by_cases nt:t=[];subst nt;rw[mw];exact bF rfl;exact u8 c (iF 9 z) nt
theorem oH (c:Cl h)(hi:h.length<=i)(e:(h++t)[i]?=se (.ml l))(z:∀d∈l,cd h.length 8 d):trunc h.length (.at i) (h++t)=.ok (.lst l) h:=by refine u8 c ?_ ?_;show(bif bH i h.length then se (D.at i)else match eg (h++t) i with| some (.ml ds)=>Uz (RB (fz (h++t) h.length 8) ds) .lst| _=>ng)=_;rw[show bH i h.length=ff from e9.mpr λz=>by have:=cD.mp z;exact NAG.gl0 this hi,aW,e];grind[Uz,RB,fz,jP,iF];grind
section
variable {nx:Nx}{fg:RG}{fs:RS}{L:List D}
theorem CJ (Inv:Nat->R4->TH->Prop)(hx:∀i ρ h,Inv i ρ h->nx h i=se (L[i]?))(hs:∀i d ρ h,L[i]?=se d->Inv i ρ h->∃ ρ1 ρ2 h2,fg d ρ=se ρ1/\fs ρ1 h=.ok (.nx ρ2) h2/\Inv (i+1) ρ2 h2) :∀m i ρ h,i<=L.length->L.length<i+m->Inv i ρ h->∃ ρ' h',rGo nx fg fs m i ρ h=.ok (.nx ρ') h'/\Inv L.length ρ' h'| 0,i,ρ,h,h1,h2,_=>absurd h2 (by simp[*])| m+1,i,ρ,h,h1,h2,k=>by rw[xP,hx i ρ h k];by_cases lt:i<L.length;obtain⟨ρ1,ρ2,h3,q1,q2,q3⟩:=hs i _ ρ h (aT lt) k;obtain⟨ρ',h',q4,q5⟩:=CJ Inv hx hs m (i+1) ρ2 h3 lt (NAG.gl13 h2) q3;grind[Rz,R.bnd];grind
theorem Jv (Inv:Nat->R4->TH->Prop)(he:fi ρ h=.ok nx h')(hx:∀i ρ h,Inv i ρ h->nx h i=se (L[i]?))(hl:L.length<1000)(h0:Inv 0 ρ h')(hs:∀i d ρ h,L[i]?=se d->Inv i ρ h->∃ ρ1 ρ2 h2,fg d ρ=se ρ1/\fs ρ1 h=.ok (.nx ρ2) h2/\Inv (i+1) ρ2 h2) :∃ ρ2 h2,S8 fi fg fs ρ h=.ok (.nx ρ2) h2/\Inv L.length ρ2 h2:=by obtain⟨ρ2,h2,q,k⟩:=CJ Inv hx hs 1000 0 ρ h' (iT _) (by assumption) h0;refine#[ρ2,h2,?_,k];unfold S8;rwa [he]
theorem CK {l:List γ}{g:γ->D}{v:γ->D}(hx:∀i,nx h i=se ((l.map g)[i]?))(hs:∀a∈l,∃ ρ1,fg (g a) ρ=se ρ1/\fT ρ1 h=.ok (p a) h/\(p a=tj->fa ρ1 h=.ok (v a) h)) :∀m i,i<=l.length->l.length<i+m->Y3 nx fg fT fa ρ m i h=.ok (((l.drop i).filter p).map v) h| 0,i,h1,h2=>absurd h2 (by simp[*])| m+1,i,h1,h2=>by rw[qe,hx,bo];by_cases lt:i<l.length;obtain⟨ρ1,q1,q2,q3⟩:=hs l[i] (jI lt);have ih:=CK hx hs m (i+1) lt (NAG.gl13 h2);rw[aT lt,ui lt,jH];show Rz (fg (g l[i]) ρ) _=_;rw[q1];show R.bnd (fT ρ1 h).nox _=_;rw[q2];show(bif p l[i]then R.bnd (fa ρ1 h).nox _ else _)=_;(cases hb:p l[i]with| false=>exact ih| true =>rw[q3 hb];show R.bnd (Y3 nx fg fT fa ρ m (i+1) h) _=_;rw[ih];rfl);grind
theorem rD {l:List γ}{g:γ->D}{v:γ->D}(he:fi ρ h=.ok nx h')(hx:∀i,nx h' i=se ((l.map g)[i]?))(hl:l.length<1000)(hs:∀a∈l,∃ ρ1,fg (g a) (bf n ng++Zf ρ fr)=se ρ1/\fT ρ1 h'=.ok (p a) h'/\(p a=tj->fa ρ1 h'=.ok (v a) h')) :UJ N b fi n fr fg fT fa ρ h=mk b ((l.filter p).map v) h':=by show Wq b fi n fr fg fT fa ρ h=_;unfold Wq;rw[he];show R.bnd (Y3 nx fg fT fa _ 1000 0 h') _=_;rw[CK hx hs 1000 0 (iT _) (by assumption)];rfl
theorem u9 {l:List γ}{g:γ->D}{v:γ->D}(he:fi ρ h=.ok nx h')(hx:∀i,nx h' i=se ((l.map g)[i]?))(hl:l.length<1000)(hs:∀a∈l,∃ ρ1,fg (g a) (bf n ng++Zf ρ fr)=se ρ1/\fa ρ1 h'=.ok (v a) h') :UJ N b fi n fr fg Si fa ρ h=mk b (l.map v) h':=by have z:=rD (N:=N) (b:=b) (fT:=Si) he hx hl λa ha=>let #[ρ1,e1,e2]:=hs a ha;#[ρ1,e1,rfl,λ_=>e2];rwa [show l.filter (λ_=>tj)=l from wy.mpr λ_ _=>rfl] at z
theorem CL {l:List γ}{g:γ->D}(Inv:Nat->R4->TH->Prop)(he:fi ρ h=.ok nx h')(hx:∀i ρ h,Inv i ρ h->nx h i=se ((l.map g)[i]?))(hl:l.length<1000)(h0:Inv 0 ρ h')(hs:∀i a ρ h,l[i]?=se a->Inv i ρ h->∃ ρ1 ρ2 h2,fg (g a) ρ=se ρ1/\fs ρ1 h=.ok (.nx ρ2) h2/\Inv (i+1) ρ2 h2) :∃ ρ2 h2,S8 fi fg fs ρ h=.ok (.nx ρ2) h2/\Inv l.length ρ2 h2:=by(obtain⟨ρ2,h2,q,k⟩:=Jv Inv he hx Β h0 λi d ρ h hd I=>by rw[bo,jM] at hd;obtain⟨a,ha,rfl⟩:=hd;exact hs i a ρ h ha I);grind
theorem c9 (i:Nat):VS (.lst l) h i=se (l[i]?):=by show se (eg l i)=_;rw[aW]
theorem rE (i:Nat):nRg n h i=se (((aR n).map λk:Nat=>D.int k)[i]?):=by show se (bif bH i n then se (D.int (.ofNat i))else ng)=_;rw[bo];by_cases z:i<n;rw[cD.mpr z,ko z];rfl;rw[show bH i n=ff from e9.mpr λy=>z (cD.mp y),fh Β];rfl
theorem CM (i:Nat):nEn (.lst l) h i=se ((l.zipIdx.map λp=>D.tup [.int p.2,p.1])[i]?):=by show se (Uz (eg l i) λx=>D.tup [.int (.ofNat i),x])=_;rw[aW,bo,n8];cases l[i]? with| none=>rfl| some x=>simp[Uz]
theorem CN (i:Nat):nZp [.lst l,.lst l'] h i=se (((l.zip l').map λp=>D.tup [p.1,p.2])[i]?):=by show Uz (eZ h i [.lst l,.lst l']) _=_;rw[bo];unfold List.zip;rw[wt];unfold eZ;simp only[eS,aW];cases l[i]?<;>cases l'[i]?<;>rfl
theorem CO (i:Nat):nZp [.lst l,.lst l',.lst l2] h i=se (((l.zip (l'.zip l2)).map λp=>D.tup [p.1,p.2.1,p.2.2])[i]?):=by show Uz (eZ h i [.lst l,.lst l',.lst l2]) _=_;rw[bo];unfold List.zip;rw[wt,wt];unfold eZ;simp only[eS,aW];cases l[i]?<;>cases l'[i]?<;>cases l2[i]?<;>rfl
end
theorem va:Y8 fT fs (m+1) ρ h=(fT ρ h).bnd λb h=>bif b then(fs ρ h).bnd λx h=>match x with| .nx ρ=>Y8 fT fs m ρ h| .rt v=>.ok (.rt v) h else .ok (.nx ρ) h:=rfl
theorem CQ {fs:RS}:∀(m:Nat) {ρ:R4} {h:TH} {k:Nat},Y8 fT fs m ρ h≠.no->Y8 fT fs (m+k) ρ h=Y8 fT fs m ρ h:=by intro m;induction m with| zero =>rintro _ _ _ z;exact absurd rfl z| succ m ih =>rintro ρ h k z;rw[AK,va,va];rw[va] at z;cases e:fT ρ h with| ex c h=>rfl| no=>rfl| ok b h1 =>rw[e] at z;cases b with| false=>rfl| true =>replace z:(R.bnd (fs ρ h1) λx h=>match x with| .nx ρ=>Y8 fT fs m ρ h| .rt v=>.ok (.rt v) h) ≠ .no:=z;show(R.bnd (fs ρ h1) λx h=>match x with| .nx ρ=>Y8 fT fs (m+k) ρ h| .rt v=>.ok (.rt v) h)=_;show _=(R.bnd (fs ρ h1) λx h=>match x with| .nx ρ=>Y8 fT fs m ρ h| .rt v=>.ok (.rt v) h);cases e2:fs ρ h1 with| ex c h=>rfl| no=>rfl| ok y h3 =>rw[e2] at z;cases y with| rt v=>rfl| nx ρ2=>exact ih z
open Classical in
theorem Jw {fs:RS}(z:Y8 fT fs m ρ h≠.no):UE ng fT fs ρ h=Y8 fT fs m ρ h:=by
 have k:∃m,Y8 fT fs m ρ h≠.no:=#[m,z];show(if k:∃m,Y8 fT fs m ρ h≠.no then Y8 fT fs k.choose ρ h else .no)=_
 rw[dif_pos k,<-CQ m (k:=k.choose) z,<-CQ k.choose (k:=m) k.choose_spec,Nat.add_comm]
theorem Jx {fs:RS}(Inv:Nat->R4->TH->Prop)(iM:R4->TH->Prop)(hs:∀m ρ h,Inv m ρ h->∃b h1,fT ρ h=.ok b h1/\(b=tj->∃ ρ2 h2 m',fs ρ h1=.ok (.nx ρ2) h2/\m'<m/\Inv m' ρ2 h2)/\(b=ff->iM ρ h1))(h0:Inv n ρ h) :∃ ρ' h',UE ng fT fs ρ h=.ok (.nx ρ') h'/\iM ρ' h':=by(have A:∀k m ρ h,m<k->Inv m ρ h->∃ ρ' h',Y8 fT fs k ρ h=.ok (.nx ρ') h'/\iM ρ' h':=λk=>by induction k with| zero=>intro m ρ h lt;simp_all| succ k ih =>intro m ρ h lt I;obtain⟨b,h1,e1,e2,e3⟩:=hs m ρ h I;rw[va,e1];cases b with| false=>exact#[ρ,h1,rfl,e3 rfl]| true =>obtain⟨ρ2,h2,m',e4,lt',I'⟩:=e2 rfl;obtain⟨ρ',h',e5,p⟩:=ih m' ρ2 h2 (by lia) I';refine#[ρ',h',?_,p];show(R.bnd (fs ρ h1) _)=_;rw[e4];exact e5);obtain⟨ρ',h',e,p⟩:=A (n+1) n ρ h (ky _) h0;exact#[ρ',h',(Jw (by rw[e];intro z;cases z)).trans e,p]
theorem xU (hn:ds.length=n)(z:f (Vn ds k) h=.ok (.nx ρ') h')(t:trunc h.length .non h'=.ok e h2):Sy ff n k f ds h=.ok e h2:=by unfold Sy;rwa [z,aV,hn,show bZ n n=tj from gW n,aV]
theorem rF (hn:ds.length=n)(z:f (Vn ds k) h=.ok (.rt v) h')(t:trunc h.length v h'=.ok e h2):Sy ff n k f ds h=.ok e h2:=by unfold Sy;rwa [z,aV,hn,show bZ n n=tj from gW n,aV]
end
end NAL.RX
namespace NAM
open PySem PySem.Spec PyProof.Rows NAL NAL.EX NAL.RX
abbrev Xn:RS:=(Ra (Yw qR (RL 0 3 (rV 0)) (rV 7) (Rk (RL 0 2 (rV 0)) (rV 5))) (V1 (Wu (Rk (RL 0 4 (rV 0)) (rV 7)) (Q2 (rV 5) Q6))))
abbrev YV:RS:=(S8 (Td (rV 6)) (rN 7) Xn)
def VD:=fnK 2 5 3 (Ra (X2 0 0 (rV 0) (RW R3 (Q2 (rV 1) Q6))) (Ra (X2 0 1 (rV 0) (UJ ["give","take","self"] ff (Td (rV 3)) 2 [0] (WH 0 1) Si (TZ (Q2 (rV 0) (Q2 (Rp (UP ff) (RL 0 0 (rV 2)) (rV 1)) Q6))))) (Ra (X2 0 2 (rV 0) (RW (Ws tj) (Q2 (rV 4) Q6))) (Ra (X2 0 3 (rV 0) (Rp (UP tj) (rV 1) (rV 2))) (Ra (X2 0 4 (rV 0) (UJ ["end"] ff (Td (RL 0 3 (rV 0))) 1 [] (rN 0) Si (Sj tj Q6))) (S8 (rIe (RL 0 1 (rV 0))) (WH 5 6) YV))))))
def R8:=Sy ff 1 0 (Rr (UJ ["give","self"] ff (rIr (Q2 (RL 0 0 (rV 0)) Q6)) 1 [0] (rN 0) (Rj (Rp YO (Rk (RL 0 3 (rV 1)) (rV 0)) [Α,0])) (rV 0)))
def SG:=Sy ff 2 0 (Rr (RW (Yj Zi) (Q2 (UJ ["end","self"] ff (Td (rV 1)) 1 [0] (rN 0) Si (TP (Rp gGe (rV 0) (RL 0 0 (rV 1))) (Rp YO (Rk (RL 0 3 (rV 1)) (rV 0)) [Α,0]))) Q6)))
def Tz:=Sy ff 3 1 (Ra (Rn (Rk (RL 0 1 (rV 0)) (rV 2)) (rN 3)) (Rr (Z3 (Rj (Rp (TK ff) (rV 1) (Rk (rV 3) [Α,0]))) (Rk (rV 3) [Α,1]) (Rk (rV 3) [Α,0]))))
def UL:=Sy ff 3 0 (Rr (Y9 (Rp YY (rV 1) (RL 0 0 (rV 0))) (Rp YO (Rk (RL 0 2 (rV 0)) (rV 2)) [Α,0])))
abbrev Xg:RS:=(Ra (Rn (Rv 0 Tz (rV 0) (Q2 (rV 4) (Q2 (rV 5) Q6))) (rN 6)) (RN (WJ (Rj (Rp YY (Rk (rV 2) (rV 6)) [Α,0])) (Rj (Rv 0 UL (rV 0) (Q2 (rV 4) (Q2 (rV 5) Q6))))) (Ra (WE (Rp (UP ff) (Rk (rV 2) (rV 4)) [Α,1]) (rV 2) (rV 6)) (V1 (Wu (rV 3) (Q2 (rV 6) Q6)))) Rw))
abbrev UZ:RS:=(S8 (Td (Rk (RL 0 4 (rV 0)) (rV 4))) (rN 5) Xg)
def Ut:=Sy ff 3 4 (Ra (Rn (Sj tj Q6) (rN 3)) (Ra (S8 (Td (rV 1)) (rN 4) UZ) (Rr (rV 3))))
abbrev Ug:RS:=(WE [Α,0] (rV 1) (rV 3))
abbrev Ui:RT:=(WJ (Rj (Rp YO (RW R3 (Q2 (rV 2) Q6)) [Α,0])) (V6 (Rj (Rv 0 SG (rV 0) (Q2 (rV 2) Q6)))))
abbrev Uf:RS:=(Rn (Rv 0 Ut (rV 0) (Q2 (rV 2) (Q2 (rV 1) Q6))) (rN 2))
def SP:=Sy ff 1 3 (Ra (Rn (Rp (Uq tj) (Sj ff (Q2 (rUn YH [Α,1]) Q6)) (RW R3 (Q2 (RL 0 3 (rV 0)) Q6))) (rN 1)) (Ra (Rn (Rv 0 R8 (rV 0) Q6) (rN 2)) (Ra (S8 (Td (rV 2)) (rN 3) Ug) (Ra (UE ng Ui Uf) (Rr (rV 1))))))
def UV:=Sy ff 4 0 (Rr (TP (Rp (TK ff) (Rk (rV 3) (Rv 0 Tz (rV 0) (Q2 (rV 1) (Q2 (rV 2) Q6)))) (Rp (UP ff) (Rk (rV 3) (rV 1)) [Α,1])) (Rv 0 UL (rV 0) (Q2 (rV 1) (Q2 (rV 2) Q6)))))
abbrev T9:RT:=(WJ (Rj (Rp YY (Rk (rV 3) (rV 1)) (RW R3 (Q2 (rV 4) Q6)))) (V6 (Rj (Rv 0 UV (rV 0) (Q2 (rV 1) (Q2 (Rk (rV 4) (Rk (rV 3) (rV 1))) (Q2 (rV 2) Q6)))))))
abbrev T8:RS:=(Yw ug (rV 3) (rV 1) [Α,1])
def Tj:=Sy ff 4 1 (Ra (Rn (Rk (RL 0 4 (rV 0)) (rV 1)) (rN 4)) (UE ng T9 T8))
abbrev Vy:RT:=(WJ (Rj (Rp YO (RW R3 (Q2 (rV 5) Q6)) [Α,0])) (V6 (Rj (Rv 0 SG (rV 0) (Q2 (Sj ff (Q2 (Rk (rV 5) (rUn YH [Α,1])) Q6)) Q6)))))
abbrev Vx:RS:=(Ra (Rn (Rk (rV 5) (rUn YH [Α,1])) (rN 6)) (Ra (V1 (Rv 0 Tj (rV 0) (Q2 (rV 6) (Q2 (rV 2) (Q2 (rV 3) Q6))))) (RN (Rj (Rp YY (Rk (rV 3) (rV 6)) (RW R3 (Q2 (Rk (RL 0 4 (rV 0)) (rV 6)) Q6)))) (Ra (Rn (Rk (Rk (RL 0 4 (rV 0)) (rV 6)) (Rk (rV 3) (rV 6))) (rN 7)) (Ra (V1 (Wu (rV 4) (Q2 (rV 7) Q6))) (V1 (Wu (rV 5) (Q2 (Rv 0 Tz (rV 0) (Q2 (rV 6) (Q2 (rV 7) Q6))) Q6))))) (Ra (V1 (Yd (rV 5))) (RN (Rj (Rp YO (RW R3 (Q2 (rV 5) Q6)) [Α,0])) (Ra (V1 (Yd (rV 4))) (Yw ug (rV 3) (Rk (rV 5) (rUn YH [Α,1])) [Α,1])) Rw)))))
def TV:=Sy ff 4 4 (Ra (Rn (Sj tj Q6) (rN 4)) (Ra (Rn (Sj tj (Q2 (rV 1) Q6)) (rN 5)) (Ra (UE ng Vy Vx) (Rr (rV 4)))))
abbrev Xf:RS:=(Yw ug (RL 0 2 (rV 0)) (rV 5) (rV 4))
abbrev Xe:RS:=(Yw qR (RL 0 2 (rV 0)) (rV 5) (rV 4))
def Tn:=Sy ff 3 3 (Ra (Rn (Rk (Rk (RL 0 1 (rV 0)) (Rk (rV 2) (rUn YH [Α,1]))) [Α,1]) (rN 3)) (Ra (Rn (RW gMin (Q2 (Rp (UP ff) (Sj ff (Q2 (Rk (RL 0 3 (rV 0)) (rV 1)) (Q2 (Rk (RL 0 3 (rV 0)) (rV 3)) Q6))) (UJ ["tie","self"] ff (Td (Zp ff ff (rV 2))) 1 [0] (rN 0) Si (Rk (RL 0 2 (rV 1)) (rV 0)))) Q6)) (rN 4)) (Ra (S8 (Td (Zp ff tj (rV 2))) (rN 5) Xf) (Ra (S8 (Td (Zp ff ff (rV 2))) (rN 5) Xe) (Ra (Yw qR (RL 0 3 (rV 0)) (rV 1) (rV 4)) (Yw qR (RL 0 3 (rV 0)) (rV 3) (rV 4)))))))
abbrev V5:RT:=(Rj (Rp YO (RW R3 (Q2 (rV 4) Q6)) [Α,0]))
abbrev V4:RS:=(Ra (V1 (Rv 0 Tn (rV 0) (Q2 (rV 3) (Q2 (rV 4) Q6)))) (Rn (Z3 (Rj (Rp YO (Rk (RL 0 3 (rV 0)) (rV 3)) [Α,0])) (Rv 0 TV (rV 0) (Q2 (rV 3) (Q2 (rV 1) (Q2 (rV 2) Q6)))) (Sj ff Q6)) (rN 4)))
abbrev Uh:RS:=(Ra (Rn (Rv 0 TV (rV 0) (Q2 (rV 3) (Q2 (rV 1) (Q2 (rV 2) Q6)))) (rN 4)) (UE ng V5 V4))
def Tx:=Sy ff 2 3 (Ra (Rn (Rp (Uq tj) (Sj ff (Q2 [Α,0] Q6)) (RW R3 (Q2 (RL 0 3 (rV 0)) Q6))) (rN 2)) (S8 (Td (Rv 0 R8 (rV 0) Q6)) (rN 3) Uh))
abbrev Xq:RT:=(Rj (Rv 0 SG (rV 0) (Q2 (UJ ["end","step"] ff (rIe (rV 1)) 2 [] (WH 0 1) (Rj (Rp gGe (rV 1) [Α,0])) (rV 0)) Q6)))
abbrev Xo:RS:=(Ra (V1 (Rv 0 Tx (rV 0) (Q2 (rV 1) Q6))) (Rn (Rv 0 SP (rV 0) Q6) (rN 1)))
def WT:=Sy ff 1 1 (Ra (Rn (Rv 0 SP (rV 0) Q6) (rN 1)) (Ra (UE ng Xq Xo) (Rr (UJ ["step"] ff (Td (rV 1)) 1 [] (rN 0) Si (Rp gGe (rV 0) [Α,0])))))
def WO:=Sy ff 4 2 (Ra (Rn (RW (XQ 0 VD) (Q2 (rV 0) (Q2 (rV 1) (Q2 (rV 2) (Q2 (rV 3) Q6))))) (rN 4)) (Ra (Rn (Rv 0 WT (rV 4) Q6) (rN 5)) (Rr (TZ (Q2 (RL 0 2 (rV 4)) (Q2 (TZ (Q2 (rSl ff (rV 5) rO0 (Z1 (RW R3 (Q2 (rV 0) Q6)))) (Q2 (rSl ff (rV 5) (Z1 (RW R3 (Q2 (rV 0) Q6))) rO0) Q6))) Q6))))))
def Xz:=Sy ff 3 0 (Rr (RW WO (Q2 (rV 0) (Q2 (rV 1) (Q2 (rV 2) (Q2 (Rp (Uq ff) (Sj ff (Q2 [Α,0] Q6)) (RW R3 (Q2 (rV 2) Q6))) Q6))))))
abbrev Zm:RS:=(V1 (rExt (rV 3) (Q2 (UJ ["hand","give","place_of"] ff (Td (Rk (rV 0) (rV 5))) 1 [4,2] (rN 0) (Rj (Rp (Xj ff) (rV 0) (rV 2))) (TZ (Q2 (rV 1) (Q2 (Rk (rV 2) (rV 0)) Q6)))) Q6)))
def VW:=Sy ff 2 4 (Ra (Rn (RW (VV ff) (Q2 (UJ ["place","hand"] ff (rIe (Rk (rV 1) [Α,0])) 2 [] (WH 0 1) Si (TZ (Q2 (rV 1) (Q2 (rV 0) Q6)))) Q6)) (rN 2)) (Ra (Rn (Sj tj Q6) (rN 3)) (Ra (S8 (rIe (Rk (rV 1) [Α,1])) (WH 4 5) Zm) (Rr (rV 3)))))
def X4:=Sy ff 2 0 (Rr (RW gSum (Q2 (UJ ["chore","works"] ff (Td (Rk (rV 1) [Α,1])) 1 [0] (rN 0) Si (Rk (rV 1) (rV 0))) Q6)))
def W8:=Sy ff 3 2 (Ra (Rn (RW R3 (Q2 (Rk (rV 2) [Α,0]) Q6)) (rN 3)) (Ra (Rn (UJ ["chore","works","many"] ff (Td (Rk (rV 2) [Α,1])) 1 [0,3] (rN 0) Si (Rp (Uq ff) (Rk (rV 1) (rV 0)) (rV 2))) (rN 4)) (Rr (RW Xz (Q2 (rV 4) (Q2 (Rp (Uq ff) (Sj ff (Q2 (RW X4 (Q2 (rV 0) (Q2 (rV 2) Q6))) Q6)) (rV 3)) (Q2 (RW VW (Q2 (rV 1) (Q2 (rV 2) Q6))) Q6)))))))
def XR:=Sy ff 3 0 (Rr (UJ ["thing","mark","wanted"] ff (Z2 (rV 0) (rV 1)) 2 [2] (WH 0 1) (Rj (Rp (TK ff) (rV 1) (rV 2))) (rV 0)))
abbrev Xp:RT:=(Rj (Rp YO (RW R3 (Q2 (rV 4) Q6)) [Α,0]))
abbrev YT:RS:=(V1 (Wu (rV 4) (Q2 (TZ (Q2 (RW XR (Q2 (Rk (rV 5) [Α,0]) (Q2 (Rk (rV 6) [Α,1]) (Q2 (rV 7) Q6)))) (Q2 (RW XR (Q2 (Rk (rV 5) [Α,1]) (Q2 (Rk (rV 6) [Α,0]) (Q2 (rV 7) Q6)))) Q6))) Q6)))
abbrev Xm:RS:=(Ra (Rn (Yd (rV 4)) (rN 5)) (Ra (Rn (Rk (RW W8 (Q2 (rV 0) (Q2 (rV 1) (Q2 (rV 5) Q6)))) [Α,1]) (rN 6)) (RN (Rj (RW (Yj Zi) (Q2 (Rk (rV 6) [Α,1]) Q6))) (S8 (Td (TZ (Q2 (rC (.bl ff)) (Q2 (rC (.bl tj)) Q6)))) (rN 7) YT) (V1 (Wu (rV 3) (Q2 (rV 5) Q6))))))
def WP:=Sy ff 3 5 (Ra (Rn (Sj tj Q6) (rN 3)) (Ra (Rn (Z3 (Rj (Rp YO (rV 2) [Α,0])) (Sj tj (Q2 (TZ (Q2 (XH ff (rV 2)) (Q2 (XH ff (RW R3 (Q2 (rV 0) Q6))) Q6))) Q6)) (Sj tj Q6)) (rN 4)) (Ra (UE ng Xp Xm) (Rr (rV 3)))))
def Vl:=Sy ff 1 0 (Rr (TP (Xr 2 (rV 0)) (rNotV (Xr 1 (rV 0)))))
abbrev WA:RT:=(Rj (Rp YO (rV 3) [Α,0]))
abbrev Wx:RS:=(Ra (Rn (Rp Ti (rV 2) (rV 3)) (rN 4)) (Ra (Rn (rV 3) (rN 2)) (Rn (rV 4) (rN 3))))
def Ur:=Sy ff 2 3 (Ra (Rn (RW Zs (Q2 (rV 0) Q6)) (rN 2)) (Ra (Rn (RW Zs (Q2 (rV 1) Q6)) (rN 3)) (Ra (UE ng WA Wx) (Rr (rV 2)))))
def W9:=Sy ff 2 1 (Ra (RN (Za (V6 (Rj (RW Vl (Q2 (rV 0) Q6)))) (Za (V6 (Rj (RW Vl (Q2 (rV 1) Q6)))) (Rj (Rp (TK ff) (rV 1) [Α,0])))) Un Rw) (Ra (Rn (RW Ur (Q2 (rV 0) (Q2 (rV 1) Q6))) (rN 2)) (Ra (RN (Rj (Rp YY (rV 1) [Α,0])) (Rn (rUn YH (rV 2)) (rN 2)) Rw) (Rr (TZ (Q2 (Rp UO (rV 0) (rV 2)) (Q2 (Rp UO (rV 1) (rV 2)) Q6)))))))
def Vz:=Sy ff 3 1 (Ra (Rn (Rk (RW W8 (Q2 (rV 0) (Q2 (rV 1) (Q2 (rV 2) Q6)))) [Α,0]) (rN 3)) (Rr (UJ ["amount","crowd"] ff (Td (rV 3)) 1 [2] (rN 0) Si (RW W9 (Q2 (rV 0) (Q2 (RW R3 (Q2 (Rk (rV 1) [Α,0]) Q6)) Q6))))))
abbrev Xl:RS:=(Ra (Rn (Rk (Rk (rV 5) [Α,1]) (Rk (rV 7) [Α,0])) (rN 9)) (WE (rV 8) (Rk (rV 4) (rV 9)) (rIdx (Rk (rV 0) (rV 9)) (Q2 (Rk (Rk (rV 5) [Α,0]) (Rk (rV 7) [Α,1])) Q6))))
abbrev YS:RS:=(S8 (Z2 (RW VW (Q2 (rV 0) (Q2 (rV 5) Q6))) (rV 6)) (WH 7 8) Xl)
def WN:=Sy ff 4 6 (Ra (Rn (UJ ["hands","nothing"] ff (Td (rV 0)) 1 [3] (rN 0) Si (Rp (Uq tj) (Sj ff (Q2 (rV 1) Q6)) (RW R3 (Q2 (rV 0) Q6)))) (rN 4)) (Ra (S8 (Z2 (rV 1) (rV 2)) (WH 5 6) YS) (Rr (rV 4))))
def UK:=Sy ff 3 2 (Ra (Rn (RW WP (Q2 (rV 0) (Q2 (rV 1) (Q2 (rV 2) Q6)))) (rN 3)) (Ra (Rn (UJ ["crowd","works","doers"] ff (Td (rV 3)) 1 [0,1] (rN 0) Si (RW Vz (Q2 (rV 1) (Q2 (rV 2) (Q2 (rV 0) Q6))))) (rN 4)) (Rr (RW WN (Q2 (rV 1) (Q2 (rV 3) (Q2 (rV 4) (Q2 (TZ (Q2 [Α,0] (Q2 [Α,1] Q6))) Q6))))))))
def UG:=Sy ff 2 3 (Ra (Rn (RW Ur (Q2 (Rk (rV 0) [Α,1]) (Q2 (Rk (rV 1) [Α,1]) Q6))) (rN 2)) (Ra (Rn (Rp (UP ff) (Rp (Uq ff) (Rk (rV 0) [Α,0]) (Rp UO (Rk (rV 1) [Α,1]) (rV 2))) (Rp (Uq ff) (Rk (rV 1) [Α,0]) (Rp UO (Rk (rV 0) [Α,1]) (rV 2)))) (rN 3)) (Ra (Rn (RW Ur (Q2 (rV 3) (Q2 (rV 2) Q6))) (rN 4)) (Rr (TZ (Q2 (Rp UO (rV 3) (rV 4)) (Q2 (Rp (Uq ff) (Rp UO (Rk (rV 0) [Α,1]) (rV 2)) (Rp UO (Rk (rV 1) [Α,1]) (rV 4))) Q6)))))))
abbrev VP:RS:=(Rn (RW UG (Q2 (rV 1) (Q2 (rV 2) Q6))) (rN 1))
def Vk:=Sy ff 1 2 (Ra (Rn (TZ (Q2 [Α,0] (Q2 [Α,1] Q6))) (rN 1)) (Ra (S8 (Td (rV 0)) (rN 2) VP) (Rr (rV 1))))
abbrev UY:RS:=(V1 (Wu (Rk (rV 3) (rV 6)) (Q2 (rV 7) Q6)))
abbrev Xd:RS:=(S8 (Z2 (rV 4) (rV 5)) (WH 6 7) UY)
def Tk:=Sy ff 3 5 (Ra (Rn (UJ ["hand"] ff (rIr (Q2 (rV 1) Q6)) 1 [] (rN 0) Si (Sj tj Q6)) (rN 3)) (Ra (S8 (Z2 (rV 0) (rV 2)) (WH 4 5) Xd) (Rr (UJ ["parts"] ff (Td (rV 3)) 1 [] (rN 0) Si (RW Vk (Q2 (rV 0) Q6))))))
def X6:=Sy ff 3 0 (Rr (TP (Rp (gIs tj) (rV 1) (rC .non)) (RW (Yj Zi) (Q2 (UJ ["hand","share","stayed"] ff (Z2 (rV 0) (rV 1)) 2 [2] (WH 0 1) Si (TP (Rp YO (Rk (rV 1) [Α,0]) [Α,0]) (Rk (rV 2) (rV 0)))) Q6))))
def X5:=Sy ff 5 3 (Ra (Rn (RW UK (Q2 (rV 0) (Q2 (rV 1) (Q2 (rV 2) Q6)))) (rN 5)) (Ra (Rn (RW Tk (Q2 (rV 1) (Q2 (rV 2) (Q2 (rV 5) Q6)))) (rN 6)) (Ra (Rn (UJ ["load","old_load"] ff (Z2 (rV 6) (rV 4)) 2 [] (WH 0 1) Si (Rp (TK ff) (rV 0) (rV 1))) (rN 7)) (Rr (UJ ["hands","old","new","stayed"] ff (rIz3 (rV 1) (rV 3) (rV 5)) 3 [7] (rN3 0 1 2) Si (Z3 (Rj (RW X6 (Q2 (rV 0) (Q2 (rV 1) (Q2 (rV 3) Q6))))) (RW (Ws ff) (Q2 (rV 1) Q6)) (rV 2)))))))
end NAM
namespace NAP
section
variable {α:Type}
noncomputable def Ub (R:List (List α)) (t:Nat×Nat×α):List (List α):=R.set t.1 ((R.getD t.1 []).set t.2.1 t.2.2)
noncomputable def YR (no:α) (R:List (List α)) (x k:Nat):α:=(R.getD x []).getD k no
noncomputable def S2 (no:α) (n:Nat) (ln:Nat->Nat) (W:Nat->Nat->α->Int) (R:List (List α)):Int:=((aR n).map λx=>((aR (ln x)).map λk=>W x k (YR no R x k)).sum).sum
def Z9 (n:Nat)(ln:Nat->Nat)(R:List (List α)):Prop:=R.length=n/\∀x<n,(R.getD x []).length=ln x
variable {no:α}{n:Nat}{ln:Nat->Nat}{W:Nat->Nat->α->Int}{R:List (List α)}
theorem xV {l:List β}{v d:β}(h:i<l.length):(l.set i v).getD j d=if j=i then v else l.getD j d:=by grind
theorem Z9.put (s:Z9 n ln R)(hx:x<n):Z9 n ln (Ub R (x,k,a)):=by refine#[by unfold Ub;rw[eV];exact s.1,λy hy=>?_];unfold Ub;rw[xV (by rwa [s.1])];split;rename_i c;subst c;rw[eV];exact s.2 y hy;exact s.2 y hy
theorem XU (s:Z9 n ln R)(hx:x<n)(hk:k<ln x)(y j:Nat):YR no (Ub R (x,k,a)) y j=if y=x/\j=k then a else YR no R y j:=by unfold YR Ub;rw[xV (by rwa [s.1])];by_cases c:y=x;subst c;rw[QY rfl,xV (by rwa [s.2 y hx])];lia;simp_all
theorem Yq (F F':Nat->Int)(g:Nat)(h:∀k,k≠g->F' k=F k):∀n:Nat,g<n->((aR n).map F').sum=((aR n).map F).sum+(F' g-F g):=by intro n;induction n with| zero =>rintro hn;simp_all| succ n ih =>rintro hn;rw[og,cV,cV,jJ,jJ];simp only[be,kZ,bL,oh,uf];by_cases c:n=g;grind[aR,cz];rw[ih (NAG.gl43 hn c),h n c];exact NAG.gl44
theorem Jy (s:Z9 n ln R)(hx:x<n)(hk:k<ln x):S2 no n ln W (Ub R (x,k,a))=S2 no n ln W R+(W x k a-W x k (YR no R x k)):=by unfold S2;rw[Yq (λy=>((aR (ln y)).map λj=>W y j (YR no R y j)).sum) (λy=>((aR (ln y)).map λj=>W y j (YR no (Ub R (x,k,a)) y j)).sum) x (λy hy=>by congr 1;refine cz λj _=>?_;rw[XU s hx hk,QX (λz=>hy z.1)]) n hx];rw[Yq (λj=>W x j (YR no R x j)) (λj=>W x j (YR no (Ub R (x,k,a)) x j)) k (λj hj=>by rw[XU s hx hk,QX (λz=>hj z.2)]) (ln x) hk];rw[XU s hx hk,QY #[rfl,rfl]];lia
theorem fold_S2 (w0:∀x k,W x k no=0):∀(T:List (Nat×Nat × α)) (R:List (List α)),Z9 n ln R->(∀t∈T,t.1<n/\t.2.1<ln t.1)->T.Pairwise (λt u=>¬(t.1=u.1/\t.2.1=u.2.1))->(∀t∈T,YR no R t.1 t.2.1=no)->Z9 n ln (T.foldl Ub R)/\S2 no n ln W (T.foldl Ub R)=S2 no n ln W R+(T.map λt=>W t.1 t.2.1 t.2.2).sum:=by intro T;induction T with| nil =>rintro R s _ _ _;exact#[s,by simp]| cons t T ih =>rintro R s hb hp hn;obtain⟨b1,b2⟩:=hb t aO;have dJ:=ut.mp hp;have s':Z9 n ln (Ub R t):=s.put (x:=t.1) (k:=t.2.1) (a:=t.2.2) b1;obtain⟨r1,r2⟩:=ih (Ub R t) s' (λu hu=>hb u (a7 _ hu)) dJ.2 (λu hu=>by have e:YR no (Ub R t) u.1 u.2.1=_:=XU (x:=t.1) (k:=t.2.1) (a:=t.2.2) s b1 b2 u.1 u.2.1;rw[e,QX (λz=>dJ.1 u hu #[z.1.symm,z.2.symm])];exact hn u (a7 _ hu));refine#[r1,?_];have e:S2 no n ln W (Ub R t)=_:=Jy (x:=t.1) (k:=t.2.1) (a:=t.2.2) s b1 b2;rw[pO,r2,e,be,bL,hn t aO,w0];lia
theorem fold_all {P:α->Prop}(p0:P no):∀(T:List (Nat×Nat × α)) R,(∀t∈T,P t.2.2)->(∀r∈R,∀a∈r,P a)->∀r∈T.foldl Ub R,∀a∈r,P a:=by intro T;induction T with| nil =>rintro R _ h;exact h| cons t T ih =>rintro R ht h;refine ih (Ub R t) (λu hu=>ht u (a7 _ hu)) λr hr a ha=>?_;grind[Ub,zX,bR,aT,jI,fh,aO]
end
theorem Yp {β:Type}{F:β->Int}:∀{l:List β} {i:Nat} {y:β},l[i]?=se y->(∀(j:Nat) z,l[j]?=se z->j≠i->F z=0)->(l.map F).sum=F y| x::r,0,y,h,k=>by cases h;rw[be,bL];(have:(r.map F).sum=0:=by(have:∀z∈r,F z=0:=λz hz=>by obtain⟨j,hj⟩:=bz hz;exact k (j+1) z (by assumption) Β);rw[cz this,Va]);simp_all| x::r,i+1,y,h,k=>by rw[be,bL,k 0 x rfl (by lia),nY];exact Yp (by assumption) λj z hj hn=>k (j+1) z (by assumption) Β
theorem YB:∀ends ac e,load ends ac e=((ends.zip ac).map λq=>[Δ,Ym q.1 e,q.2]).sum| [],_,_=>by rfl| _::_,[],_=>by rfl| p::r,s::q,e=>by rw[load,iB,be,bL,YB r q e]
theorem Jz (F:Nat->Nat->Int)(m:Nat):∀n,upTo (λi=>upTo (λh=>F i h) m) n=upTo (λh=>upTo (λi=>F i h) n) m:=by intro n;induction n with| zero =>exact(Sf m).symm| succ n ih =>show upTo (λi=>upTo (λh=>F i h) m) n+upTo (λh=>F n h) m=upTo (λh=>upTo (λi=>F i h) n+F n h) m;rw[ih,Vf]
theorem JA (h:∀e<n,0<=f e):0<=upTo f n:=by have:=ja h;grind[Sf]
theorem CS (h:∀e<n,0<=f e)(ha:a<n):f a<=upTo f n:=by(have:=ja (f:=λe=>[Δ,e=a,f a]) λe he=>by by_cases c:e=a;rw[QY c,c];exact dw _;rw[QX c];exact h e he);rwa [Ve,QY ha] at this
theorem JB (gn:∀j<nB,0<=g j)(f:Nat->Nat)(r:Nat->Bool):∀{n:Nat},(∀i<n,r i=tj->f i<nB)->(∀i<n,∀k<n,r i=tj->r k=tj->f i=f k->i=k)->upTo (λi=>[Δ,r i,g (f i)]) n<=upTo g nB/\∀j<nB,(∀i<n,r i=tj->f i≠j)->upTo (λi=>[Δ,r i,g (f i)]) n+g j<=upTo g nB:=by intro n eO hinj;(have bD:∀n,(∀i<n,r i=tj->f i<nB)->(∀i<n,∀k<n,r i=tj->r k=tj->f i=f k->i=k)->upTo (λi=>[Δ,r i,g (f i)]) n=upTo (λj=>[Δ,(aR n).any (λi=>r i&&decide (f i=j)),g j]) nB:=by intro n;induction n with| zero =>intro _ _;show 0=_;rw[show(λj=>if (aR 0).any (λi=>r i&&decide (f i=j)) then g j else 0)=λ_=>0 from funext λj=>rfl,Sf]| succ n ih =>intro h1 h2;show upTo (λi=>if r i then g (f i) else 0) n+(if r n then g (f n) else 0)=_;rw[ih (λi hi=>h1 i (by exact ig hi)) (λi hi k hk=>h2 i (by exact ig hi) k (by exact ig hk))];by_cases c:r n=tj;rw[QY c];have e1:=Ve (f n) (g (f n)) nB;rw[QY (h1 n (by simp[*]) c)] at e1;rw[<-e1,<-Vf];refine Rb λj hj=>?_;grind;rw[QX c,uf];refine Rb λj hj=>?_;rw[og,List.any_append];(have:([n].any λi=>r i&&decide (f i=j))=ff:=by simp[c]);rw[this,v5]);rw[bD n eO hinj];(have kP:∀j<nB,[Δ,(aR n).any (λi=>r i&&decide (f i=j)),g j]<=g j:=λj hj=>by split;exact dw _;exact gn j hj);refine#[ja kP,λj hj no=>?_];have e1:=Ve j (g j) nB;rw[QY hj] at e1;rw[<-e1,<-Vf];refine ja λk hk=>?_;by_cases c:k=j;subst c;(have:(aR n).any (λi=>r i&&decide (f i=k))=ff:=by rw[wI];intro i hi;simp only[cI,decide_eq_true_eq,not_and];exactλri=>no i (dy.mp hi) ri);rw[this,QX (by simp),QY rfl];simp_all;rw[QX c,uf];exact kP k hk
structure Dl (ae n:Nat)(D:Nat->Nat->Prop)(w:Nat->Int)(s:Nat->Nat->Int)(x:Nat->Int):Prop where
 nn:∀i<n,∀h<ae,0<=s i h
 off:∀i<n,∀h<ae,0<s i h->D i h
 sum:∀i<n,upTo (λh=>s i h) ae=w i
 load:∀h<ae,x h=upTo (λi=>s i h) n
 even:∀i<n,∀h<ae,0<s i h->∀g<ae,D i g->x h<=x g
structure Up (ae nA nB:Nat)(DA DB:Nat->Nat->Prop)(wA wB:Nat->Int)(sA:Nat->Nat->Int)(f:Nat->Nat)(pl:Nat->Bool):Prop where
 lt:∀i<nA,(∃h<ae,pl h=tj/\0<sA i h)->f i<nB/\wA i<=wB (f i)/\∀g<ae,DB (f i) g↔DA i g/\pl g=tj
 inj:∀i<nA,∀k<nA,f i=f k->i=k
section
variable {ae nA nB:Nat}{DA DB:Nat->Nat->Prop}{wA wB:Nat->Int}{sA sB:Nat->Nat->Int}{xA xB:Nat->Int}{f:Nat->Nat}{pl:Nat->Bool}
theorem Dl.set_le (A:Dl ae nA DA wA sA xA)(B:Dl ae nB DB wB sB xB)(U:Up ae nA nB DA DB wA wB sA f pl)(S:Nat->Bool)(Sp:∀h<ae,S h=tj->pl h=tj) (up:∀i<nA,∀s<ae,S s=tj->0<sA i s->∀d<ae,0<sB (f i) d->S d=tj) :upTo (λh=>[Δ,S h,xA h]) ae<=upTo (λh=>[Δ,S h,xB h]) ae/\(upTo (λh=>[Δ,S h,xB h]) ae<=upTo (λh=>[Δ,S h,xA h]) ae->(∀i<nA,(∃s<ae,S s=tj/\0<sA i s)->(∀h<ae,0<sA i h->S h=tj)/\wA i=wB (f i))/\∀j<nB,(∃s<ae,S s=tj/\0<sB j s)->∃i<nA,(∃s<ae,S s=tj/\0<sA i s)/\f i=j):=by(have inS:∀(x:Nat->Int) n (s:Nat->Nat->Int),(∀h<ae,x h=upTo (λi=>s i h) n)->upTo (λh=>[Δ,S h,x h]) ae=upTo (λi=>upTo (λh=>[Δ,S h,s i h]) ae) n:=λx n s hx=>by rw[Jz];refine Rb λh hh=>?_;by_cases c:S h=tj;rw[QY c,hx h hh];exact Rb λi hi=>(QY c).symm;rw[QX c];rw[show(λi=>[Δ,S h=tj,s i h])=λ_=>0 from funext λi=>QX c,Sf]);rw[inS xA nA sA A.load,inS xB nB sB B.load];let r:=λi=>(aR ae).any λs=>S s&&decide (0<sA i s);(have rT:∀i,r i=tj↔∃s<ae,S s=tj/\0<sA i s:=λi=>by show(aR ae).any _=tj↔_;rw[gL];constructor;rintro⟨s,hs,h⟩;simp only[cI,decide_eq_true_eq] at h;exact#[s,dy.mp hs,h];rintro⟨s,hs,h⟩;refine#[s,dy.mpr hs,?_];simp only[cI,decide_eq_true_eq];exact h);let gA:=λi=>upTo (λh=>[Δ,S h,sA i h]) ae;let gB:=λj=>upTo (λh=>[Δ,S h,sB j h]) ae;(have ni:∀i<nA,∀h<ae,[Δ,S h=tj,sA i h]<=sA i h:=λi hi h hh=>by split;exact dw _;exact A.nn i hi h hh);(have gBn:∀j<nB,0<=gB j:=λj hj=>JA λh hh=>by split;exact B.nn j hj h hh;exact dw _);(have jY:∀i<nA,r i=tj->f i<nB/\wA i<=wB (f i):=λi hi ri=>by obtain⟨s,hs,h1,h2⟩:=(rT i).mp ri;obtain⟨a,b,_⟩:=U.lt i hi #[s,hs,Sp s hs h1,h2];exact#[a,b]);(have gBw:∀i<nA,r i=tj->gB (f i)=wB (f i):=λi hi ri=>by obtain⟨s,hs,h1,h2⟩:=(rT i).mp ri;rw[<-B.sum (f i) (jY i hi ri).1];refine Rb λh hh=>?_;by_cases c:S h=tj;exact QY c;show[Δ,S h=tj,sB (f i) h]=sB (f i) h;rw[QX c];have:=B.nn (f i) (jY i hi ri).1 h hh;by_cases z:0<sB (f i) h;exact absurd (up i hi s hs h1 h2 h hh z) c;lia);(have gAw:∀i<nA,gA i<=wA i:=λi hi=>by rw[<-A.sum i hi];exact ja (ni i hi));(have gA0:∀i<nA,r i≠tj->gA i=0:=λi hi ri=>by(have e:gA i=upTo (λ_=>0) ae:=Rb λh hh=>by by_cases c:S h=tj;rw[QY c];have:=A.nn i hi h hh;by_cases z:0<sA i h;exact absurd ((rT i).mpr #[h,hh,c,z]) ri;exact NAG.gl23 this z;exact QX c);rw[e,Sf]);(have kP:∀i<nA,gA i<=[Δ,r i=tj,gB (f i)]:=λi hi=>by by_cases c:r i=tj;rw[QY c,gBw i hi c];exact i6 (gAw i hi) (jY i hi c).2;rw[QX c,gA0 i hi c];exact dw _);have J:=JB gBn f r (λi hi ri=>(jY i hi ri).1) (λi hi k hk _ _ e=>U.inj i hi k hk e);refine#[i6 (ja kP) J.1,λback=>?_];refine#[λi hi hr=>?_,λj hj #[s,hs,h1,h2]=>?_];have ri:=(rT i).mpr hr;have e:=mI kP (i6 J.1 back) i hi;rw[QY ri,gBw i hi ri] at e;have l1:=gAw i hi;have l2:=(jY i hi ri).2;refine#[λh hh z=>?_,by lia];(have e2:upTo (λh=>sA i h) ae<=gA i:=by rw[A.sum i hi];simp_all);have:=mI (ni i hi) e2 h hh;by_cases c:S h=tj;exact c;rw[QX c] at this;simp_all;(have pos:0<gB j:=by refine pG ?_ (CS (λh hh=>?_) hs);show 0<[Δ,S s=tj,sB j s];rwa [QY h1];show 0<=[Δ,S h=tj,sB j h];split;exact B.nn j hj h hh;exact dw _);by_cases ex:∃i<nA,r i=tj/\f i=j;obtain⟨i,hi,ri,e⟩:=ex;exact#[i,hi,(rT i).mp ri,e];have:=J.2 j hj λi hi ri e=>ex #[i,hi,ri,e];have l:=ja kP;have b':upTo gB nB<=upTo gA nA:=back;exact(NAG.gl100 pos this back l).elim
theorem Dl.mono (A:Dl ae nA DA wA sA xA)(B:Dl ae nB DB wB sB xB)(U:Up ae nA nB DA DB wA wB sA f pl):∀h<ae,pl h=tj->xA h<=xB h:=by intro h0 hh0 p0;by_cases c0:xA h0<=xB h0;exact c0;exfalso;(have c:xB h0<xA h0:=Β);let S:Nat->Bool:=λh=>pl h&&(decide (xB h<=xB h0)&&decide (xB h0<xA h));(have ST:∀h,S h=tj↔pl h=tj/\xB h<=xB h0/\xB h0<xA h:=λh=>by lia);(have K:=Dl.set_le A B U S (λh _ z=>((ST h).mp z).1) λi hi s hs s1 s2 d hd d1=>by obtain⟨a1,a2,a3⟩:=(ST s).mp s1;obtain⟨b1,_,b3⟩:=U.lt i hi #[s,hs,a1,s2];have e1:=B.even (f i) b1 d hd d1 s hs ((b3 s hs).mpr #[A.off i hi s hs s2,a1]);obtain⟨c1,c2⟩:=(b3 d hd).mp (B.off (f i) b1 d hd d1);have e2:=A.even i hi s hs s2 d hd c1;grind);(have lt:upTo (λh=>[Δ,S h,xB h]) ae<upTo (λh=>[Δ,S h,xA h]) ae:=by(have le:∀h<ae,[Δ,S h=tj,xB h]<=[Δ,S h=tj,xA h]:=λh hh=>by lia);have l:=ja le;rcases gR (upTo (λh=>[Δ,S h,xB h]) ae) (upTo (λh=>[Δ,S h,xA h]) ae)with z | z;exact z;have e:=mI le z h0 hh0;lia);grind
theorem Dl.keep (A:Dl ae nA DA wA sA xA)(B:Dl ae nB DB wB sB xB)(U:Up ae nA nB DA DB wA wB sA f pl)(ht:t<ae)(pt:pl t=tj)(et:xA t=xB t) :(∀i<nA,0<sA i t->f i<nB/\wA i=wB (f i)/\(∀h<ae,0<sA i h->pl h=tj/\xA h=xB h)/\(∀h<ae,0<sB (f i) h->pl h=tj/\xA h=xB h)/\∀g<ae,DA i g->xA t<=xA g)/\∀j<nB,0<sB j t->∃i<nA,f i=j/\∃s<ae,pl s=tj/\xA s=xB s/\0<sA i s:=by let S:=λh=>pl h&&(decide (xA h=xA t)&&decide (xB h=xA t));(have ST:∀h,S h=tj↔pl h=tj/\xA h=xA t/\xB h=xA t:=λh=>by lia);have St:=(ST t).mpr #[pt,rfl,et.symm];(have up:=λi hi s hs s1 s2 d hd d1=>by obtain⟨a1,a2,a3⟩:=(ST s).mp s1;obtain⟨b1,_,b3⟩:=U.lt i hi #[s,hs,a1,s2];have e1:=B.even (f i) b1 d hd d1 s hs ((b3 s hs).mpr #[A.off i hi s hs s2,a1]);obtain⟨c1,c2⟩:=(b3 d hd).mp (B.off (f i) b1 d hd d1);have e2:=A.even i hi s hs s2 d hd c1;have:=Dl.mono A B U d hd c2;exact(ST d).mpr #[c2,by lia,by lia]);have K:=(Dl.set_le A B U S (λh _ z=>((ST h).mp z).1) up).2 Β;(have out:∀h,S h=tj->pl h=tj/\xA h=xB h:=λh z=>Β);refine#[λi hi z=>?_,λj hj z=>?_];obtain⟨k1,k2⟩:=K.1 i hi #[t,ht,St,z];obtain⟨b1,_,_⟩:=U.lt i hi #[t,ht,pt,z];exact#[b1,k2,λh hh y=>out h (k1 h hh y),λh hh y=>out h (up i hi t ht St z h hh y),λg hg d=>A.even i hi t ht z g hg d];obtain⟨i,hi,⟨s,hs,s1,s2⟩,e⟩:=K.2 j hj #[t,ht,St,z];exact#[i,hi,e,s,hs,(out s s1).1,(out s s1).2,s2]
end
theorem xW (f:Nat->Nat)(r:Nat->Bool):∀{n:Nat},(∀i<n,r i=tj->f i<nB)->(∀i<n,∀k<n,r i=tj->r k=tj->f i=f k->i=k)->(∀j<nB,g j≠0->∃i<n,r i=tj/\f i=j)->upTo (λi=>[Δ,r i,g (f i)]) n=upTo g nB:=by intro n;induction n generalizing g with| zero =>intro _ _ h;(have:=Rb λj hj=>by by_cases c:g j=0;exact c;obtain⟨i,hi,_⟩:=h j hj c;trivial);rw[this,Sf];rfl| succ n ih =>intro h1 h2 h3;show upTo (λi=>if r i then g (f i) else 0) n+(if r n then g (f n) else 0)=_;by_cases c:r n=tj;rw[QY c];have e:=ih (g:=λj=>if j=f n then 0 else g j) (λi hi=>h1 i (by exact ig hi)) (λi hi k hk=>h2 i (by exact ig hi) k (by exact ig hk)) (λj hj z=>by grind);(have e2:upTo (λi=>if r i then (if f i=f n then 0 else g (f i)) else 0) n=upTo (λi=>if r i then g (f i) else 0) n:=Rb λi hi=>by grind);rw[<-e2,e];have e1:=Ve (f n) (g (f n)) nB;rw[QY (h1 n (by simp[*]) c)] at e1;rw[<-e1,<-Vf];refine Rb λj hj=>?_;lia;grind
structure Yg (ae n:Nat)(D:Nat->Nat->Prop)(w:Nat->Int)(s os:Nat->Nat->Int)(x:Nat->Int)(kp:Nat->Bool):Prop where
 sum:∀i<n,kp i=tj->upTo (λh=>os i h) ae=w i
 even:∀i<n,kp i=tj->∀h<ae,0<os i h->∀g<ae,D i g->x h<=x g
 load:∀h<ae,upTo (λi=>if kp i then os i h else s i h) n=x h
section
variable {ae nA nB:Nat}{DA DB:Nat->Nat->Prop}{wA wB:Nat->Int}{sA sB os:Nat->Nat->Int}{xA xB:Nat->Int}{f:Nat->Nat}{pl has kp:Nat->Bool}
theorem Dl.mix_up (A:Dl ae nA DA wA sA xA)(B:Dl ae nB DB wB sB xB)(U:Up ae nA nB DA DB wA wB sA f pl) (hr:∀j<nB,has j=tj->∃k<nA,f k=j/\∀h<ae,os j h=sA k h/\(0<os j h->pl h=tj)) (no:∀k<nA,f k<nB->has (f k)=ff->wA k≠wB (f k)\/∃h<ae,0<sA k h/\pl h=ff) (kt:∀j<nB,kp j=tj↔has j=tj/\∃h<ae,0<os j h/\xB h=xA h):Yg ae nB DB wB sB os xB kp:=by(have jY:∀k<nA,∀t<ae,pl t=tj->xA t=xB t->0<sA k t->f k<nB/\kp (f k)=tj:=λk hk t ht pt et z=>by obtain⟨a,b,c,_,_⟩:=(Dl.keep A B U ht pt et).1 k hk z;refine#[a,(kt _ a).mpr ?_];cases hh:has (f k)with| false =>(rcases no k hk a hh with y | ⟨h,kg,y1,y2⟩;exact absurd b y;have:=(c h kg y1).1;rw[y2] at this;cases this)| true =>obtain⟨k',cP,e,o⟩:=hr _ a hh;have:k'=k:=U.inj k' cP k hk e;subst this;exact#[rfl,t,ht,by rwa [(o t ht).1],et.symm]);(have d9:∀j<nB,kp j=tj->∃k<nA,f k=j/\wA k=wB j/\(∀h<ae,os j h=sA k h)/\(∀h<ae,0<sA k h->pl h=tj/\xA h=xB h)/\(∀h<ae,0<sB j h->pl h=tj/\xA h=xB h)/\∃t<ae,0<sA k t/\(∀g<ae,DA k g->xA t<=xA g):=λj hj z=>by obtain⟨h1,t,ht,p,e⟩:=(kt j hj).mp z;obtain⟨k,hk,fk,o⟩:=hr j hj h1;(have z':0<sA k t:=by rwa [<-(o t ht).1]);obtain⟨a,b,c,d,g⟩:=(Dl.keep A B U ht ((o t ht).2 p) e.symm).1 k hk z';rw[fk] at b d;exact#[k,hk,fk,b,λh hh=>(o h hh).1,c,d,t,ht,z',g]);refine#[λj hj z=>?_,λj hj z h hh p g hg dg=>?_,λh hh=>?_];obtain⟨k,hk,fk,b,o,_⟩:=d9 j hj z;rw[<-b,<-A.sum k hk];exact Rb o;obtain⟨k,hk,fk,b,o,c,d,t,ht,zt,fS⟩:=d9 j hj z;rw[o h hh] at p;obtain⟨p1,p2⟩:=c h hh p;obtain⟨c1,c2⟩:=c t ht zt;obtain⟨_,_,iff⟩:=U.lt k hk #[t,ht,c1,zt];rw[fk] at iff;obtain⟨g1,g2⟩:=(iff g hg).mp dg;have e1:=A.even k hk h hh p t ht (A.off k hk t ht zt);have e2:=fS g hg g1;have e3:=Dl.mono A B U g hg g2;lia;by_cases st:pl h=tj/\xA h=xB h;(have e1:upTo (λj=>if kp j then os j h else sB j h) nB=upTo (λj=>[Δ,kp j,os j h]) nB:=Rb λj hj=>by by_cases c:kp j=tj;rw[QY c,QY c];rw[QX c,QX c];have nn:=B.nn j hj h hh;by_cases z:0<sB j h;obtain⟨k,hk,fk,s,hs,ps,es,zs⟩:=(Dl.keep A B U hh st.1 st.2).2 j hj z;have:=(jY k hk s hs ps es zs).2;rw[fk] at this;exact absurd this c;exact NAG.gl23 nn z);have e2:=xW (g:=λj=>[Δ,kp j,os j h]) f (λk=>decide (f k<nB)) (λi hi z=>Q0 z) (λi hi k hk _ _ e=>U.inj i hi k hk e) (λj hj z=>by by_cases c:kp j=tj;obtain⟨k,hk,fk,_⟩:=d9 j hj c;exact#[k,hk,QZ (by rwa [fk]),fk];rw[QX c] at z;exact absurd rfl z);rw[e1,<-e2,<-st.2,A.load h hh];refine Rb λk hk=>?_;have nn:=A.nn k hk h hh;by_cases z:0<sA k h;obtain⟨a,b⟩:=jY k hk h hh st.1 st.2 z;rw[QY (QZ a),QY b];obtain⟨k',cP,fk',_,o,_⟩:=d9 _ a b;have:=U.inj k' cP k hk fk';subst this;exact o h hh;(have z0:sA k h=0:=by exact NAG.gl23 nn z);rw[z0];by_cases a:f k<nB;rw[QY (QZ a)];by_cases b:kp (f k)=tj;rw[QY b];obtain⟨k',cP,fk',_,o,_⟩:=d9 _ a b;have:=U.inj k' cP k hk fk';subst this;rw[o h hh,z0];rw[QX b];rw[QX (λy=>a (Q0 y))];rw[B.load h hh];refine Rb λj hj=>?_;by_cases c:kp j=tj;rw[QY c];obtain⟨k,hk,fk,_,o,c1,c2,_⟩:=d9 j hj c;have n1:=A.nn k hk h hh;have n2:=B.nn j hj h hh;rw[o h hh];have z1:¬0<sA k h:=λz=>st (c1 h hh z);have z2:¬0<sB j h:=λz=>st (c2 h hh z);exact NAG.gl116 n1 n2 z1 z2;rw[QX c]
theorem Dl.mix_down (A:Dl ae nA DA wA sA xA)(B:Dl ae nB DB wB sB xB)(U:Up ae nA nB DA DB wA wB sA f pl) (hr:∀i<nA,has i=tj->f i<nB/\∀h<ae,os i h=sB (f i) h/\(0<os i h->pl h=tj)) (no:∀i<nA,has i=ff->(∃h<ae,pl h=tj/\0<sA i h)->wA i≠wB (f i)) (kt:∀i<nA,kp i=tj↔has i=tj/\∃h<ae,0<os i h/\xA h=xB h):Yg ae nA DA wA sA os xA kp:=by(have jY:∀i<nA,∀t<ae,pl t=tj->xA t=xB t->0<sA i t->f i<nB/\kp i=tj/\has i=tj:=λi hi t ht pt et z=>by obtain⟨a,b,c,d,_⟩:=(Dl.keep A B U ht pt et).1 i hi z;(have hs:has i=tj:=by cases hh:has i with| false=>exact absurd b (no i hi hh #[t,ht,pt,z])| true=>rfl);refine#[a,(kt i hi).mpr #[hs,?_],hs];obtain⟨_,o⟩:=hr i hi hs;(have pos:=by have:=CS (λh hh=>A.nn i hi h hh) ht;rw[A.sum i hi] at this;lia);(have ex:∃h<ae,0<sB (f i) h:=by by_cases y:∃h<ae,0<sB (f i) h;exact y;(have:upTo (λh=>sB (f i) h) ae<=upTo (λ_=>0) ae:=ja λh hh=>by have:¬0<sB (f i) h:=λz=>y #[h,hh,z];exact Int.not_lt.mp this);rw[Sf,B.sum (f i) a,<-b] at this;exact(NAG.gl70 z pos this).elim);obtain⟨h,hh,y⟩:=ex;obtain⟨_,e⟩:=d h hh y;exact#[h,hh,by rwa [(o h hh).1],e]);(have d9:∀i<nA,kp i=tj->f i<nB/\wA i=wB (f i)/\(∀h<ae,os i h=sB (f i) h)/\(∀h<ae,0<sA i h->pl h=tj/\xA h=xB h)/\(∀h<ae,0<sB (f i) h->pl h=tj/\xA h=xB h)/\∃t<ae,pl t=tj/\xA t=xB t/\DB (f i) t/\(∀g<ae,DA i g->xA t<=xA g):=λi hi z=>by obtain⟨h1,t,ht,p,e⟩:=(kt i hi).mp z;obtain⟨fi,o⟩:=hr i hi h1;obtain⟨i',iw,ei,s,hs,ps,es,zs⟩:=(Dl.keep A B U ht ((o t ht).2 p) e).2 (f i) fi (by rwa [<-(o t ht).1]);have:=U.inj i' iw i hi ei;subst this;obtain⟨a,b,c,d,g⟩:=(Dl.keep A B U hs ps es).1 i' hi zs;obtain⟨_,_,iff⟩:=U.lt i' hi #[s,hs,ps,zs];exact#[fi,b,λh hh=>(o h hh).1,c,d,s,hs,ps,es,(iff s hs).mpr #[A.off i' hi s hs zs,ps],g]);refine#[λi hi z=>?_,λi hi z h hh p g hg dg=>?_,λh hh=>?_];obtain⟨fi,b,o,_⟩:=d9 i hi z;rw[b,<-B.sum (f i) fi];exact Rb o;obtain⟨fi,b,o,c,d,t,ht,pt,et,dt,fS⟩:=d9 i hi z;rw[o h hh] at p;obtain⟨p1,p2⟩:=d h hh p;have e1:=B.even (f i) fi h hh p t ht dt;have e2:=fS g hg dg;lia;by_cases st:pl h=tj/\xA h=xB h;(have e1:upTo (λi=>if kp i then os i h else sA i h) nA=upTo (λi=>[Δ,kp i,sB (f i) h]) nA:=Rb λi hi=>by by_cases c:kp i=tj;rw[QY c,QY c];exact(d9 i hi c).2.2.1 h hh;rw[QX c,QX c];have nn:=A.nn i hi h hh;by_cases z:0<sA i h;exact absurd (jY i hi h hh st.1 st.2 z).2.1 c;exact NAG.gl23 nn z);rw[e1,xW (g:=λj=>sB j h) f kp (λi hi z=>(d9 i hi z).1) (λi hi k hk _ _ e=>U.inj i hi k hk e) (λj hj z=>?_),st.2,B.load h hh];have nn:=B.nn j hj h hh;obtain⟨i,hi,fi,s,hs,ps,es,zs⟩:=(Dl.keep A B U hh st.1 st.2).2 j hj (by lia);exact#[i,hi,(jY i hi s hs ps es zs).2.1,fi];rw[A.load h hh];refine Rb λi hi=>?_;by_cases c:kp i=tj;rw[QY c];obtain⟨fi,_,o,c1,c2,_⟩:=d9 i hi c;have n1:=A.nn i hi h hh;have n2:=B.nn (f i) fi h hh;rw[o h hh];have z1:¬0<sA i h:=λz=>st (c1 h hh z);have z2:¬0<sB (f i) h:=λz=>st (c2 h hh z);exact NAG.gl116 n2 n1 z2 z1;rw[QX c]
end
end NAP
set_option maxHeartbeats 1000000
namespace NAY
open PySem NAL NAL.EX NAL.RX NAM
noncomputable def XI (p:Nat×Nat):D:=.tup [.int (p.1:Int),.int (p.2:Int)]
noncomputable def nD (n:Nat):D:=.int (n:Int)
noncomputable def Rq (l:xaf):D:=.lst (l.map nD)
structure RJ (h:TH)(me aS aP:Nat)(N:NAP.UN)(ac ab:xae):Prop where
 mi:h[me]?=se (.mi 0 [.int (N.G:Int),.lst (N.ends.map XI),.at aS,.at aP,.lst (N.bI.map Rq)])
 st:h[aS]?=se (.ml (ac.map .int))
 sp:h[aP]?=se (.ml (ab.map .int))
 ne:aS≠aP
 nS:me≠aS
 nP:me≠aP
 wf:N.WF
 ls:ac.length=N.ends.length
 lp:ab.length=N.nE
 sm:N.nE<=900
 sk:N.ends.length<=900
 la:∀(e:Nat) l,N.bI[e]?=se l->l.length<=900
section
variable {h h' t:TH}{me aS aP i:Nat}{N:NAP.UN}{ac ab:xae}{o:TM}{e k:Nat}
theorem cC {h t:List α}{o:α}(e:h[i]?=se o):(h++t)[i]?=se o:=by grind
theorem RJ.app (p:RJ h me aS aP N ac ab):RJ (h++t) me aS aP N ac ab:=#[cC p.mi,cC p.st,cC p.sp,p.ne,p.nS,p.nP,p.wf,p.ls,p.lp,p.sm,p.sk,p.la]
theorem RJ.set (p:RJ h me aS aP N ac ab)(h1:i≠me)(h2:i≠aS)(h3:i≠aP):RJ (h.set i o) me aS aP N ac ab :=#[by rw[bN h1];exact p.mi,by rw[bN h2];exact p.st,by rw[bN h3];exact p.sp,p.ne,p.nS,p.nP,p.wf,p.ls,p.lp,p.sm,p.sk,p.la]
theorem jc (z:fa ρ h=.ok d h'):Rr fa ρ h=.ok (.rt d) h':=by unfold Rr;rw[z];rfl
theorem aJ (z:fA ρ h=.ok xs h')(k:g xs h'=r):RW g fA ρ h=r:=by unfold RW;rwa [z]
theorem aH (z1:fa ρ h=.ok a h)(z2:fA ρ h=.ok as h):Q2 fa fA ρ h=.ok (a::as) h:=by grind[Q2,R.bnd]
theorem aM (z:fa ρ h=.ok (.bl x) h'):Rj fa ρ h=.ok x h':=by unfold Rj;rw[z];rfl
theorem fZ (z:fa ρ h=.ok d h'):V1 fa ρ h=.ok (.nx ρ) h':=by unfold V1;rw[z];rfl
theorem oI (z1:fa ρ h=.ok (.at i) h)(z2:eg h i=se (.mi k ds))(z3:fA ρ h=.ok xs h)(z4:ev (.at i::xs) h=q):Rv k ev fa fA ρ h=q:=by grind[Rv,Rz,ZH,bZ,gW,R.bnd]
end
def fin (m:Nat) (x:Fl) (h:TH):RX.R D:=match x with| .nx _=>trunc m .non h| .rt v=>trunc m v h
def On (r:RX.R Fl)(P:R4->TH->Prop):Prop:=∃ ρ h,r=.ok (.nx ρ) h/\P ρ h
section
variable {f g:RS}{fa:RE}{fT:RT}{fA:RA}{fi:RI}{fg:RG}{ρ ρ1:R4}{h h' h1 h2 t u:TH}{d y:D}{n k m c i:Nat}{r:RX.R D}{ds F:List D}{P:R4->TH->Prop}{κ:Fl->TH->RX.R D}{N:List Q7}{fr:xaf}{nx:NAL.RX.Nx}
theorem a8 (hn:ds.length=n)(z:(f (Vn ds k) h).bnd (fin h.length)=.ok d h1):Sy ff n k f ds h=.ok d h1:=by unfold Sy;rw[aV,hn,show bZ n n=tj from gW n,aV];cases e:f (Vn ds k) h with| ok x h'=>rw[e] at z;cases x<;>exact z| _=>rw[e] at z;cases z
noncomputable def finK (x:Fl) (h:TH):RX.R D:=match x with| .nx _=>.ok .non h| .rt v=>.ok v h
theorem mM (hn:ds.length=n)(z:(f (Vn ds k) h).bnd finK=.ok d h1):Sy tj n k f ds h=.ok d h1:=by unfold Sy;rw[aV,hn,show bZ n n=tj from gW n];cases e:f (Vn ds k) h with| ok x h'=>rw[e] at z;cases x<;>exact z| _=>rw[e] at z;cases z
theorem sG (z:f ρ h=.ok (.nx ρ1) h1)(k:(g ρ1 h1).bnd κ=r):(Ra f g ρ h).bnd κ=r:=by grind[oF]
theorem sGe (z:f ρ h=.ok (.nx ρ1) h1)(e:h1=h2)(k:(g ρ1 h2).bnd κ=r):(Ra f g ρ h).bnd κ=r:=sG z (e▸k)
theorem sA (z:fa ρ h=.ok d h1)(k:(g (Yf ρ n (se d)) h1).bnd κ=r):(Ra (Rn fa (rN n)) g ρ h).bnd κ=r:=sG (jb z rfl) k
theorem sD (z:fa ρ h=.ok d h1)(k:(g ρ h1).bnd κ=r):(Ra (V1 fa) g ρ h).bnd κ=r:=sG (fZ z) k
theorem sR (z:fa ρ h=.ok d h1)(k:κ (.rt d) h1=r):(Rr fa ρ h).bnd κ=r:=by rwa [jc z]
theorem sF (z:fT ρ h=.ok ff h1)(k:(g ρ h1).bnd κ=r):(Ra (RN fT f Rw) g ρ h).bnd κ=r:=sG ((kF z).trans rfl) k
theorem sT (z:fT ρ h=.ok tj h1)(k:(Rr fa ρ h1).bnd κ=r):(Ra (RN fT (Rr fa) f) g ρ h).bnd κ=r:=by cases e:fa ρ h1 with| ok d h2=>rw[jc e] at k;grind[xR,iW,jc]| _=>grind[Ra,RN,Rr,RX.R.bnd]
theorem CU (z1:fv ρ h=.ok y h')(z2:fa ρ h'=.ok (.at i) h')(z3:h'[i]?=se (.mi c ds))(hn:ds.length=n):X2 c n fa fv ρ h=.ok (.nx ρ) (h'.set i (.mi c (ds++[y]))):=by subst hn;unfold X2;rw[z1];show R.bnd (fa ρ h') _=_;rw[z2];show Rz (ZH c h' (.at i)) _=_;rw[show ZH c h' (.at i)=se (i,ds)by grind[ZH,aW,bZ,gW]];show RU (bQ ds.length (Sn ds)) (R.ok (Fl.nx ρ) (hs h' i (.mi c (bif bH ds.length (Sn ds)then Yf ds ds.length y else Ze ds [y]))))=_;rw[aV,dz.mpr (bE _),show bH ds.length ds.length=ff from e9.mpr λz=>absurd (cD.mp z) (om _),gN,iV];rfl
theorem sI (z:v ρ (h++ .mi c F::t)=.ok y (h++ .mi c F::u))(za:fa ρ (h++ .mi c F::u)=.ok (.at h.length) (h++ .mi c F::u))(k:(g ρ (h++ .mi c (F++[y])::u)).bnd κ=r)(hn:F.length=n:=by rfl):(Ra (X2 c n fa v) g ρ (h++ .mi c F::t)).bnd κ=r:=by refine sGe (CU z za (by simp) hn) ?_ k;simp_all
theorem nG (z:f ρ h=.ok (.nx ρ1) h1)(k:On (g ρ1 h1) P):On (Ra f g ρ h) P:=by grind[oF]
theorem nA (z:fa ρ h=.ok d h1)(k:On (g (Yf ρ n (se d)) h1) P):On (Ra (Rn fa (rN n)) g ρ h) P:=nG (jb z rfl) k
theorem nD' (z:fa ρ h=.ok d h1)(k:On (g ρ h1) P):On (Ra (V1 fa) g ρ h) P:=nG (fZ z) k
theorem nE (z:f ρ h=.ok (.nx ρ1) h1)(k:P ρ1 h1):On (f ρ h) P:=#[_,_,z,k]
theorem nT (z:fT ρ h=.ok tj h1)(k:On (f ρ h1) P):On (RN fT f g ρ h) P:=(iW z).symm▸k
theorem nF (z:fT ρ h=.ok ff h1)(k:On (g ρ h1) P):On (RN fT f g ρ h) P:=(kF z).symm▸k
theorem fq {l:List γ}{g:γ->D}(Inv:Nat->R4->TH->Prop)(he:fi ρ h=.ok nx h')(hx:∀i ρ h,Inv i ρ h->nx h i=se ((l.map g)[i]?))(hl:l.length<1000)(h0:Inv 0 ρ h')(hs:∀i a ρ h,l[i]?=se a->Inv i ρ h->∃ ρ1,fg (g a) ρ=se ρ1/\On (f ρ1 h) (Inv (i+1))):On (S8 fi fg f ρ h) (Inv l.length) :=CL Inv he hx hl h0 λi a ρ h ha I=>let #[ρ1,e1,ρ2,h2,e2,I2]:=hs i a ρ h ha I;#[ρ1,ρ2,h2,e1,e2,I2]
theorem sL (z:On (f ρ h) P)(k:∀ ρ h,P ρ h->(g ρ h).bnd κ=r):(Ra f g ρ h).bnd κ=r:=by obtain⟨ρ1,h1,e,p⟩:=z;exact sG e (k _ _ p)
theorem sZ (z:On (f ρ h) P)(k:∀h,(∃ ρ,P ρ h)->trunc m .non h=r):(f ρ h).bnd (fin m)=r:=by obtain⟨ρ1,h1,e,p⟩:=z;rw[e];exact k _ #[_,p]
theorem cW (z1:fa ρ h=.ok (.at i) h)(z2:h[i]?=se (.mi k ds))(z3:fA ρ h=.ok xs h2)(z4:ev (.at i::xs) h2=q):Rv k ev fa fA ρ h=q:=by grind[ZH,aW,bZ,gW,Rv,Rz,R.bnd]
theorem eX (z:fa ρ h=.ok (.lst l) h'):Td fa ρ h=.ok (VS (.lst l)) h':=by unfold Td;rw[z];rfl
theorem rG (z:fa ρ h=.ok (.lst l) h'):rIe fa ρ h=.ok (nEn (.lst l)) h':=by unfold rIe;rw[z];rfl
theorem rH (z:fA ρ h=.ok [.int k] h')(hk:k<1000):rIr fA ρ h=.ok (nRg k) h':=by unfold rIr;rw[z];show RU (bH k (2^62)) _=_;rw[cD.mpr (by lia)];rfl
theorem CV {l:List γ}{f:γ->D}{d:γ}(e:k=l.length):(aR k).map (λj=>f (l.getD j d))=l.map f:=by subst e;refine List.ext_getElem (by simp) λj a b=>?_;grind
theorem cA {l:List γ}{g:γ->D}(he:fi ρ h=.ok nx h')(hx:∀i,nx h' i=se ((l.map g)[i]?))(hl:l.length<1000)(hs:∀a∈l,∃ ρ1,fg (g a) (bf n ng++Zf ρ fr)=se ρ1/\fa ρ1 h'=.ok (v a) h')(e:l.map v=L):UJ N ff fi n fr fg Si fa ρ h=.ok (.lst L) h':=by rw[u9 he hx hl hs,e];rfl
theorem cM {l:List γ}{g:γ->D}(he:fi ρ h=.ok nx h')(hx:∀i,nx h' i=se ((l.map g)[i]?))(hl:l.length<1000)(hs:∀a∈l,∃ ρ1,fg (g a) (bf n ng++Zf ρ fr)=se ρ1/\fT ρ1 h'=.ok (p a) h'/\(p a=tj->fa ρ1 h'=.ok (v a) h'))(e:(l.filter p).map v=L):UJ N ff fi n fr fg fT fa ρ h=.ok (.lst L) h':=by rw[rD he hx hl hs,e];rfl
theorem Cl.apps (c:Cl h)(z:∀o∈t,ct h.length o):Cl (h++t):=λo ho=>(c8.mp ho).elim (λa=>oG (by simp) (c o a)) λa=>oG (by simp) (z o a)
theorem XM:Sj tj Q6 ρ h=.ok (.at h.length) (h++[.ml []]):=by show RX.R.ok (D.at (hn h)) (hp h (.ml []))=_;rw[fM,fO]
theorem JC (z:e (.at h.length::ds) (h++[.mi c []])=.ok .non (h++[o])):XQ c e ds h=.ok (.at h.length) (h++[o]):=by unfold XQ;rw[fM,fO,z];rfl
end
section
variable {h h' h0 t h1:TH}{i k m n:Nat}{l:List D}{y:D}{o:TM}{ρ:R4}{fa fb:RE}{fA:RA}{fT:RT}{xs:List D}
theorem bh (z:fa ρ h=.ok (.at i) h)(e:h[i]?=se (.mi c ds))(hd:ds[n]?=se y):RL c n fa ρ h=.ok y h:=by unfold RL;rw[z];show Rz (ZH c h (.at i)) _=_;grind[ZH,aW,bZ,gW,Rz,eg]
theorem VO:(h0++t)[h0.length+k]?=t[k]?:=by grind
theorem R9:(h0++t)[h0.length]?=t[0]?:=VO (k:=0)
theorem xX:(h0++t).set (h0.length+k) o=h0++t.set k o:=Β
theorem oJ:(h0++t).set h0.length o=h0++t.set 0 o:=xX (k:=0)
theorem lj (z1:fa ρ h=.ok (.at i) h)(z2:h[i]?=se (.ml l))(z3:fA ρ h=.ok [y] h)(hl:l.length<16777216):Wu fa fA ρ h=.ok .non (h.set i (.ml (l++[y]))):=by(have e1:VN h (.at i)=se (i,l):=by grind[VN,aW]);unfold Wu;rw[z1];show Rz (VN h (.at i)) _=_;rw[e1];rw[z3];show Rz (VN h (.at i)) _=_;rw[e1];show RU (bH (Sn l) 16777216) _=_;rw[aV,cD.mpr hl,iV,gN];rfl
theorem gP (z:fA ρ h=.ok xs h')(b:big xs=tj):TZ fA ρ h=.ok (.tup xs) h':=by unfold TZ;rw[z];show RU (big xs) _=_;rw[b];rfl
theorem kG {m:Bool}(z:fA ρ h=.ok xs h')(b:big xs=tj):Sj m fA ρ h=mk m xs h':=by unfold Sj;rw[z];show RU (big xs) _=_;rw[b];rfl
theorem Xb {bs:List Bool}:Yj Zi [.lst (bs.map .bl)] h=.ok (.bl (bs.any id)) h:=by(have:∀l,RB dBl (l.map D.bl)=se l:=λl=>by induction l with| nil=>rfl| cons x l ih=>exact Rt.mpr #[_,_,rfl,ih,rfl]);show Rz (RB dBl (bs.map D.bl)) _=_;rw[this];show R.ok (D.bl (Zi bs)) h=_;rw[Cq]
theorem CW (hn:n<=1000)(z:fa ρ h=.ok (.int n) h):XH ff fa ρ h=.ok (Rq (aR n)) h:=by(have e:∀n k,dUp k n=(jK k n).map nD:=λn=>by induction n with| zero=>intro k;rfl| succ n ih =>intro k;rw[wL,be,<-ih (k+1)];rfl);unfold XH;rw[z];show RU (bQ n 1000) (R.ok (D.lst (dUp 0 n)) h)=_;rw[dz.mpr hn,e,<-ww];rfl
theorem oK (z:fa ρ (h0++t)=.ok (.at (h0.length+k)) (h0++t))(e:t[k]?=se (.ml l))(zA:fA ρ (h0++t)=.ok [y] (h0++t))(hl:l.length<=1000):Wu fa fA ρ (h0++t)=.ok .non (h0++t.set k (.ml (l++[y]))):=by rw[lj z (VO.trans e) zA (NAG.gl63 hl),xX]
theorem ZV {l:List γ}(a:∀x,cd n m (g x)):∀d∈l.map g,cd n m d:=Β
theorem vb (hi:n<=i)(e:h[i]?=se (.ml l))(z:∀d∈l,cd n 8 d):fz h n 9 (.at i)=se (.lst l):=by show(bif bH i n then se (D.at i)else match eg h i with| some (.ml ds)=>Uz (RB (fz h n 8) ds) .lst| _=>ng)=_;rw[show bH i n=ff from e9.mpr λz=>by have:=cD.mp z;exact NAG.gl0 this hi,aW,e];grind[Uz,RB,fz,jP,iF]
theorem JD:R3 [.lst l] h=.ok (.int l.length) h:=by show R.ok (D.int (.ofNat (Sn l))) h=_;rw[aV];rfl
theorem dY {l:List γ}:R3 [.lst (l.map g)] h=.ok (.int l.length) h:=by rw[JD,bn]
theorem f8 {l:List γ}(z1:fa ρ h=.ok (.lst (l.map g)) h)(z2:fb ρ h=.ok (.int k) h)(e:l[k]?=se a):Rk fa fb ρ h=.ok (g a) h:=aG z1 z2 (by show Rz (ZG (l.map g) k) _=_;rw[Vj,bo,e];rfl)
theorem oL (z1:fa ρ h=.ok (.lst a) h)(z2:fb ρ h=.ok (.lst b) h):Z2 fa fb ρ h=.ok (nZp [.lst a,.lst b]) h:=by unfold Z2;rw[z1];show RX.R.bnd (fb ρ h) _=_;rw[z2];rfl
theorem CY (z1:fa ρ h=.ok (.lst a) h)(z2:fb ρ h=.ok (.lst b) h)(z3:fc ρ h=.ok (.lst c) h):rIz3 fa fb fc ρ h=.ok (nZp [.lst a,.lst b,.lst c]) h:=by unfold rIz3;rw[z1];show RX.R.bnd (fb ρ h) _=_;rw[z2];show RX.R.bnd (fc ρ h) _=_;rw[z3];rfl
theorem sB {κ:Fl->TH->RX.R D}(z:fT ρ h=.ok b h1)(a:b=tj->(Rr fa ρ h1).bnd κ=r)(c:b=ff->(g ρ h1).bnd κ=r):(Ra (RN fT (Rr fa) Rw) g ρ h).bnd κ=r:=by cases b;exact sF z (c rfl);exact sT z (a rfl)
theorem jQ (e:h[i]?=se (.ml l)):R3 [.at i] h=.ok (.int l.length) h:=by unfold R3 eK eS;dsimp only;rw[aW,e];show R.ok (D.int (.ofNat (Sn l))) h=_;rw[aV];rfl
theorem JE (z:fa ρ (h0++t)=.ok (.at (h0.length+k)) (h0++t))(e:t[k]?=se (.ml (l++[y]))):Yd fa ρ (h0++t)=.ok y (h0++t.set k (.ml l)):=by unfold Yd;rw[z];show Rz (VN (h0++t) (.at (h0.length+k))) _=_;rw[show VN (h0++t) (.at (h0.length+k))=se (h0.length+k,l++[y])by unfold VN;dsimp only;rw[aW,VO,e]];show Rz (eg (l++[y]) (Sn (l++[y])-1)) _=_;rw[aW,aV,show(l++[y])[(l++[y]).length-1]?=se y by simp];show R.ok y (hs (h0++t) (h0.length+k) (.ml (Zu (l++[y]))))=_;rw[iV,xX,u7,wx]
theorem mN (Inv:Nat->R4->TH->Prop)(iM:R4->TH->Prop)(hs:∀m ρ h,Inv m ρ h->∃b h1,fT ρ h=.ok b h1/\(b=tj->On (fs ρ h1) fun ρ2 h2=>∃m',m'<m/\Inv m' ρ2 h2)/\(b=ff->iM ρ h1))(h0:Inv n ρ h):On (UE ng fT fs ρ h) iM :=Jx Inv iM (λm ρ h I=>let #[b,h1,e,t,f]:=hs m ρ h I;#[b,h1,e,λz=>let #[ρ2,h2,e2,m',l,I2]:=t z;#[ρ2,h2,m',e2,l,I2],f]) h0
end
section
variable {h h' h1:TH}{i k:Nat}{l:List D}{y:D}{ρ:R4}{fa fb fc:RE}{fT fU:RT}{b:Bool}{n m:Int}
theorem rI (z:fT ρ h=.ok tj h1)(u:fU ρ h1=r):WJ fT fU ρ h=r:=by unfold WJ;rw[z];exact u
theorem vc (z:fT ρ h=.ok ff h1):WJ fT fU ρ h=.ok ff h1:=by unfold WJ;rw[z];rfl
theorem vd (z:fT ρ h=.ok b h1):V6 fT ρ h=.ok (! b) h1:=by unfold V6;rw[z];rfl
theorem CZ (e:h[i]?=se (.ml l)):eS h (.at i)=se l:=by unfold eS;dsimp only;rw[aW,e]
theorem C3 (z1:fa ρ h=.ok (.at i) h)(e:h[i]?=se (.ml l))(z2:fb ρ h=.ok (.int n) h)(e2:ZG l n=se y):Rk fa fb ρ h=.ok y h:=aG z1 z2 (by unfold Yi eK;dsimp only;rw[aW,e];show Rz (eS h (.at i)) _=_;rw[CZ e];show Rz (ZG l n) _=_;rw[e2];rfl)
theorem io {l:List γ}(z1:fa ρ h=.ok (.at i) h)(e:h[i]?=se (.ml (l.map g)))(z2:fb ρ h=.ok (.int k) h)(e2:l[k]?=se a):Rk fa fb ρ h=.ok (g a) h:=C3 z1 e z2 (by rw[Vj,bo,e2];rfl)
theorem xY (z1:fa ρ h=.ok (.at i) h)(e:h[i]?=se (.ml (l++[y]))):Rk fa (rUn YH [Α,1]) ρ h=.ok y h:=C3 z1 e rfl (by rw[CG,Ag])
theorem C4 (z:fa ρ h=.ok (.at i) h)(e:h[i]?=se (.ml (l++[y]))):Yd fa ρ h=.ok y (h.set i (.ml l)):=by unfold Yd;rw[z];show Rz (VN h (.at i)) _=_;unfold VN;dsimp only;rw[aW,e];show Rz (eg (l++[y]) (Sn (l++[y])-1)) _=_;rw[aW,aV,show(l++[y])[(l++[y]).length-1]?=se y by simp];show R.ok y (hs h i (.ml (Zu (l++[y]))))=_;rw[iV,u7,wx]
theorem qg {l:xae}(z1:fa ρ h=.ok (.at i) h)(z2:fb ρ h=.ok (.int k) h)(e:h[i]?=se (.ml (l.map .int)))(e2:l[k]?=se x)(z3:fc ρ h=.ok (.int n) h):Yw op fa fb fc ρ h=.ok (.nx ρ) (h.set i (.ml ((l.set k (op x n)).map .int))):=by(have e1:VN h (.at i)=se (i,l.map .int):=by unfold VN;dsimp only;rw[aW,e]);unfold Yw;rw[z1];show R.bnd (fb ρ h) _=_;rw[z2];show Rz (VN h (.at i)) _=_;rw[e1];show Rz (eg (l.map D.int) k) _=_;rw[aW,bo,e2];rw[z3];show Rz (VN h (.at i)) _=_;rw[e1];show RU (bH k (Sn (l.map D.int))) (R.ok (Fl.nx ρ) (hs h i (.ml (Yf (l.map D.int) k (.int (op x n))))))=_;rw[aV,bn,cD.mpr (aQ.mp e2).1,iV,eW,pQ];rfl
theorem rJ (z1:fa ρ h=.ok y h)(z2:fb ρ h=.ok (.at i) h)(z3:fc ρ h=.ok (.int k) h)(e:h[i]?=se (.ml l))(hk:k<l.length):WE fa fb fc ρ h=.ok (.nx ρ) (h.set i (.ml (l.set k y))):=by unfold WE;rw[z1];show R.bnd (fb ρ h) _=_;rw[z2];show R.bnd (fc ρ h) _=_;rw[z3];show(bif Yi (.at i) h then _ else gSet (.at i) (.int k) y ρ h)=_;unfold Yi eK gSet VN;dsimp only;rw[aW,e];show RU (bH k (Sn l)) (R.ok (Fl.nx ρ) (hs h i (.ml (Yf l k y))))=_;rw[aV,cD.mpr hk,iV,eW];rfl
theorem sE {f:RS}{κ:Fl->TH->RX.R D}(z:f ρ h=.ok (.nx ρ1) h1)(k:κ (.nx ρ1) h1=r):(f ρ h).bnd κ=r:=by rw[z];exact k
theorem On.imp (z:On r P)(f:∀ ρ h,P ρ h->P' ρ h):On r P':=let #[ρ,h,e,q]:=z;#[ρ,h,e,f _ _ q]
theorem ve (l:List α):l=[]\/∃a b,l=a++[b]:=by rcases List.eq_nil_or_concat l with z | ⟨a,b,z⟩;exact .inl z;exact .inr #[a,b,by rw[z,List.concat_eq_append]]
theorem C5 (z:fT ρ h=.ok tj h1)(u:fa ρ h1=r):Z3 fT fa fb ρ h=r:=by unfold Z3;rw[z];exact u
theorem C6 (z:fT ρ h=.ok ff h1)(u:fb ρ h1=r):Z3 fT fa fb ρ h=r:=by unfold Z3;rw[z];exact u
theorem JF (z:fT ρ h=.ok tj h'):Za fT fU ρ h=.ok tj h':=by unfold Za;rw[z];rfl
theorem vf (z:fT ρ h=.ok ff h'):Za fT fU ρ h=fU ρ h':=by unfold Za;rw[z];rfl
theorem vg (c:n=m):TK ff (.int n) (.int m) h=.ok (.bl tj) h:=by rw[eq_int,QZ c];rfl
theorem qh (c:¬n=m):TK ff (.int n) (.int m) h=.ok (.bl ff) h:=by rw[eq_int,Q1 c];rfl
theorem xZ (z:fa ρ h=.ok (.bl tj) h1)(u:fb ρ h1=r):TP fa fb ρ h=r:=by unfold TP;rw[z];exact u
theorem x4 (z:fa ρ h=.ok (.bl ff) h1):TP fa fb ρ h=.ok (.bl ff) h1:=by unfold TP;rw[z];rfl
theorem JG (z:fa ρ h=.ok (.bl tj) h1):Y9 fa fb ρ h=.ok (.bl tj) h1:=by unfold Y9;rw[z];rfl
theorem JH (z:fa ρ h=.ok (.bl ff) h1)(u:fb ρ h1=r):Y9 fa fb ρ h=r:=by unfold Y9;rw[z];exact u
theorem JI (z:fa ρ h=.ok (.at i) h)(e:h[i]?=se (.ml l)):Td fa ρ h=.ok (VS (.at i)) h:=by unfold Td;rw[z];show Rz (eS h (.at i)) _=_;rw[CZ e];rfl
theorem qj (c:n<m):YY (.int n) (.int m) h=.ok (.bl tj) h:=by rw[lt_int,QZ c]
theorem qk (c:¬n<m):YY (.int n) (.int m) h=.ok (.bl ff) h:=by rw[lt_int,Q1 c]
theorem mO (c:m<n):YO (.int n) (.int m) h=.ok (.bl tj) h:=by rw[gt_int,QZ c]
theorem mP (c:¬m<n):YO (.int n) (.int m) h=.ok (.bl ff) h:=by rw[gt_int,Q1 c]
theorem oM {h:List α}(e:h[i]?=se o):(h.set i p)[i]?=se p:=fK (aQ.mp e).1
theorem qn {h:List α}(e:h[i]?=se o):h.set i o=h:=by apply i7;grind
theorem ints_set {l:xae}:(l.map D.int).set i (.int x)=(l.set i x).map D.int:=by rw[pQ]
end
section
variable {h h' t:TH}{me aS aP:Nat}{N:NAP.UN}{ac ab:xae}{o:TM}{e k b:Nat}
theorem RJ.ai (p:RJ h me aS aP N ac ab)(z1:fa ρ h=.ok (.at me) h)(z2:fb ρ h=.ok (.int e) h)(hl:N.bI[e]?=se l):Rk (RL 0 4 fa) fb ρ h=.ok (Rq l) h:=f8 (bh z1 p.mi rfl) z2 hl
theorem x6 (p:RJ h me aS aP N ac ab)(t:NAP.WW N e k b):Tz [.at me,.int e,.int k] h=.ok (.int b) h:=by obtain⟨q,hq,hp⟩:=t;have w:=p.wf.lo k q hq;refine a8 rfl (sA (f8 (bh rfl p.mi rfl) rfl hq) (sR ?_ (bF rfl)));rcases hp with ⟨rfl,rfl⟩ | ⟨rfl,rfl⟩;exact C5 (aM (aG rfl rfl (vg rfl))) rfl;exact C6 (aM (aG rfl rfl (qh (by lia)))) rfl
theorem x7 (p:RJ h me aS aP N ac ab)(hk:k<ac.length):UL [.at me,.int e,.int k] h=.ok (.bl (goB N ac e k)) h:=by refine a8 rfl (sR ?_ (bF rfl));unfold goB;by_cases c:e<N.G;rw[QZ c];exact JG (aG rfl (bh rfl p.mi rfl) (qj Β));rw[Q1 c];exact JH (aG rfl (bh rfl p.mi rfl) (qk Β)) (aG (io (bh rfl p.mi rfl) p.st rfl (NAM.getD_at hk)) rfl gt_int)
theorem C7 (p:RJ h me aS aP N ac ab):R8 [.at me] h=.ok (Rq (rest N ab)) h:=by have hg:=p.wf.gle;have jF:=p.sm;have qJ:=p.lp;exact a8 rfl (sR (cM (rH (aH (bh rfl p.mi rfl) rfl) (NAG.gl115 hg jF)) rE (by grind) (λg hg=>#[_,rfl,aM (aG (io (bh rfl p.mi rfl) p.sp rfl (NAM.getD_at (by grind))) rfl gt_int),λ_=>rfl]) rfl) (bF rfl))
theorem x8 (p:RJ h me aS aP N ac ab)(hl:es.length<1000)(he:∀e∈es,e<N.nE):SG [.at me,Rq es] h=.ok (.bl (es.any (Wp N ab))) h:=by have:=Xb (h:=h) (bs:=es.map (Wp N ab));rw[wP] at this;refine a8 rfl (sR (aJ (aH (cA (v:=λe=>.bl (Wp N ab e)) (eX rfl) c9 hl (λe he'=>#[_,rfl,?_]) cB.symm) rfl) this) (bF rfl));unfold Wp;by_cases c:N.G<=e;rw[QZ c];exact xZ (aG rfl (bh rfl p.mi rfl) (ge_int.trans (by rw[QZ Β]))) (aG (io (bh rfl p.mi rfl) p.sp rfl (NAM.getD_at (by rw[p.lp];exact he e he'))) rfl gt_int);rw[Q1 c];exact x4 (aG rfl (bh rfl p.mi rfl) (ge_int.trans (by rw[Q1 Β])))
theorem JJ (p:RJ h me aS aP N ac ab)(hl:aa.length=N.nE)(t:NAP.WW N e k b):UV [.at me,.int e,.int k,.lst (aa.map .int)] h=.ok (.bl (YD N ac aa e k b)) h:=by obtain⟨t1,t2,t3⟩:=xu p.wf t;have F:=cW (fa:=rV 0) (fA:=Q2 (rV 1) (Q2 (rV 2) Q6)) (ρ:=[se (.at me),se (.int e),se (.int k),se (.lst (aa.map .int))]) rfl p.mi rfl (x6 p t);have C:=λ{y:Bool} (z:TK ff (.int (NAP.Lv aa b)) (.int (NAP.Lv aa e+1)) h = .ok (.bl y) h)=>aG (f8 (fa:=rV 3) rfl F (rq Β)) (aG (o:=UP ff) (f8 (fa:=rV 3) (fb:=rV 1) rfl rfl (rq Β)) (fb:=[Α,1]) rfl rfl) z;refine a8 rfl (sR ?_ (bF rfl));unfold YD;by_cases c:NAP.Lv aa b=NAP.Lv aa e+1;rw[QZ c];exact xZ (C (vg c)) (cW rfl p.mi rfl (x7 p (by rwa [p.ls])));rw[Q1 c];exact x4 (C (qh c))
inductive SkI (h:TH) (me e tr:Nat) (N:NAP.UN) (ac ab aa:xae) (g:Nat) (ah:xae) (es way:xaf) (P:xae->Prop) (h':TH):Prop
 | mk (aj:xae) (eh:h.set tr (.ml (aj.map .int))=h') (W:NAP.Walk N ac ab aa g aj es way) (hp:NAP.Z5 N.bI aj<=NAP.Z5 N.bI ah) (hx:∀b,NAP.XX N ab ah b->NAP.XX N ab aj b) (p:P aj)
theorem JK (p:RJ h me aS aP N ac ab)(n1:tr≠me)(n2:tr≠aS)(n3:tr≠aP)(ht:h[tr]?=se (.ml (ah.map .int)))(db:aa.length=N.nE)(W0:NAP.Walk N ac ab aa g ah es way)(qI:es.getLast?=se e)(tz:e<N.nE) :∃aj,Tj [.at me,.int e,.lst (aa.map .int),.at tr] h=.ok .non (h.set tr (.ml (aj.map .int)))/\NAP.Walk N ac ab aa g aj es way/\NAP.Z5 N.bI aj<=NAP.Z5 N.bI ah/\(∀b,NAP.XX N ab ah b->NAP.XX N ab aj b)/\∃(l:xaf) (t:Nat),N.bI[e]?=se l/\aj[e]?=se (t:Int)/\t<=l.length/\∀k b,l[t]?=se k->NAP.WW N e k b->YD N ac aa e k b=tj:=by obtain⟨le,hle⟩:∃le,N.bI[e]?=se le:=#[_,aT (by rwa [p.wf.len])];obtain⟨ρ',h',q,aj,eh,W,hp,hx,t,ht',hK,hq⟩:=mN (fT:=T9) (fs:=T8) (λm ρ h'=>ρ=[se (.at me),se (.int e),se (.lst (aa.map .int)),se (.at tr),se (Rq le)]/\SkI h me e tr N ac ab aa g ah es way (λaj=>m=NAP.Z5 N.bI aj) h') (fun ρ h'=>SkI h me e tr N ac ab aa g ah es way (λaj=>∃t:Nat,aj[e]?=se t/\t<=le.length/\∀k b,le[t]?=se k->NAP.WW N e k b->YD N ac aa e k b=tj) h') (λm ρ h1 I=>by obtain⟨rfl,aj,eh,W,hp,hx,rfl⟩:=I;have P1:=eh▸p.set n1 n2 n3;have ht1:=eh▸oM ht;obtain⟨z,hz⟩:∃z,aj[e]?=se z:=#[_,aT (by have:=W.tr.len;simp_all)];obtain⟨z0,z1⟩:=W.tr.ok e le z hle hz;obtain⟨t,rfl⟩:=l6 z0;have A:=io (fa:=rV 3) (fb:=rV 1) (ρ:=[se (.at me),se (.int e),se (.lst (aa.map .int)),se (.at tr),se (Rq le)]) rfl ht1 rfl hz;by_cases c:t<le.length;have hk:=aT c;obtain⟨b,hb⟩:=xw p.wf hle (aK hk);generalize le[t]=k at hk hb;refine#[! YD N ac aa e k b,h1,rI (aM (aG A (aJ (aH rfl rfl) dY) (qj Β))) (vd (aM (cW rfl P1.mi (aH rfl (aH (f8 rfl A hk) (aH rfl rfl))) (JJ P1 db hb)))),λcl=>?_,λcl=>?_];(have nl:∀b',¬NAP.WY N ac aa e k b':=λb' L=>by have:=hb.uniq p.wf L.1;subst this;rw[(BR p.wf hb p.ls).mpr L] at cl;cases cl);have:=NAP.Yz hle hz c;exact nE (qg rfl rfl ht1 hz rfl) #[_,by exact uB this,rfl,aj.set e (t+1),by rw[<-eh,kr];rfl,W.skip qI hle hz hk nl,by lia,λb' h=>(hx b' h).keep hle hz Β,rfl];refine#[aj,eh,W,hp,hx,t,hz,Β,λk' b' cP sU=>?_];rw[hk] at cP;cases cP;have:=hb.uniq p.wf sU;subst this;simpa using cl;refine#[ff,h1,vc (aM (aG A (aJ (aH rfl rfl) dY) (qk Β))),λz=>(nomatch z),λ_=>#[aj,eh,W,hp,hx,t,hz,Β,λk' b' cP sU=>?_]];rw[fh (by exact pW c)] at cP;cases cP) #[rfl,ah,qn ht,W0,bE _,λb h=>h,rfl];refine#[aj,a8 rfl (sA (p.ai rfl rfl hle) (sE q (by rw[<-eh];exact bF eV))),W,hp,hx,le,t,hle,ht',hK,hq]
end
section
variable {h t:TH}{me aS aP i:Nat}{N:NAP.UN}{ac ab:xae}{o:TM}{e k b:Nat}
theorem mQ {h t:List α}{o:α}(l:i<h.length):(h++t).set i o=h.set i o++t:=List.set_append_left i o l
theorem rK {h:List α}(l:i=h.length):(h++[x]).set i y=h++[y]:=Β
theorem qo {h:List α}(l:i=h.length):(h++[x])[i]?=se x:=by subst l;rw[fW (bE _),rc];rfl
theorem jy {l:xae}:∀d∈l.map D.int,cd n (m+1) d:=λd hd=>by obtain⟨x,_,rfl⟩:=aU.mp hd;trivial
theorem rL {l:xaf}:∀d∈l.map nD,cd n (m+1) d:=λd hd=>by obtain⟨x,_,rfl⟩:=aU.mp hd;trivial
inductive BhI (h:TH) (me st:Nat) (row:xaf) (N:NAP.UN) (ac:xae) (d:Nat) (ar:xae) (P:Nat->Nat->Prop) (t4:Option D) (ρ:R4) (h1:TH):Prop
 | mk (aa:xae) (aq:xaf) (t5 t6:Option D) (er:ρ=[se (.at me),se (Rq row),se (.at st),se (.at h.length),t4,t5,t6]) (eh:h.set st (.ml (aa.map .int))++[.ml (aq.map nD)]=h1) (B:NAP.aY N ac d row ar P aa aq) (hu:aq.length+NAP.unr aa=NAP.unr ar)
theorem JL {st d:Nat}(p:RJ h me aS aP N ac ab)(c:Cl h)(n1:st≠me)(n2:st≠aS)(n3:st≠aP)(pn:h[st]?=se (.ml (ar.map .int)))(tS:ar.length=N.nE)(tP:row.length<=900)(jk:∀e∈row,NAP.Lv ar e=d) :∃(aa:xae) (aq:xaf),Ut [.at me,Rq row,.at st] h=.ok (Rq aq) (h.set st (.ml (aa.map .int)))/\NAP.aY N ac d row ar (λa _=>a∈row) aa aq/\aq.length+NAP.unr aa=NAP.unr ar:=by have stl:=(aQ.mp pn).1;have jF:=p.sm;obtain⟨ρ2,h2,q,t4,aa,aq,t5,t6,rfl,eh,B,hu⟩:=fq (f:=UZ) (fg:=rN 4) (fi:=Td (rV 1)) (h:=h++[.ml []]) (λi ρ h1=>∃t4,BhI h me st row N ac d ar (λa _=>a∈row.take i) t4 ρ h1) rfl (λi ρ h _=>c9 i) (NAG.gl12 tP) #[ng,ar,[],ng,ng,rfl,by rw[qn pn];rfl,NAP.aY.start.weak (λa k h=>by simp at h),by simp] (λi e ρ h1 he I=>by obtain⟨t4,aa,aq,t5,t6,rfl,eh,B,hu⟩:=I;have hem:=aK he;have tG:=jk e hem;obtain⟨le,hle⟩:∃le,N.bI[e]?=se le:=#[_,aT (by rw[p.wf.len];exact by rw[<-tS];exact mJ Β)];have ll:=p.la e le hle;refine#[_,rfl,(fq (λj=>BhI h me st row N ac d ar (λa k=>a∈row.take i\/(a=e/\k∈le.take j)) (se (nD e))) (eX ((eh▸(p.set n1 n2 n3).app).ai rfl rfl hle)) (λi ρ h _=>c9 i) (NAG.gl12 ll) #[aa,aq,t5,t6,rfl,eh,B.weak (λa k h=>by simpa using h),hu] λj k ρ h1 hk I=>?_).imp fun ρ2 h2 #[aa,aq,t5,t6,e1,eh,B,hu]=>#[_,aa,aq,_,_,e1,eh,B.weakT λa k b h t=>?_,hu]];obtain⟨aa,aq,t5,t6,rfl,eh,B,hu⟩:=I;have P1:=eh▸(p.set n1 n2 n3).app;have eY:=eh▸cC (oM pn);obtain⟨b,ht⟩:=xw p.wf hle (aK hk);obtain⟨_,hbn,jW⟩:=xu p.wf ht;rw[<-p.ls] at jW;(have db:aa.length=N.nE:=by rw[B.len,tS]);(have nxt:∀{aa:xae} {aq:xaf},NAP.aY N ac d row ar (λx y=>(x∈row.take i\/(x=e/\y∈le.take j))\/(x=e/\y=k)) aa aq->NAP.aY N ac d row ar (λa k=>a∈row.take i\/(a=e/\k∈le.take (j+1))) aa aq:=λ{aa aq} B=>B.weak λa y h=>by rw[take_snoc hk] at h;rcases h with h | ⟨h1,h2⟩;exact .inl (.inl h);rcases c8.mp h2 with h2 | h2;exact .inl (.inr #[h1,h2]);exact .inr #[h1,cT.mp h2]);have lb:=rq (aa:=aa) (e:=b) Β;have lE:=rq (aa:=aa) (e:=e) Β;(have hle1:NAP.Lv aa e=d:=by rwa [B.old e Β]);rw[hle1] at lE;refine#[_,rfl,nA (cW rfl P1.mi (aH rfl (aH rfl rfl)) (x6 P1 ht)) ?_];by_cases c1:NAP.Lv aa b<0/\goB N ac e k=tj;obtain⟨c1,c2⟩:=c1;have hu':=NAP.unr_set lb c1 (show(0:Int)<=d+1 from NAG.gl60);have hul:=NAP.unr_len ar;refine nT (rI (aM (aG (io rfl eY rfl lb) rfl (qj c1))) (aM (cW rfl P1.mi (aH rfl (aH rfl rfl)) (c2▸x7 P1 jW)))) (nG (rJ (aG (io rfl eY rfl lE) rfl rfl) rfl rfl eY (by rw[bn];simp_all)) (nE (fZ (lj rfl (by rw[bN (cF stl),<-eh];exact qo (by rw[eV])) rfl (by rw[bn];lia))) #[aa.set b (d+1),aq++[b],_,_,rfl,?_,nxt (B.mark p.wf ht ((xt jW).mp c2) hem c1 Β),by simp;lia]));rw[<-eh,mQ (by rwa [eV]),kr,rK (by rw[eV]),pQ,cV];rfl;by_cases c2:NAP.Lv aa b<0;(have c3:=by simpa [c2] using c1);exact nF (rI (aM (aG (io rfl eY rfl lb) rfl (qj c2))) (aM (cW rfl P1.mi (aH rfl (aH rfl rfl)) (c3▸x7 P1 jW)))) (nE rfl #[aa,aq,_,_,rfl,eh,nxt (B.skip p.wf ht (.inr λz=>c1 #[c2,(xt jW).mpr z])),hu]);exact nF (vc (aM (aG (io rfl eY rfl lb) rfl (qk c2)))) (nE rfl #[aa,aq,_,_,rfl,eh,nxt (B.skip p.wf ht (.inl Β)),hu]);rw[take_snoc he] at h;rcases c8.mp h with h | h;exact .inl h;have:=cT.mp h;subst this;refine .inr #[rfl,?_];rw[dP (bE _)];exact t.mem p.wf hle);refine#[aa,aq,a8 rfl (sA XM (sG q (sR rfl ?_))),B.weak λa k h=>?_,hu];rw[<-eh,show h.length=(h.set st (TM.ml (aa.map .int))).length by rw[eV]];exact oH (c.set jy) (bE _) (qo rfl) rL;rw[dP (bE _)];exact h
end
section
variable {h t:TH}{me aS aP i:Nat}{N:NAP.UN}{ac ab:xae}{e:Nat}
theorem mul_one {n:Nat}(hn:n<=1000):Uq m (.lst [x]) (.int n) h=mk m (bf n x) h:=by show RU (bQ n 16777216) (mk m (eRep n x) h)=_;rw[dz.mpr (by lia),Cm];rfl
theorem RJ.ltS (p:RJ h me aS aP N ac ab):me<h.length/\aS<h.length/\aP<h.length:=#[(aQ.mp p.mi).1,(aQ.mp p.st).1,(aQ.mp p.sp).1]
theorem x9:List.replicate n (D.int x)=(bf n x).map D.int:=by rw[List.map_replicate]
inductive StI (h:TH) (me:Nat) (N:NAP.UN) (ac ab:xae) (t:Option D) (P:xaf->xae->Prop) (ρ:R4) (h1:TH):Prop
 | mk (d:Nat) (row:xaf) (aa:xae) (er:ρ=[se (.at me),se (.at h.length),se (Rq row),t]) (eh:h++[.ml (aa.map .int)]=h1) (l:aa.length=N.nE) (R:NAP.Rows N ac ab d row aa) (p:P row aa)
theorem C8 (p:RJ h me aS aP N ac ab)(c:Cl h) :∃aa:xae,SP [.at me] h=.ok (.lst (aa.map .int)) h/\aa.length=N.nE/\Found N ac ab aa:=by have jF:=p.sm;have hg:=p.wf.gle;obtain⟨l1,l2,l3⟩:=p.ltS;have tP:=BS (N:=N) (ab:=ab);obtain⟨ρ1,h1,q1,aa,t,rfl,eh,db,tG⟩:=fq (f:=Ug) (fg:=rN 3) (fi:=Td (rV 2)) (h:=h++[.ml ((bf N.nE (-1)).map .int)]) (λi ρ h1=>∃(aa:xae) (t:Option D),ρ=[se (.at me),se (.at h.length),se (Rq (rest N ab)),t]/\h++[.ml (aa.map .int)]=h1/\aa.length=N.nE/\∀e,NAP.Lv aa e=if e∈(rest N ab).take i then 0 else-1) rfl (λi ρ h _=>c9 i) (NAG.gl9 tP hg jF) #[_,ng,rfl,rfl,by rw[n6],λe=>by unfold NAP.Lv;rw[bR,mj];split<;>simp] (λi g ρ h1 hg1 I=>by obtain⟨aa,t,rfl,eh,db,tG⟩:=I;have iZ:=WD.mp (aK hg1);refine#[_,rfl,nE (rJ rfl rfl rfl (eh▸qo rfl) (by rw[bn];exact NAG.gl11 iZ db hg)) #[aa.set g 0,se (nD g),rfl,by rw[<-eh,rK rfl,pQ],by rwa [eV],λe=>?_]];rw[NAP.Zd (NAG.gl11 iZ db hg),take_snoc hg1];by_cases c:e=g;subst c;simp;rw[QX c,tG e];simp[c]);rw[dP (bE _)] at tG;obtain⟨ρ2,h2,q2,d,row,steps2,rfl,cN,hsl2,R,hf⟩:=mN (fT:=Ui) (fs:=Uf) (ρ:=[se (.at me),se (.at h.length),se (Rq (rest N ab)),t]) (n:=2*NAP.unr aa+(if rest N ab=[]then 0 else 1)) (λm=>StI h me N ac ab t λrow aa=>row.length<=900/\m=2*NAP.unr aa+(if row=[]then 0 else 1)) (StI h me N ac ab t λrow _=>row=[]\/∃e∈row,NAP.Sq N ab e) (λm ρ h1 I=>by obtain⟨d,row,aa,rfl,eh,db,R,jk,rfl⟩:=I;have P1:=eh▸p.app;(have inr:∀e∈row,e<N.nE:=λe he=>by have:=(R.row e).mp he;rw[<-db];exact mJ Β);by_cases c0:row=[];exact#[ff,h1,vc (aM (aG (aJ (aH rfl rfl) dY) rfl (mP (by rw[c0];decide)))),λz=>(nomatch z),λ_=>#[d,row,aa,rfl,eh,db,R,.inl c0]];have lp:=fj.mpr c0;refine#[! row.any (Wp N ab),h1,rI (aM (aG (aJ (aH rfl rfl) dY) rfl (mO Β))) (vd (aM (cW rfl P1.mi (aH rfl rfl) (x8 P1 (show row.length<1000 from NAG.gl12 jk) inr)))),λca=>?_,λca=>?_];(have o5:∀e∈row,¬NAP.Sq N ab e:=λe he hR=>by have:row.any (Wp N ab)=tj:=gL.mpr #[e,he,(p9 (by rw[p.lp];exact inr e he)).mpr hR];rw[this] at ca;cases ca);obtain⟨steps2,aq,q,B,hu⟩:=JL P1 (eh▸c.app jy) (by exact eD l1) (by exact eD l2) (by exact eD l3) (eh▸qo rfl) db jk λe he=>(R.row e).mp he;have hul:=NAP.unr_len aa;refine nE (jb (cW rfl P1.mi (aH rfl (aH rfl rfl)) q) rfl) #[_,?_,d+1,aq,steps2,rfl,by rw[<-eh,rK rfl],by rwa [B.len],R.next B o5,by lia,rfl];split;simp_all;rename_i hb;have:=fj.mpr hb;lia;obtain⟨e,he,hR⟩:=gL.mp (by simpa using ca);exact#[d,row,aa,rfl,eh,db,R,.inr #[e,he,(p9 (by rw[p.lp];exact inr e he)).mp hR]]) #[0,rest N ab,aa,rfl,eh,db,IK p.wf db p.lp tG,by lia,rfl];refine#[steps2,a8 rfl (sA (aG rfl (aJ (aH (bh rfl p.mi rfl) rfl) (jQ p.sp)) ?_) (sA (cW rfl p.app.mi rfl (C7 p.app)) (sG q1 (sG q2 (sR rfl ?_))))),hsl2,d,row,R,hf];rw[bn,p.lp,mul_one (NAG.gl10 jF),x9];show RX.R.ok (D.at (hn h)) (hp h _)=_;rw[fM,fO];rw[<-cN];exact oH c (bE _) (qo rfl) jy
end
section
variable {h t:TH}{me aS aP i:Nat}{N:NAP.UN}{ac ab:xae}{e k b:Nat}
theorem C9 {h:List α}(l:i=h.length+1):(h++[x,y])[i]?=se y:=by subst l;rw[fW Β,show h.length+1-h.length=1 by simp_all];rfl
theorem ya {h:List α}(l:i=h.length):(h++[x,y])[i]?=se x:=by subst l;rw[fW Β,rc];rfl
theorem Da {h:List α}(l:i=h.length):(h++[x,y]).set i z=h++[z,y]:=Β
theorem yb {h:List α}(l:i=h.length+1):(h++[x,y]).set i z=h++[x,z]:=Β
inductive WI (h:TH) (me g tr:Nat) (N:NAP.UN) (ab aa ah:xae) (P:xae->xaf->xaf->Prop) (ρ:R4) (h1:TH):Prop
 | mk (aj:xae) (es way:xaf) (t6 t7:Option D) (er:ρ=[se (.at me),se (.int (g:Int)),se (.lst (aa.map .int)),se (.at tr),se (.at h.length),se (.at (h.length+1)),t6,t7]) (eh:h.set tr (.ml (aj.map .int))++[.ml (way.map nD),.ml (es.map nD)]=h1) (hx:∀b,NAP.XX N ab ah b->NAP.XX N ab aj b) (p:P aj es way)
theorem Db (p:RJ h me aS aP N ac ab)(c:Cl h)(n1:tr≠me)(n2:tr≠aS)(n3:tr≠aP)(ht:h[tr]?=se (.ml (ah.map .int)))(db:aa.length=N.nE)(tV:NAP.Lv aa g=0)(hgG:g<N.G)(T0:NAP.Tr N ah)(D0:NAP.Ww N ac ab aa ah) :∃(way:xaf) (aj:xae),TV [.at me,.int g,.lst (aa.map .int),.at tr] h=.ok (Rq way) (h.set tr (.ml (aj.map .int)))/\NAP.Tr N aj/\NAP.Ww N ac ab aa aj/\(∀b,NAP.XX N ab ah b->NAP.XX N ab aj b)/\Way N ac ab aa g aj way/\way.length<=900:=by have jF:=p.sm;have trl:tr<h.length:=(aQ.mp ht).1;obtain⟨Bn,hBn⟩:=NAP.lv_top aa;obtain⟨ρ1,h1,q1,aj,es,way,t6,t7,rfl,eh,hx,T1,D1,hw,wl⟩:=mN (fT:=Vy) (fs:=Vx) (ρ:=[se (.at me),se (.int (g:Int)),se (.lst (aa.map .int)),se (.at tr),se (.at h.length),se (.at (h.length+1)),ng,ng]) (h:=h++[.ml [],.ml ([g].map nD)]) (λm=>WI h me g tr N ab aa ah λaj es way=>NAP.Walk N ac ab aa g aj es way/\m=NAP.wm Bn N.bI aj es) (WI h me g tr N ab aa ah λaj es way=>NAP.Tr N aj/\NAP.Ww N ac ab aa aj/\Way N ac ab aa g aj way/\way.length<=900) (λm ρ h1 I=>by obtain⟨aj,es,way,t6,t7,rfl,eh,hx,W,rfl⟩:=I;have iO:∀{x:TM},h.length=(h.set tr x).length:=eV.symm;have P1:RJ h1 me aS aP N ac ab:=eh▸(p.set n1 n2 n3).app;have he1:h1[h.length+1]?=se (.ml (es.map nD)):=eh▸C9 (by rw[iO]);have hshort:=W.short tV hBn;rcases ve es with c0 | ⟨es0,e,c0⟩;obtain⟨wn,ex⟩:=W.none c0;exact#[ff,h1,vc (aM (aG (aJ (aH rfl rfl) (jQ he1)) rfl (mP (by rw[c0];decide)))),λz=>(nomatch z),λ_=>#[aj,es,way,t6,t7,rfl,eh,hx,W.tr,W.dead,.inl #[wn,ex],by rw[wn];decide]];(have cn:es≠[]:=by rw[c0];simp);(have pj:es.getLast?=se e:=by rw[c0];simp);(have ed:es.dropLast=es0:=by rw[c0];simp);(have sX:h1[h.length+1]?=se (.ml (es0.map nD++[.int e])):=by rw[he1,c0,cV];rfl);obtain⟨Pt,h0⟩:=W.path cn;have pl:=Pt.len;(have dC:es[way.length]?=se e:=by rw[pI] at pj;rwa [show es.length-1=way.length by simp[pl]] at pj);have hlev:=Pt.lev h0 dC;(have tz:e<N.nE:=by rw[<-db];exact mJ Β);(have esl:es.length<=900:=by(have nd:es.Nodup:=by refine qS.mpr λi j hi hj hij he=>?_;have iw:es[i]?=se es[i]:=aT hi;(have hj':es[j]?=se es[i]:=by rw[he];exact aT hj);have:=Pt.inj h0 iw hj';simp_all);(have:=BU (n:=N.nE) nd λx hx=>by obtain⟨i,hi⟩:=bz hx;have:=Pt.lev h0 hi;rw[<-db];exact mJ Β);lia);have lpos:=fj.mpr cn;(have rm:SG [.at me,.lst [.int e]] h1=.ok (.bl (Wp N ab e)) h1:=by(have:=x8 (es:=[e]) P1 (by simp) λx hx=>by rw[cT.mp hx];exact tz);simpa [Rq,nD] using this);refine#[! Wp N ab e,h1,rI (aM (aG (aJ (aH rfl rfl) (jQ he1)) rfl (mO (by rw[bn];simp[pl])))) (vd (aM (cW rfl P1.mi (aH (kG (m:=ff) (aH (xY rfl sX) rfl) rfl) rfl) rm))),λcr=>?_,λcr=>?_];(have o5:¬NAP.Sq N ab e:=λhR=>by rw[(p9 (by rw[p.lp];exact tz)).mpr hR] at cr;cases cr);obtain⟨tried2,q2,W2,hpot,hx2,l,t,hl,htt,hK,hlead⟩:=JK P1 n1 n2 n3 (eh▸cC (oM ht)) db W pj tz;have gQ:∀b,NAP.XX N ab ah b->NAP.XX N ab tried2 b:=λb h=>hx2 b (hx b h);obtain⟨h2,cN⟩:∃h2,h.set tr (.ml (tried2.map .int))++[.ml (way.map nD),.ml (es.map nD)]=h2:=#[_,rfl];rw[show h1.set tr (.ml (tried2.map .int))=h2 by rw[<-eh,<-cN,mQ (by rwa [<-iO]),kr]] at q2;have P2:RJ h2 me aS aP N ac ab:=cN▸(p.set n1 n2 n3).app;have ht2:h2[tr]?=se (.ml (tried2.map .int)):=cN▸cC (oM ht);have hw2:h2[h.length]?=se (.ml (way.map nD)):=cN▸ya iO;have tL:h2[h.length+1]?=se (.ml (es.map nD)):=cN▸C9 (by rw[iO]);refine nA (xY rfl sX) (nD' (cW rfl P1.mi (aH rfl (aH rfl (aH rfl rfl))) q2) ?_);by_cases ct:t<l.length;have hk:l[t]?=se l[t]:=aT ct;generalize l[t]=k at hk;obtain⟨b,hb⟩:=xw p.wf hl (aK hk);have W3:=W2.push pj hl htt hk ((BR p.wf hb p.ls).mp (hlead _ b hk hb)) o5;have hsh:=W3.short tV hBn;rw[dW,wq] at hsh;(have P3:RJ (h2.set h.length (.ml (way.map nD++[.int k]))) me aS aP N ac ab:=by obtain⟨a1,a2,a3⟩:=p.ltS;exact P2.set (by exact eD a1) (by exact eD a2) (by exact eD a3));refine nT (aM (aG (io rfl ht2 rfl htt) (aJ (aH (P2.ai rfl rfl hl) rfl) dY) (qj Β))) (nA (f8 (g:=nD) (P2.ai rfl rfl hl) (io rfl ht2 rfl htt) hk) (nD' (lj rfl hw2 rfl (by rw[bn];lia)) (nE (fZ (lj rfl (by rw[bN Β];exact tL) (aH (cW rfl P3.mi (aH rfl (aH rfl rfl)) (x6 P3 hb)) rfl) (by rw[bn];exact NAG.gl4 esl))) #[_,?_,tried2,es++[b],way++[k],_,_,rfl,?_,gQ,W3,rfl])));unfold NAP.wm;rw[QX (by simp),QX cn,dW,wq];have:=uA (Bn+3) hpot;exact NAG.gl2 this hsh;rw[<-cN,Da iO,yb (by rw[iO]),cV,cV];rfl;rw[show t=l.length from NAG.gl3 hK ct] at htt;refine nF (aM (aG (io rfl ht2 rfl htt) (aJ (aH (P2.ai rfl rfl hl) rfl) dY) (qk Β))) (nD' (C4 rfl (by rw[tL,c0,cV];rfl)) ?_);have he3:(h2.set (h.length+1) (.ml (es0.map nD)))[h.length+1]?=se (.ml (es0.map nD)):=oM tL;rcases ve es0 with cd | ⟨es1,f,cd⟩;obtain⟨wn,W3⟩:=W2.fin pj (ed.trans cd) hl htt o5;refine nF (aM (aG (aJ (aH rfl rfl) (jQ he3)) rfl (mP (by rw[cd];decide)))) (nE rfl #[_,?_,tried2,[],[],_,_,rfl,?_,gQ,W3,rfl]);unfold NAP.wm;rw[QY rfl,QX cn];simp[hl];rw[<-cN,yb (by rw[iO]),cd,wn];(have cdn:es.dropLast≠[]:=by rw[ed,cd];simp);obtain⟨t2,l2,j1,j2,j3,W3⟩:=W2.pop p.wf pj (f:=f) (by rw[ed,cd];simp) hl htt o5;rw[ed] at W3 cdn;(have dl:es.length=es0.length+1:=by rw[c0];simp);have hdl:=fj.mpr cdn;(obtain⟨wd,kw,hw⟩:∃wd kw,way=wd++[kw]:=(ve way).resolve_left λz=>by rw[z] at pl;simp at pl;simp_all);rw[hw,wx] at W3;refine nT (aM (aG (aJ (aH rfl rfl) (jQ he3)) rfl (mO (by rw[bn];simp[*])))) (nD' (C4 rfl (by rw[bN Β,hw2,hw,cV];rfl)) (nE (qg rfl (xY rfl (by rw[bN Β,he3,cd,cV];rfl)) (by rw[bN (NAG.gl1 trl),bN (by lia)];exact ht2) j2 rfl) #[_,?_,tried2.set f ((t2:Int)+1),es0,wd,_,_,rfl,?_,λb h=>(gQ b h).keep j1 j2 Β,W3,rfl]));unfold NAP.wm;rw[QX cdn,QX cn,dl];have p1:=NAP.Yz j1 j2 j3;have p2:(NAP.Z5 N.bI (tried2.set f (t2+1))+1)*(Bn+3)<=NAP.Z5 N.bI aj*(Bn+3):=uA _ Β;rw[wS] at p2;exact NAG.gl5 p2;rw[<-cN,yb (by rw[iO]),Da iO,mQ (by rwa [<-iO]),kr];rfl;have hR:=(p9 (by rw[p.lp];exact tz)).mp (show Wp N ab e=tj by simpa using cr);refine#[aj,es,way,t6,t7,rfl,eh,hx,W.tr,W.dead,.inr #[?_,es,e,Pt,h0,dC,hR],by lia];rintro rfl;rw[show es[0]?=se e from dC] at h0;cases h0;have:=hR.1;exact NAG.gl0 hgG this) #[ah,[g],[],ng,ng,rfl,by rw[qn ht];rfl,λb h=>h,#[T0,D0,λ_=>#[#[rfl,λi k hk=>by simp at hk],rfl],λz=>by simp at z,λi k e hk=>by simp at hk],rfl];refine#[way,aj,a8 rfl (sA XM (sA (h1:=h++[TM.ml [],TM.ml ([g].map nD)]) ?_ (sG q1 (sR rfl ?_)))),T1,D1,hx,hw,wl];show RX.R.ok (D.at (hn _)) (hp _ _)=_;rw[fM,fO,fY,dW];rfl;rw[<-eh,show h.length=(h.set tr (TM.ml (aj.map .int))).length by rw[eV]];exact oH (c.set jy) (bE _) (ya rfl) rL
end
section
variable {h h' t:TH}{me aS aP i:Nat}{N:NAP.UN}{ac ab sent' ao:xae}{e k b:Nat}
theorem yc:∀b l,ZJ (l.map nD) b=(NAP.U1 b l).map nD| true,[]=>rfl| false,[]=>rfl| true,x::r=>by show nD x::ZJ (r.map nD) ff=nD x::(NAP.U1 ff r).map nD;rw[yc ff r]| false,x::r=>yc tj r
theorem yd:∀l:xae,RB X8 (l.map D.int)=se l:=by intro l;induction l with| nil =>exact rfl| cons x l ih =>exact Rt.mpr #[x,l,rfl,ih,rfl]
theorem RJ.putS (p:RJ h me aS aP N ac ab)(hl:sent'.length=ac.length):RJ (h.set aS (.ml (sent'.map .int))) me aS aP N sent' ab :=#[by rw[bN (Ne.symm p.nS)];exact p.mi,oM p.st,by rw[bN p.ne];exact p.sp,p.ne,p.nS,p.nP,p.wf,hl.trans p.ls,p.lp,p.sm,p.sk,p.la]
theorem RJ.putP (p:RJ h me aS aP N ac ab)(hl:ao.length=ab.length):RJ (h.set aP (.ml (ao.map .int))) me aS aP N ac ao :=#[by rw[bN (Ne.symm p.nP)];exact p.mi,by rw[bN (Ne.symm p.ne)];exact p.st,oM p.sp,p.ne,p.nS,p.nP,p.wf,p.ls,hl.trans p.lp,p.sm,p.sk,p.la]
theorem ye {b:Bool}(z:fa ρ h=.ok (Rq l) h):Td (Zp ff b fa) ρ h=.ok (VS (Rq (NAP.U1 b l))) h:=by refine eX ?_;unfold Zp;rw[z];show mk ff (ZJ (l.map nD) b) h=_;rw[yc];rfl
theorem Dc (p:RJ h me aS aP N ac ab)(hd:∀x,op x a=x+d)(hi:fi [se (.at me),x1,x2,x3,se (.int a),x5] h=.ok (VS (Rq ks)) h)(hl:ks.length<=900)(hk:∀k∈ks,k<ac.length) :On (S8 fi (rN 5) (Yw op (RL 0 2 (rV 0)) (rV 5) (rV 4)) [se (.at me),x1,x2,x3,se (.int a),x5] h) fun ρ h'=>(∃t,ρ=[se (.at me),x1,x2,x3,se (.int a),t])/\h.set aS (.ml ((NAP.Tc d ac ks).map .int))=h':=by(refine(fq (λi ρ h'=>(∃t,ρ=[se (.at me),x1,x2,x3,se (.int a),t])/\h.set aS (.ml ((NAP.Tc d ac (ks.take i)).map .int))=h') hi (λi ρ h _=>c9 i) (NAG.gl12 hl) #[#[_,rfl],qn p.st] λi k ρ h2 cP I=>?_).imp fun ρ h' I=>by rwa [dP (bE _)] at I);obtain⟨⟨t,rfl⟩,eh⟩:=I;have P:=p.putS (sent':=NAP.Tc d ac (ks.take i)) (by rw[NAP.T7]);rw[eh] at P;refine#[_,rfl,nE (qg (bh rfl P.mi rfl) rfl P.st (NAM.getD_at (by rw[NAP.T7];exact hk k (aK cP))) rfl) #[#[_,rfl],?_]];rw[<-eh,kr,take_snoc cP,IL,hd]
theorem JM (p:RJ h me aS aP N ac ab)(kf:way.length<=900)(hwn:way≠[])(hF:NAP.Flow N aZ ac ab)(Pt:NAP.Vu N aa ac es way)(h0:es[0]?=se g)(h1:es[way.length]?=se f)(hR:NAP.Sq N ab f)(hg:g<N.G)(hsg:0<ab.getD g 0) :∃(a:Int) (ao:xae),Tn [.at me,.int g,Rq way] h=.ok .non ((h.set aS (.ml ((NAP.UD a ac way).map .int))).set aP (.ml (ao.map .int)))/\0<a/\NAP.Sent N aZ ac ab way g f a ao/\ao.getD g 0<ab.getD g 0/\∀e,e<N.G->e≠g->ao.getD e 0=ab.getD e 0:=by have ji:=p.wf.gle;have qJ:=p.lp;obtain⟨hfG,y,hy,hy0⟩:=hR;have hfl:=(aQ.mp hy).1;(have lK:=by exact NAG.gl37 hg qJ ji);have hgs:=NAM.getD_at lK;obtain⟨w0,kl,jW⟩:=(ve way).resolve_left hwn;obtain⟨a0,b0,ea,eb,tie,_,_⟩:=Pt.link w0.length kl (by rw[jW];simp);rw[show w0.length+1=way.length by rw[jW];simp,h1] at eb;cases eb;obtain⟨pe,hpe,hpq⟩:=tie;have tI:=p.wf.lo kl pe hpe;(have hpf:pe.2=f:=by rcases hpq with ⟨_,z⟩ | ⟨_,z⟩<;>lia);(have kin:∀{b:Bool} {k:Nat},k∈NAP.U1 b way->k<ac.length:=λh=>by rw[p.ls];exact Pt.lt (NAP.XV h));have lao:=uV ff way;have lae:=uV tj way;obtain⟨ml,hml⟩:∃ml,ml=(NAP.U1 ff way).map λk=>ac.getD k 0:=#[_,rfl];obtain⟨m1,m2,m3⟩:=Cs (y::ml) (ab.getD g 0);obtain⟨a,ha⟩:∃a,YE (ab.getD g 0) (y::ml)=a:=#[_,rfl];rw[ha] at m1 m2 m3;(have a3:∀k∈NAP.U1 ff way,∀s,ac[k]?=se s->a<=s:=λk hk s hs=>by have:=m2 (ac.getD k 0) (a7 _ (hml▸aU.mpr #[k,hk,rfl]));rwa [show ac.getD k 0=s by simp[gU,hs]] at this);(have av:0<a:=by rcases bj.mp m3 with rfl | ha;exact hsg;rcases bj.mp ha with rfl | ha;exact hy0;rw[hml] at ha;obtain⟨k,hk,rfl⟩:=aU.mp ha;obtain⟨s,hs,qH⟩:=Pt.back p.wf h0 hg hk;rwa [show ac.getD k 0=s by simp[gU,hs]]);obtain⟨_,h2,q1,⟨t1,rfl⟩,cN⟩:=Dc (x2:=se (Rq way)) (fi:=Td (Zp ff tj (rV 2))) p (λ_=>rfl) (ye rfl) (by exact bW lae kf) λk hk=>kin hk;obtain⟨S1,hS1⟩:∃S1,NAP.Tc a ac (NAP.U1 tj way)=S1:=#[_,rfl];(have S1l:S1.length=ac.length:=by rw[<-hS1,NAP.T7]);rw[hS1] at cN;have P2:=cN▸p.putS S1l;(obtain⟨_,h3,q2,⟨t2,rfl⟩,eh3⟩:=Dc (x2:=se (Rq way)) (fi:=Td (Zp ff ff (rV 2))) P2 (λ_=>Int.sub_eq_add_neg) (ye rfl) (by exact bW lao kf) λk hk=>by rw[S1l];exact kin hk);obtain⟨S2,je⟩:∃S2,NAP.Tc (-a) S1 (NAP.U1 ff way)=S2:=#[_,rfl];rw[je] at eh3;have P3:=eh3▸P2.putS (by rw[<-je,NAP.T7]);(have hgf:f≠g:=by lia);obtain⟨s1,eY⟩:∃s1,ab.set g (ab.getD g 0-a)=s1:=#[_,rfl];(have hy2:s1[f]?=se y:=by rwa [<-eY,NAP.Vh hgf]);have P4:RJ (h3.set aP (.ml (s1.map .int))) me aS aP N S2 s1:=P3.putP (by rw[<-eY,eV]);have S:=hF.ac p.wf Pt h0 h1 hg (by simp[*]) hgs hy (cy av) m1 (m2 _ aO) a3;refine#[a,s1.set f (y-a),a8 rfl (sA (aG (f8 (bh rfl p.mi rfl) (CB rfl rfl ?_) hpe) rfl (hpf▸rfl)) (sA (aJ (xs:=[.lst ((ab.getD g 0::y::ml).map .int)]) (aH (aG (e:=.lst (ml.map .int)) (kG (aH (io (bh rfl p.mi rfl) p.sp rfl hgs) (aH (io (bh rfl p.mi rfl) p.sp rfl hy) rfl)) rfl) (cA (ye rfl) c9 (NAG.gl115 lao kf) (λk hk=>#[_,rfl,io (bh rfl p.mi rfl) p.st rfl (NAM.getD_at (kin hk))]) ?_) ?_) rfl) ?_) (sG q1 (sG q2 (sG (eY▸qg (bh rfl P3.mi rfl) rfl P3.sp hgs rfl) (sE (qg (bh rfl P4.mi rfl) rfl P4.sp hy2 rfl) ?_)))))),av,eY▸S,?_,λe he heg=>?_];rw[jW,cV];exact(CG).trans Ag;rw[hml,cB];rfl;(have mll:ml.length=(NAP.U1 ff way).length:=by rw[hml,bn]);show RU (bQ (Sn [D.int (ab.getD g 0),D.int y]+Sn (ml.map D.int)) 16777216) (mk ff (Ze [D.int (ab.getD g 0),D.int y] (ml.map D.int)) h)=_;rw[aV,aV,bn,dz.mpr (by simp;lia),gN];rfl;show Rz (RB X8 ((ab.getD g 0::y::ml).map D.int)) _=_;rw[yd];show R.ok (D.int (YE (ab.getD g 0) (y::ml))) h=_;rw[ha];rw[kr,<-eh3,<-cN,kr,<-je,<-hS1];exact bF (by rw[eV,eV]);(have:(s1.set f (y-a)).getD g 0=ab.getD g 0-a:=by rw[bR,NAP.Vh (Ne.symm hgf),<-eY,fK lK];rfl);lia;rw[bR,NAP.Vh (NAG.gl105 he hfG),<-eY,NAP.Vh heg,<-bR]
end
section
variable {h t:TH}{me aS aP i:Nat}{N:NAP.UN}{ac ab ao:xae}{e:Nat}
noncomputable def hh (h:TH) (aS aP:Nat) (s q:xae):TH:=(h.set aS (.ml (s.map .int))).set aP (.ml (q.map .int))
theorem oN:(hh h aS aP s q).length=h.length:=by unfold hh;rw[eV,eV]
theorem RJ.hh (p:RJ h me aS aP N ac ab)(h1:s.length=ac.length)(h2:q.length=ab.length):RJ (NAY.hh h aS aP s q) me aS aP N s q:=(p.putS h1).putP h2
theorem RJ.self (p:RJ h me aS aP N ac ab):NAY.hh h aS aP ac ab=h:=by unfold NAY.hh;rw[qn p.st,qn p.sp]
theorem De (ne:aS≠aP):hh (hh h aS aP s q) aS aP s' q'=hh h aS aP s' q':=by unfold hh;rw[AF _ _ (Ne.symm ne),kr,kr]
theorem JN (l1:aS<h.length)(l2:aP<h.length):hh (h++t) aS aP s q=hh h aS aP s q++t:=by unfold hh;rw[mQ l1,mQ (by rw[eV];exact l2)]
theorem vh (c:Cl h):Cl (hh h aS aP s q):=NAL.RX.Cl.set (NAL.RX.Cl.set c jy) jy
inductive PhI (h:TH) (me aS aP:Nat) (N:NAP.UN) (aZ aa aA ak:xae) (l:xaf) (t3 t4:Option D) (P:xae->xae->xae->Prop) (ρ:R4) (h1:TH):Prop
 | mk (ac ab ah:xae) (er:ρ=[se (.at me),se (.lst (aa.map .int)),se (.at h.length),t3,t4]) (eh:hh h aS aP ac ab++[.ml (ah.map .int)]=h1) (Ph:NAP.Wt N aZ aa aA ak l ac ab ah) (p:P ac ab ah)
theorem JO (p:RJ h me aS aP N aA ak)(c:Cl h)(db:aa.length=N.nE)(hF:NAP.Flow N aZ aA ak)(hS:NAP.YI N aA ak aa) :∃ac ab,Tx [.at me,.lst (aa.map .int)] h=.ok .non (hh h aS aP ac ab)/\NAP.Flow N aZ ac ab/\(∀(e:Nat) x y,ak[e]?=se x->ab[e]?=se y->y<=x)/\(∀e,0<=NAP.Lv aa e->NAP.Sq N ak e->ab.sum<ak.sum):=by have jF:=p.sm;have ji:=p.wf.gle;have qJ:=p.lp;obtain⟨l1,l2,l3⟩:=p.ltS;have tP:=BS (N:=N) (ab:=ak);have P0:=p.app (t:=[.ml ((bf N.nE 0).map .int)]);obtain⟨ρ2,h2,q2,t3,t4,s2,sp2,tr2,rfl,cN,Ph,same2⟩:=fq (f:=Uh) (fg:=rN 3) (fi:=Td (Rv 0 R8 (rV 0) Q6)) (ρ:=[se (.at me),se (.lst (aa.map .int)),se (.at h.length),ng,ng]) (λi ρ h1=>∃t3 t4,PhI h me aS aP N aZ aa aA ak ((rest N ak).take i) t3 t4 (λ_ ab _=>∀e,e<N.G->e∉(rest N ak).take i->ab.getD e 0=ak.getD e 0) ρ h1) (eX (cW rfl P0.mi rfl (C7 P0))) (λi ρ h _=>c9 i) (NAG.gl9 tP ji jF) #[ng,ng,aA,ak,_,rfl,by rw[p.self],#[hF,tr0 p.wf,IM,λe x y h1 h2=>by rw[h1] at h2;cases h2;exact dw _,.inl #[rfl,rfl,λg hg=>Β]],λe _ _=>rfl] (λi g ρ h1 hg I=>by obtain⟨t3,t4,ac,ab,ah,rfl,eh,Ph,same⟩:=I;have iZ:=WD.mp (aK hg);have tV:=hS.aI g _ iZ.1 (NAM.getD_at (NAG.gl11 iZ qJ ji)) iZ.2;have tU:∀{ac ab ah:xae} {h1:TH},hh h aS aP ac ab++[.ml (ah.map .int)]=h1->NAP.Flow N aZ ac ab->RJ h1 me aS aP N ac ab/\Cl h1/\h1[h.length]?=se (.ml (ah.map .int)):=λ{ac ab ah h1} eh F=>#[eh▸(p.hh (by rw[F.ls,hF.ls]) (by rw[F.lp,hF.lp])).app,eh▸NAL.RX.Cl.app (vh c) jy,eh▸qo (by rw[oN])];obtain⟨P1,C1,T1⟩:=tU eh Ph.flow;obtain⟨way,tried1,qw,TR1,D1,ex1,hway,kf⟩:=Db P1 C1 (by exact eD l1) (by exact eD l2) (by exact eD l3) T1 db tV iZ.1 Ph.tr Ph.dead;(have eh1:hh h aS aP ac ab++[.ml (tried1.map .int)]=h1.set h.length (.ml (tried1.map .int)):=by rw[<-eh,rK (by rw[oN])]);refine#[_,rfl,nA (cW rfl P1.mi (aH rfl (aH rfl (aH rfl rfl))) qw) (mN (λm ρ h1=>∃way,PhI h me aS aP N aZ aa aA ak ((rest N ak).take i) (se (.int g)) (se (Rq way)) (λac ab ah=>way.length<=900/\(∀e,e<N.G->e∉(rest N ak).take i->e≠g->ab.getD e 0=ak.getD e 0)/\((way=[]/\(NAP.XX N ab ah g\/ab.sum<ak.sum))\/(way≠[]/\0<ab.getD g 0/\∃es f,NAP.Vu N aa ac es way/\es[0]?=se g/\es[way.length]?=se f/\NAP.Sq N ab f))/\m=(ab.getD g 0).toNat) ρ h1) _ (λm ρ h1 I=>?_) #[way,ac,ab,tried1,rfl,eh1,Ph.walked TR1 D1 ex1,kf,λe he hm _=>same e he hm,hway.imp (λz=>#[z.1,.inl z.2]) (λz=>#[z.1,by rw[same g iZ.1 (IP IN hg)];exact iZ.2,z.2]),rfl])];obtain⟨way,ac,ab,ah,rfl,eh,Ph,kf,same,hway,rfl⟩:=I;obtain⟨P1,C1,T1⟩:=tU eh Ph.flow;by_cases cw:way=[];refine#[ff,h1,aM (aG (aJ (aH rfl rfl) dY) rfl (mP (by rw[cw];decide))),λz=>(nomatch z),λ_=>#[_,_,ac,ab,ah,rfl,eh,by rw[take_snoc hg];exact Ph.one (hway.resolve_right (λz=>z.1 cw)).2,λe he hm=>?_]];rw[take_snoc hg] at hm;simp only[c8,cT,not_or] at hm;exact same e he hm.1 hm.2;obtain⟨_,sg,es,f',Pt,p0,p1,pR⟩:=hway.resolve_left (λz=>cw z.1);obtain⟨a,ao,qs,a0,S,hless,oth⟩:=JM P1 kf cw Ph.flow Pt p0 p1 pR iZ.1 sg;have Ph3:=Ph.ac p.wf Pt p0 iZ.1 a0 S;have tH:=S.flow.lp;have sQ:=S.flow.sp g _ (NAM.getD_at (NAG.gl11 iZ tH ji));(have tB:ao.sum<ak.sum:=by have:=S.sum;rcases Ph.prog with ⟨_,rfl,_⟩ | z<;>lia);(have nO:∀e,e<N.G->e∉(rest N ak).take i->e≠g->ao.getD e 0=ak.getD e 0:=λe he hm df=>by rw[oth e he df];exact same e he hm df);obtain⟨h2,cN⟩:∃h2,hh h aS aP (NAP.UD a ac way) ao++[.ml (ah.map .int)]=h2:=#[_,rfl];have q2:Tn [.at me,.int g,Rq way] h1=.ok .non h2:=qs.trans (by rw[<-cN,<-eh];show R.ok D.non (hh (hh h aS aP ac ab++_) aS aP _ _)=_;rw[JN (by rwa [oN]) (by rwa [oN]),De p.ne]);obtain⟨P2,C2,T2⟩:=tU cN S.flow;have gs:=NAM.getD_at (show g<ao.length from NAG.gl11 iZ tH ji);have lw:=fj.mpr cw;refine#[tj,h1,aM (aG (aJ (aH rfl rfl) dY) rfl (mO (by simp[*]))),λ_=>nD' (cW rfl P1.mi (aH rfl (aH rfl rfl)) q2) ?_,λz=>(nomatch z)];have T:=io (fa:=RL 0 3 (rV 0)) (fb:=rV 3) (ρ:=[se (.at me),se (.lst (aa.map .int)),se (.at h.length),se (.int g),se (Rq way)]) (bh rfl P2.mi rfl) P2.sp rfl gs;by_cases cs:0<ao.getD g 0;obtain⟨way2,tried2,qw2,T3,D3,ex2,hway2,hwl2⟩:=Db P2 C2 (NAG.gl1 l1) (NAG.gl1 l2) (NAG.gl1 l3) T2 db tV iZ.1 Ph3.tr Ph3.dead;exact nE (jb (C5 (aM (aG T rfl (mO cs))) (cW rfl P2.mi (aH rfl (aH rfl (aH rfl rfl))) qw2)) rfl) #[_,by lia,way2,_,ao,tried2,rfl,by rw[<-cN,rK (by rw[oN])],Ph3.walked T3 D3 ex2,hwl2,nO,hway2.imp (λz=>#[z.1,.inr tB]) (λz=>#[z.1,cs,z.2]),rfl];exact nE (jb (C6 (aM (aG T rfl (mP cs))) rfl) rfl) #[_,by lia,[],_,ao,ah,rfl,cN,Ph3,by simp,nO,.inl #[rfl,.inr tB],rfl]);rw[dP (bE _)] at Ph;refine#[s2,sp2,a8 rfl (sA (aG rfl (aJ (aH (bh rfl p.mi rfl) rfl) (jQ p.sp)) ?_) (sE q2 ?_)),Ph.flow,Ph.le,λe he hR=>Ph.less p.wf hS (λg hg=>?_) he hR];rw[bn,p.lp,mul_one (NAG.gl10 jF),x9];show RX.R.ok (D.at (hn h)) (hp h _)=_;rw[fM,fO];rw[<-cN];rw[show h.length=(hh h aS aP s2 sp2).length by rw[oN]];exact li (vh c) trivial;obtain⟨a1,x,a2,a3⟩:=hS.zero g hg;refine WD.mpr #[a1,?_];rwa [show ak.getD g 0=x by simp_all]
end
section
variable {h:TH}{me aS aP i:Nat}{N:NAP.UN}{ac ab:xae}{e:Nat}
theorem JP {l:xae}(i:Nat):nEn (.lst (l.map .int)) h i=se ((l.zipIdx.map λp=>D.tup [.int p.2,.int p.1])[i]?):=by rw[CM,bo,bo,n8,n8,bo];cases l[i]?<;>rfl
noncomputable def Xx (aa:xae):xaf:=(aa.zipIdx.filter λp=>decide (0<=p.1)).map (·.2)
theorem Xw:e∈Xx aa↔0<=NAP.Lv aa e:=by unfold Xx;rw[aU];constructor;rintro⟨⟨x,j⟩,hm,rfl⟩;(have:NAP.Lv aa j=x:=by grind[NAP.Lv,bR]);simp_all;intro z;exact#[(NAP.Lv aa e,e),bi.mpr #[List.mem_zipIdx_iff_getElem?.mpr (rq (mJ z)),QZ z],rfl]
theorem JQ:(Xx aa).length<=aa.length:=by unfold Xx;rw[bn];refine bW (eF _ _) ?_;simp_all
inductive FiI (h:TH) (me aS aP:Nat) (N:NAP.UN) (ak:xae) (P:xae->xae->xae->Prop) (ρ:R4) (h1:TH):Prop
 | mk (ac ab aa:xae) (er:ρ=[se (.at me),se (.lst (aa.map .int))]) (eh:hh h aS aP ac ab=h1) (l:aa.length=N.nE) (le:∀(e:Nat) x y,ak[e]?=se x->ab[e]?=se y->y<=x) (p:P ac ab aa)
theorem JR (p:RJ h me aS aP N aA ak)(c:Cl h)(hF:NAP.Flow N aZ aA ak) :∃ac ab aa,WT [.at me] h=.ok (.lst ((SJ aa).map .bl)) (hh h aS aP ac ab)/\NAP.Uw N aZ ac ab aa/\(∀(e:Nat) x y,ak[e]?=se x->ab[e]?=se y->y<=x)/\aa.length=N.nE:=by have jF:=p.sm;obtain⟨aa,qs,db,hfd⟩:=C8 p c;obtain⟨ρ2,h2,q2,s2,sp2,st2,rfl,cN,sl2,lN,Dn⟩:=mN (fT:=Xq) (fs:=Xo) (ρ:=[se (.at me),se (.lst (aa.map .int))]) (λm=>FiI h me aS aP N ak λac ab aa=>NAP.Flow N aZ ac ab/\Found N ac ab aa/\m=ab.sum.toNat) (FiI h me aS aP N ak λac ab aa=>NAP.Uw N aZ ac ab aa) (λm ρ h1 I=>by obtain⟨ac,ab,aa,rfl,eh,db,le,hF1,⟨d,row,R,jk⟩,rfl⟩:=I;(have a2:ab.length=ak.length:=by rw[hF1.lp,hF.lp]);have P1:=eh▸p.hh (by rw[hF1.ls,hF.ls]) a2;have rl:=JQ (aa:=aa);(have rm:=x8 (es:=Xx aa) P1 (by lia) λe he=>by rw[<-db];exact mJ (Xw.mp he));refine#[(Xx aa).any (Wp N ab),h1,aM (cW rfl P1.mi (aH (cM (rG rfl) JP (by rw[pM];exact NAG.gl101 db jF) (λq hq=>#[[se (.int q.2),se (.int q.1)],by unfold WH;rfl,aM (aG rfl rfl ge_int),λ_=>rfl]) (by unfold Xx;rw[cB];rfl)) rfl) rm),λcr=>?_,λcr=>?_];obtain⟨e,he,hR⟩:=gL.mp cr;have he0:=Xw.mp he;obtain⟨s2,sp2,q2,F2,lN,less⟩:=JO P1 (eh▸vh c) db hF1 R.st;have sl:=less e he0 ((p9 (by rw[P1.lp,<-db];exact mJ he0)).mp hR);have n0:=NAP.Ys λi x hx=>F2.sp i x hx;(have cN:hh h1 aS aP s2 sp2=hh h aS aP s2 sp2:=by rw[<-eh,De p.ne]);have P2:=cN▸P1.hh (by rw[F2.ls,hF1.ls]) (by rw[F2.lp,hF1.lp]);obtain⟨st2,q3,sl3,f3⟩:=C8 P2 (vh c);rw[cN] at q2;refine nD' (cW rfl P1.mi (aH rfl rfl) q2) (nE (jb (cW rfl P2.mi rfl q3) rfl) #[_,by lia,s2,sp2,st2,rfl,rfl,sl3,λe x y h1 h2=>?_,F2,f3,rfl]);have hz:ab[e]?=se (ab[e]'(by have:=(aQ.mp h1).1;simp_all)):=aT _;exact i6 (lN e _ _ hz h2) (le e _ _ h1 hz);(have o5:∀e,0<=NAP.Lv aa e->¬NAP.Sq N ab e:=λe he hR=>by have:=gL.mpr #[e,Xw.mpr he,(p9 (by rw[P1.lp,<-db];exact mJ he)).mpr hR];rw[this] at cr;cases cr);exact#[ac,ab,aa,rfl,eh,db,le,R.done hF1 jk o5]) #[aA,ak,aa,rfl,p.self,db,λe x y h1 h2=>by rw[h1] at h2;cases h2;exact dw _,hF,hfd,rfl];refine#[s2,sp2,st2,a8 rfl (sA (cW rfl p.mi rfl qs) (sG q2 (sR (cA (L:=(SJ st2).map .bl) (eX rfl) c9 (NAG.gl101 sl2 jF) (λs hs=>#[[se (.int s)],rfl,aG rfl rfl ge_int]) ?_) ?_))),Dn,lN,sl2];unfold SJ;rw[cB];rfl;rw[<-cN];exact bF oN
end
section
variable {h h':TH}{i:Nat}{e k b:Nat}
theorem JS:∀m i h,h[a]?=se (.ml l)->i<=l.length->l.length<i+m->Y3 (VS (.at a)) (rN 0) Si (Sj tj Q6) [ng] m i h=.ok ((aR (l.length-i)).map λk=>.at (h.length+k)) (h++bf (l.length-i) (.ml [])):=by intro m;induction m with| zero =>rintro i h _ h1 h2;exact absurd h2 (by simp[*])| succ m ih =>rintro i h ha h1 h2;rw[qe];(have e1:VS (.at a) h i=se (l[i]?):=by show Uz (eS h (.at a)) _=_;unfold eS;dsimp only;rw[aW,ha];show se (eg l i)=_;rw[aW]);rw[e1];by_cases lt:i<l.length;rw[aT lt];show R.bnd (Y3 (VS (.at a)) (rN 0) Si (Sj tj Q6) [ng] m (i+1) (hp h (.ml []))) (λys h'=>.ok (D.at (hn h)::ys) h')=_;rw[fO,ih (i+1) (h ++ [.ml []]) (cC ha) lt (NAG.gl13 h2),fM];show R.ok (D.at h.length::_) _=_;rw[show l.length - i=(l.length - (i+1))+1 from NAG.gl14 lt,n9,pJ,be,cB,fY];simp;lia;(have:=by exact NAG.gl3 h1 lt);subst this;simp
noncomputable def hI (h0:TH) (F:List D) (ss:xae) (E:Nat) (sp:Nat->Int) (af:Nat->xaf):TH:=h0++([.mi 0 F,.ml (ss.map .int),.ml (((aR E).map sp).map .int)]++(aR E).map λe=>.ml ((af e).map nD))
section
variable {h0:TH}{F:List D}{ss:xae}{E:Nat}{sp sp':Nat->Int}{af af':Nat->xaf}
theorem yf:(hI h0 F ss E sp af)[h0.length]?=se (.mi 0 F):=by unfold hI;rw[fW (bE _),rc];rfl
theorem JT:(hI h0 F ss E sp af)[h0.length+1]?=se (.ml (ss.map .int)):=by unfold hI;simp_all
theorem JU:(hI h0 F ss E sp af)[h0.length+2]?=se (.ml (((aR E).map sp).map .int)):=by unfold hI;simp_all
theorem Df (he:e<E):(hI h0 F ss E sp af)[h0.length+3+e]?=se (.ml ((af e).map nD)):=by unfold hI;rw[fW (by lia),show h0.length+3+e-h0.length=3+e from NAG.gl114,fW (by exact ku ..),show 3+e-([.mi 0 F,.ml (ss.map .int),.ml (((aR E).map sp).map .int)]:TH).length=e by simp,oy _ he]
theorem JV (he:e<E)(v:Int):(hI h0 F ss E sp af).set (h0.length+2) (.ml ((((aR E).map sp).map .int).set e (.int v)))=hI h0 F ss E (λx=>if x=e then v else sp x) af:=by unfold hI;rw[pK _ _ Β,show h0.length+2-h0.length=2 by simp_all,ints_set,xy];rfl
theorem JW (he:e<E)(l:xaf):(hI h0 F ss E sp af).set (h0.length+3+e) (.ml (l.map nD))=hI h0 F ss E sp (λx=>if x=e then l else af x):=by unfold hI;rw[pK _ _ (by lia),show h0.length+3+e-h0.length=3+e from NAG.gl114,pK _ _ (by exact ku ..),show 3+e-([.mi 0 F,.ml (ss.map .int),.ml (((aR E).map sp).map .int)]:TH).length=e by simp,xy];grind
theorem JX (h1:∀e<E,sp e=sp' e)(h2:∀e<E,af e=af' e):hI h0 F ss E sp af=hI h0 F ss E sp' af':=by unfold hI;have a:=cz λx hx=>h1 x (dy.mp hx);(have b:((aR E).map λe=>TM.ml ((af e).map nD))=(aR E).map λe=>TM.ml ((af' e).map nD):=cz λx hx=>by rw[h2 x (dy.mp hx)]);rw[a,b]
theorem Dg (hF:F=[G,ed,.at (h0.length+1),.at (h0.length+2),.lst ((aR E).map λk=>.at (h0.length+3+k))])(he:e<E)(hk:ss[k]?=se s)(hal:(af e).length<=900) :Xn [se (.at h0.length),se gs,se ts,se ti,se sd,se (.int k),se tu,se (.int e)] (hI h0 F ss E sp af)=.ok (.nx [se (.at h0.length),se gs,se ts,se ti,se sd,se (.int k),se tu,se (.int e)]) (hI h0 F ss E (λx=>if x=e then sp e-s else sp x) (λx=>if x=e then af e++[k]else af x)):=by subst hF;refine(oF (qg (bh rfl yf rfl) rfl JU (oy _ he) (io (bh rfl yf rfl) JT rfl hk))).trans ?_;rw[<-ints_set,JV he,<-JW he];refine fZ (d:=D.non) ((lj (CB (bh rfl yf rfl) rfl (Vj.trans (oy (λk=>D.at (h0.length+3+k)) he))) (Df he) rfl (by rw[bn];exact NAG.gl4 hal)).trans ?_);rw[cV];rfl
end
end
section
variable {h h' t:TH}{i:Nat}{N:NAP.UN}{o:TM}{e k b:Nat}
theorem vk {l:List γ}(i:Nat):nEn (.lst (l.map g)) h i=se ((l.zipIdx.map λp=>D.tup [.int p.2,g p.1])[i]?):=by rw[CM,bo,bo,n8,n8,bo];cases l[i]?<;>rfl
theorem Dh (he:fi ρ h=.ok (VS (.tup [x,y])) h)(g1:fg x ρ=se ρ1)(s1:fs ρ1 h=.ok (.nx ρ2) h2)(g2:fg y ρ2=se ρ3)(s2:fs ρ3 h2=.ok (.nx ρ4) h4):S8 fi fg fs ρ h=.ok (.nx ρ4) h4:=by unfold S8;rw[he];show Rz (fg x ρ) _=_;rw[g1];show R.bnd (fs ρ1 h) _=_;rw[s1];show Rz (fg y ρ2) _=_;rw[g2];show R.bnd (fs ρ3 h2) _=_;rw[s2];rfl
theorem Di {a b:List α}(h1:RB f a=se a')(h2:RB f b=se b'):RB f (a++b)=se (a'++b'):=by induction a generalizing a' with| nil=>cases h1;exact h2| cons x a ih =>obtain⟨y,ys,e1,e2,rfl⟩:=Rt.mp h1;exact Rt.mpr #[y,ys++b',e1,ih e2,rfl]
theorem lr {k:γ->β}:∀{l:List γ},(∀x∈l,f (g x)=se (k x))->RB f (l.map g)=se (l.map k):=by intro l;induction l with| nil =>rintro _;exact rfl| cons x l ih =>rintro h;exact Rt.mpr #[_,_,h x (.head _),ih λy hy=>h y (.tail _ hy),rfl]
section
variable {h0:TH}{ss:xae}{E:Nat}{sp:Nat->Int}{af:Nat->xaf}{G:Int}{ed:xad}
theorem JY (c:Cl h0):trunc (h0.length+3) .non (hI h0 [.int G,.lst (ed.map XI),.at (h0.length+1),.at (h0.length+2),.lst ((aR E).map λk=>.at (h0.length+3+k))] ss E sp af)=.ok .non (h0++[.mi 0 [.int G,.lst (ed.map XI),.at (h0.length+1),.at (h0.length+2),.lst ((aR E).map λk=>Rq (af k))],.ml (ss.map .int),.ml (((aR E).map sp).map .int)]):=by by_cases z:E=0;subst z;rw[bF (by unfold hI;simp)];unfold hI;simp;obtain⟨H,eH⟩:∃H,hI h0 [.int G,.lst (ed.map XI),.at (h0.length+1),.at (h0.length+2),.lst ((aR E).map λk=>.at (h0.length+3+k))] ss E sp af=H:=#[_,rfl];have tU:∀k,k<E->H[h0.length+3+k]?=se (.ml ((af k).map nD)):=λk hk=>eH▸Df hk;unfold trunc;rw[aV,show bZ (hI h0 [.int G,.lst (ed.map XI),.at (h0.length+1),.at (h0.length+2),.lst ((aR E).map λk=>.at (h0.length+3+k))] ss E sp af).length (h0.length+3)=ff from e9.mpr λy=>by have:=mD y;unfold hI at this;simp at this;trivial];rw[eH];show Rz (RB (fzo H (h0.length+3)) (etk (h0.length+3) H)) _=_;rw[rz];(have tk:H.take (h0.length+3)=h0++[.mi 0 [.int G,.lst (ed.map XI),.at (h0.length+1),.at (h0.length+2),.lst ((aR E).map λk=>.at (h0.length+3+k))],.ml (ss.map .int),.ml (((aR E).map sp).map .int)]:=by rw[<-eH];unfold hI;rw[<-fY,Ax (by simp)]);rw[tk,Di (xT λx hx=>rB (oG Β (c x hx)))];rfl;refine Rt.mpr #[_,_,?_,Rt.mpr #[_,_,rB (n:=h0.length+3) jy,Rt.mpr #[_,_,rB (n:=h0.length+3) (o:=.ml (((aR E).map sp).map .int)) jy,rfl,rfl],rfl],rfl];(have f2:fz H (h0.length+3) 9 (.lst (ed.map XI))=se (.lst (ed.map XI)):=iF 9 λd hd=>by obtain⟨x,_,rfl⟩:=aU.mp hd;intro d hd;simp only[bj,gM,or_false] at hd;rcases hd with rfl | rfl<;>trivial);have f3:fz H (h0.length+3) 9 (.at (h0.length+1))=se (.at (h0.length+1)):=iF 9 (show h0.length+1<h0.length+3 by simp_all);have f4:fz H (h0.length+3) 9 (.at (h0.length+2))=se (.at (h0.length+2)):=iF 9 (show h0.length+2<h0.length+3 by simp_all);(suffices f5:fz H (h0.length+3) 9 (.lst ((aR E).map λk=>.at (h0.length+3+k)))=se (.lst ((aR E).map λk=>Rq (af k)))by show Uz (RB (fz H (h0.length+3) 9) _) _=_;have f1:fz H (h0.length+3) 9 (.int G)=se (.int G):=rfl;rw[Rt.mpr #[_,_,f1,Rt.mpr #[_,_,f2,Rt.mpr #[_,_,f3,Rt.mpr #[_,_,f4,Rt.mpr #[_,_,f5,rfl,rfl],rfl],rfl],rfl],rfl]];rfl);show Uz (RB (fz H (h0.length+3) 8) ((aR E).map λk=>D.at (h0.length+3+k))) D.lst=_;rw[lr λk hk=>?_];rfl;show(bif bH (h0.length+3+k) (h0.length+3)then se (D.at (h0.length+3+k))else match eg H (h0.length+3+k)with| some (.ml ds)=>Uz (RB (fz H (h0.length+3) 7) ds) .lst| _=>ng)=_;rw[show bH (h0.length+3+k) (h0.length+3)=ff from e9.mpr λy=>by have:=cD.mp y;lia,aW,tU k (dy.mp hk)];show Uz (RB (fz H (h0.length+3) 7) ((af k).map nD)) D.lst=_;rw[jP λx hx=>iF 7 (rL x hx)];rfl
end
theorem JZ {e:D}(hn:ds.length=n)(z:On (f (Vn ds k) h) λ_ h'=>h.length+m<=h'.length/\trunc (h.length+m) .non h'=.ok e h2):fnK m n k f ds h=.ok e h2:=by obtain⟨ρ',h',z,hm,t⟩:=z;unfold fnK;rw[z,aV,hn,show bZ n n=tj from gW n];show RU (bQ (Sn h+m) (Sn h')) (trunc (Sn h+m) .non h')=_;rwa [aV,aV,dz.mpr hm]
theorem nI {u:TH}(z:v ρ (h++ .mi c F::t)=.ok y (h++ .mi c F::u))(za:fa ρ (h++ .mi c F::u)=.ok (.at h.length) (h++ .mi c F::u))(k:On (g ρ (h++ .mi c (F++[y])::u)) P)(hn:F.length=n:=by rfl):On (Ra (X2 c n fa v) g ρ (h++ .mi c F::t)) P:=by have e:=CU z za R9 hn;grind[oJ,nG]
theorem On.mono (z:On r P)(k:∀ ρ h,P ρ h->Q ρ h):On r Q:=let #[ρ,h,e,p]:=z;#[ρ,h,e,k _ _ p]
theorem apN {u:TH}:(h++o::t)++u=h++o::(t++u):=by simp
theorem lnN:(h++o::t).length=h.length+(t.length+1):=by simp
theorem J0:Ws tj [.lst l] h=.ok (.at h.length) (h++[.ml l]):=by show R.ok (D.at (hn h)) (hp h (.ml l))=_;rw[fM,fO]
theorem J3 {a b:List D}(hl:a.length+b.length<=1000):UP tj (.lst a) (.lst b) h=.ok (.at h.length) (h++[.ml (a++b)]):=by show RU (bQ (Sn a+Sn b) 16777216) (R.ok (D.at (hn h)) (hp h (.ml (Ze a b))))=_;rw[aV,aV,dz.mpr (by lia),fM,fO,gN];rfl
theorem J4 {N:List Q7}(z:fa ρ h=.ok (.at i) h)(e:h[i]?=se (.ml l))(hl:l.length<1000):UJ N ff (Td fa) 1 [] (rN 0) Si (Sj tj Q6) ρ h=.ok (.lst ((aR l.length).map λk=>.at (h.length+k))) (h++bf l.length (.ml [])):=by show Wq ff (Td fa) 1 [] (rN 0) Si (Sj tj Q6) ρ h=_;unfold Wq Td;rw[z];show R.bnd (Rz (eS h (.at i)) _) _=_;rw[show eS h (.at i)=se l by grind[eS,aW]];show R.bnd (Y3 (VS (.at i)) (rN 0) Si (Sj tj Q6) [ng] 1000 0 h) _=_;rw[JS 1000 0 h e (iT _) (by assumption)];rfl
theorem J5 (c:Cl h0)(qL:∀p∈ai,p.1<gs.length/\p.2<ts.length)(pb:ss.length=ai.length)(hl:gs.length+ts.length<=900)(hK:ai.length<=900) :VD [.at h0.length,.lst (gs.map .int),.lst (ts.map .int),.lst (ai.map XI),.lst (ss.map .int)] (h0++[.mi 0 []])=.ok .non (h0++[.mi 0 [.int gs.length,.lst ((Sm gs.length ai).map XI),.at (h0.length+1),.at (h0.length+2),.lst ((Su gs.length ts.length ai).bI.map Rq)],.ml (ss.map .int),.ml (((aR (gs.length+ts.length)).map (Xv (gs++ts) (Sm gs.length ai) ss ai.length)).map .int)]):=by obtain⟨ed,hed⟩:∃ed,Sm gs.length ai=ed:=#[_,rfl];(have edl:ed.length=ai.length:=by rw[<-hed];unfold Sm;rw[bn]);(have edp:∀(k:Nat) p,ed[k]?=se p->p.1<gs.length+ts.length/\p.2<gs.length+ts.length/\p.1≠p.2:=λk p hp=>by rw[<-hed] at hp;unfold Sm at hp;rw[bo,jM] at hp;obtain⟨q,hq,rfl⟩:=hp;obtain⟨a,b⟩:=qL q (aK hq);refine#[?_,?_,?_]<;>dsimp only<;>lia);refine JZ rfl (nI (aJ rfl dY) rfl (nI (cA (eX rfl) c9 (NAG.gl12 hK) (λp hp=>#[_,by unfold WH;rfl,gP (aH rfl (aH (aG (bh rfl R9 rfl) rfl add_int) rfl)) rfl]) (L:=ed.map XI) (by rw[<-hed];simp[Sm,XI])) rfl (nI ((aJ rfl J0).trans (by rw[apN (h:=h0),lnN (h:=h0)])) rfl (nI ((aG rfl rfl (J3 (by simp;lia))).trans (by rw[apN (h:=h0),lnN (h:=h0)])) rfl (nI ((J4 (bh rfl R9 rfl) VO (by simp;lia)).trans (by rw[apN (h:=h0),lnN (h:=h0)])) rfl ?_)))));obtain⟨F,hF⟩:∃F,F=[D.int (gs.length:Int),.lst (ed.map XI),.at (h0.length+1),.at (h0.length+2),.lst ((aR (gs.length+ts.length)).map λk=>.at (h0.length+3+k))]:=#[_,rfl];(have a1:(aR (gs.length+ts.length)).map (Xv (gs++ts) ed ss 0)=gs++ts:=by have:=range_getD (gs++ts);rw[dW] at this;refine ua (cz λx _=>?_) this;simp[Xv,NAP.load]);refine On.mono (fq (l:=ed.zipIdx) (λi ρ h1=>∃t5 t6 t7:Option D,ρ=[se (.at h0.length),se (.lst (gs.map .int)),se (.lst (ts.map .int)),se (.lst (ai.map XI)),se (.lst (ss.map .int)),t5,t6,t7]/\hI h0 F ss (gs.length+ts.length) (Xv (gs++ts) ed ss i) (Xk ed i)=h1) (rG (bh rfl R9 rfl)) (λi ρ h _=>vk i) (by rw[pM];exact NAG.gl101 edl hK) #[_,_,_,rfl,by simp[hI,a1,Xk,hF,Ay]] ?_) ?_;rintro i q ρ h1 hq ⟨t5,t6,t7,rfl,rfl⟩;rw[n8,jM] at hq;obtain⟨p,hp,rfl⟩:=hq;obtain⟨p1,p2,p3⟩:=edp i p hp;have il:i<ed.length:=(aQ.mp hp).1;have hs:ss[i]?=se (ss.getD i 0):=NAM.getD_at Β;(have al:∀j x,(Xk ed j x).length<=j:=λj x=>by unfold Xk;refine bW (eF _ _) ?_;rw[kX];exact bE _);have s1:=Dg (h0:=h0) (sp:=Xv (gs++ts) ed ss i) (af:=Xk ed i) (gs:=.lst (gs.map .int)) (ts:=.lst (ts.map .int)) (ti:=.lst (ai.map XI)) (sd:=.lst (ss.map .int)) (tu:=XI p) hF p1 hs (by have:=al i p.1;exact NAG.gl106 this il edl hK);have s2:=Dg (h0:=h0) (sp:=λx=>if x=p.1 then Xv (gs++ts) ed ss i p.1-ss.getD i 0 else Xv (gs++ts) ed ss i x) (af:=λx=>if x=p.1 then Xk ed i p.1++[i]else Xk ed i x) (gs:=.lst (gs.map .int)) (ts:=.lst (ts.map .int)) (ti:=.lst (ai.map XI)) (sd:=.lst (ss.map .int)) (tu:=XI p) hF p2 hs (by rw[QX (Ne.symm p3)];have:=al i p.2;exact NAG.gl106 this il edl hK);rw[q8];refine#[_,by unfold WH;rfl,?_];refine nE (Dh (x:=.int (p.1:Int)) (y:=.int (p.2:Int)) rfl rfl s1 rfl s2) #[_,_,_,rfl,JX (λe he=>?_) λe he=>?_];(have lt1:(ed.take i).length=i:=by rw[i8];lia);(have lt2:(ss.take i).length=i:=by rw[i8];simp_all);(have ld:NAP.load (ed.take (i+1)) (ss.take (i+1)) e=NAP.load (ed.take i) (ss.take i) e+[Δ,NAP.Ym p e,ss.getD i 0]:=by rw[take_snoc hp,take_snoc hs,BV (by rw[lt1,lt2])]);unfold Xv;rw[ld];unfold NAP.Ym;by_cases c1:e=p.1;subst c1;simp;lia;by_cases c2:e=p.2;subst c2;simp[c1];lia;simp[c1,c2,Ne.symm c1,Ne.symm c2];rw[IQ,show ed.getD i (0,0)=p by simp[gU,hp]];unfold NAP.Ym;by_cases c1:e=p.1;subst c1;simp[p3];by_cases c2:e=p.2;subst c2;simp[c1];simp[c1,c2,Ne.symm c1,Ne.symm c2];rintro ρ h' ⟨t5,t6,t7,rfl,rfl⟩;rw[pM,edl,hF,dW];refine#[by simp[hI];lia,(JY c).trans ?_];subst hed;rw[show(Su gs.length ts.length ai).bI=(aR (gs.length+ts.length)).map (Xk (Sm gs.length ai) ai.length)from rfl];simp only[cB];rfl
end
section
variable {h:TH}{gs ts ss:xae}{ai:xad}
theorem J6 {n:Nat}:cutD l ng (se n)=l.take n:=by unfold cutD NAH.Ud;dsimp only;rw[QX Β,List.drop_zero,Nat.sub_zero,uc];rcases Nat.le_total n l.length with z | z;rw[AO z];rw[AN z,dP (bE _),dP z]
theorem J7 {n:Nat}:cutD l (se n) ng=l.drop n:=by unfold cutD NAH.Ud;dsimp only;rw[QX Β,uc];rcases Nat.le_total n l.length with z | z;rw[AO z,dP Β];rw[AN z,Ac z,Ac (bE _),List.take_nil]
noncomputable def ZS (G:Nat) (ac aa:xae):D:=.tup [.lst (ac.map .int),.tup [.lst (((SJ aa).take G).map .bl),.lst (((SJ aa).drop G).map .bl)]]
theorem qq (z:fa ρ h=.ok (.int x) h):Z1 fa ρ h=.ok (se x) h:=by unfold Z1;rw[z];rfl
theorem Dj (z:fa ρ h=.ok (.lst l) h)(z1:fl ρ h=.ok x h)(z2:fu ρ h=.ok y h):rSl ff fa fl fu ρ h=.ok (.lst (cutD l x y)) h:=by unfold rSl;rw[z];show R.bnd (fl ρ h) _=_;rw[z1];show R.bnd (fu ρ h) _=_;rw[z2];rfl
theorem J8 (c:Cl h)(qL:∀p∈ai,p.1<gs.length/\p.2<ts.length)(pb:ss.length=ai.length)(hl:gs.length+ts.length<=900)(hK:ai.length<=900)(hn:∀(k:Nat) s,ss[k]?=se s->0<=s)(hs:∀e<gs.length+ts.length,0<=Xv (gs++ts) (Sm gs.length ai) ss ai.length e) :∃ac ab aa,WO [.lst (gs.map .int),.lst (ts.map .int),.lst (ai.map XI),.lst (ss.map .int)] h=.ok (ZS gs.length ac aa) h/\NAP.Uw (Su gs.length ts.length ai) (gs++ts) ac ab aa/\aa.length=gs.length+ts.length/\∀(e:Nat) x y,((aR (gs.length+ts.length)).map (Xv (gs++ts) (Sm gs.length ai) ss ai.length))[e]?=se x->ab[e]?=se y->y<=x:=by obtain⟨sQ,hsp⟩:∃sQ,(aR (gs.length+ts.length)).map (Xv (gs++ts) (Sm gs.length ai) ss ai.length)=sQ:=#[_,rfl];have F0:=IS pb hn hs;have I:=J5 c qL pb hl hK;rw[hsp] at F0 I;obtain⟨X,hX⟩:∃X:List D,[.int gs.length,.lst ((Sm gs.length ai).map XI),.at (h.length+1),.at (h.length+2),.lst ((Su gs.length ts.length ai).bI.map Rq)]=X:=#[_,rfl];rw[hX] at I;obtain⟨h1,e1⟩:∃h1,h++[.mi 0 X,.ml (ss.map .int),.ml (sQ.map .int)]=h1:=#[_,rfl];rw[e1] at I;(have g0:h1[h.length]?=se (.mi 0 X):=by rw[<-e1,fW (bE _),rc];rfl);have P:RJ h1 h.length (h.length+1) (h.length+2) (Su gs.length ts.length ai) ss sQ:=#[by rw[g0,<-hX];rfl,by rw[<-e1,fW Β,show h.length+1-h.length=1 by simp_all];rfl,by rw[<-e1,fW Β,show h.length+2-h.length=2 by simp_all];rfl,Β,Β,Β,xz qL,F0.ls,F0.lp,hl,by show(ai.map _).length<=900;rwa [bn],λe l lU=>by have tO:((aR (gs.length+ts.length)).map (Xk (Sm gs.length ai) ai.length))[e]?=se l:=lU;rw[bo,jM] at tO;obtain⟨x,_,rfl⟩:=tO;unfold Xk;refine bW (eF _ _) ?_;rwa [kX]];(have cX:∀d∈X,cd (h.length+3) 9 d:=λd hd=>by rw[<-hX] at hd;simp only[bj,gM,or_false] at hd;rcases hd with rfl | rfl | rfl | rfl | rfl;trivial;intro d hd;obtain⟨x,_,rfl⟩:=aU.mp hd;intro d hd;simp only[bj,gM,or_false] at hd;rcases hd with rfl | rfl<;>trivial;show h.length+1<h.length+3;simp_all;show h.length+2<h.length+3;simp_all;intro d hd;obtain⟨x,_,rfl⟩:=aU.mp hd;exact rL);(have C1:Cl h1:=λo ho=>by(have iO:h1.length=h.length+3:=by rw[<-e1];simp);rw[iO];rw[<-e1] at ho;rcases c8.mp ho with ho | ho;exact oG Β (c o ho);simp only[bj,gM,or_false] at ho;rcases ho with rfl | rfl | rfl;exact cX;exact jy;exact jy);obtain⟨ac,ab,aa,q,Dn,le,sl⟩:=JR P C1 F0;obtain⟨h2,e2⟩:∃h2,hh h1 (h.length+1) (h.length+2) ac ab=h2:=#[_,rfl];rw[e2] at q;(have e3:h++[.mi 0 X,.ml (ac.map .int),.ml (ab.map .int)]=h2:=by rw[<-e2,<-e1];unfold hh;rw[pK _ _ Β,pK _ _ Β,show h.length+1-h.length=1 by simp_all,show h.length+2-h.length=2 by simp_all];rfl);(have m2:h2[h.length]?=se (.mi 0 X):=by rw[<-e3,fW (bE _),rc];rfl);(have m3:h2[h.length+1]?=se (.ml (ac.map .int)):=by rw[<-e3,fW Β,show h.length+1-h.length=1 by simp_all];rfl);rw[hsp];(have t1:cutD ((SJ aa).map D.bl) ng (se gs.length)=((SJ aa).take gs.length).map D.bl:=by rw[J6,AG]);(have t2:cutD ((SJ aa).map D.bl) (se gs.length) ng=((SJ aa).drop gs.length).map D.bl:=by rw[J7,AH]);refine#[ac,ab,aa,a8 rfl (sA (d:=.at h.length) (h1:=h1) ?_ (sA (cW rfl g0 rfl q) (sR (d:=.tup [.at (h.length+1),.tup [.lst (((SJ aa).take gs.length).map .bl),.lst (((SJ aa).drop gs.length).map .bl)]]) (h1:=h2) (gP (aH (bh rfl m2 (by rw[<-hX];rfl)) (aH (gP (aH ?_ (aH ?_ rfl)) rfl) rfl)) rfl) ?_))),Dn,sl,le];show XQ 0 VD [.lst (gs.map .int),.lst (ts.map .int),.lst (ai.map XI),.lst (ss.map .int)] h=_;unfold XQ;rw[fM,fO,I];rfl;rw[<-t1];exact Dj rfl rfl (qq (aJ (aH rfl rfl) dY));rw[<-t2];exact Dj rfl (qq (aJ (aH rfl rfl) dY)) rfl;rw[<-e3];refine u8 c ?_ (by simp);rw[e3];(have f1:fz h2 h.length 8 (.at (h.length+1))=se (.lst (ac.map .int)):=by show(bif bH (h.length+1) h.length then se (D.at (h.length+1))else match eg h2 (h.length+1)with| some (.ml ds)=>Uz (RB (fz h2 h.length 7) ds) .lst| _=>ng)=_;rw[show bH (h.length+1) h.length=ff from e9.mpr λy=>by have:=cD.mp y;lia,aW,m3];show Uz (RB (fz h2 h.length 7) (ac.map .int)) D.lst=_;rw[jP λx hx=>iF 7 (jy x hx)];rfl);(have f2:fz h2 h.length 8 (.tup [.lst (((SJ aa).take gs.length).map .bl),.lst (((SJ aa).drop gs.length).map .bl)])=se (.tup [.lst (((SJ aa).take gs.length).map .bl),.lst (((SJ aa).drop gs.length).map .bl)]):=iF 8 λd hd=>by simp only[bj,gM,or_false] at hd;rcases hd with rfl | rfl;intro d hd;obtain⟨x,_,rfl⟩:=aU.mp hd;trivial;intro d hd;obtain⟨x,_,rfl⟩:=aU.mp hd;trivial);show Uz (RB (fz h2 h.length 8) _) D.tup=_;rw[Rt.mpr #[_,_,f1,Rt.mpr #[_,_,f2,rfl,rfl],rfl]];rfl
theorem J9 (c:Cl h)(qL:∀p∈ai,p.1<gs.length/\p.2<ts.length)(hl:gs.length+ts.length<=900)(hK:ai.length<=900)(hp:∀g∈gs++ts,0<=g) :∃ac ab aa,Xz [.lst (gs.map .int),.lst (ts.map .int),.lst (ai.map XI)] h=.ok (ZS gs.length ac aa) h/\NAP.Uw (Su gs.length ts.length ai) (gs++ts) ac ab aa/\aa.length=gs.length+ts.length:=by(obtain⟨ac,ab,aa,q,Dn,sl,_⟩:=J8 (ss:=bf ai.length 0) c qL (by rw[n6]) hl hK (λk s hk=>by grind) λe he=>by unfold Xv;rw[List.take_replicate,BW,Int.sub_zero];have:=NAM.getD_at (by rwa [dW]);exact hp _ (aK this));refine#[ac,ab,aa,a8 rfl (sR (aJ (aH rfl (aH rfl (aH rfl (aH (aG rfl (aJ (aH rfl rfl) dY) ?_) rfl)))) q) (bF rfl)),Dn,sl];exact(mul_one (NAG.gl10 hK)).trans (by rw[x9];rfl)
end
section
variable {h:TH}{i:Nat}{ws:xae}{aF:xab}{ag ad:xaf}
noncomputable def Ya (ag ad:xaf):D:=.tup [Rq ag,Rq ad]
noncomputable def Xi (n:Nat):Ry:=.inl (n:Int)
theorem Ka:∀{d:Ry} {ks:List Ry},d∉ks->YX d ks=ff:=by intro d ks;induction ks generalizing d with| nil =>rintro _;exact rfl| cons k ks ih =>rintro h;show(Yl k d||YX d ks)=ff;rw[ih λz=>h (.tail _ z),oE,Q1 (show ¬k=d from λz=>h (by rw[z];exact .head _))];rfl
theorem Kb:∀{ks:List Ry},ks.Nodup->ZA ks=tj:=by intro ks;induction ks with| nil =>rintro _;exact rfl| cons k ks ih =>rintro h;show(!YX k ks&&ZA ks)=tj;obtain⟨h1,h2⟩:=eG.mp h;rw[Ka h1,ih h2];rfl
theorem Kc:∀(l:xaf) n x,lk (Xi x) (l.map Xi) ((jK n l.length).map nD)=if x∈l then se (nD (n+l.idxOf x))else none:=by intro l;induction l with| nil =>rintro n x;exact rfl| cons y l ih =>rintro n x;show(bif Yl (Xi y) (Xi x) then se (nD n) else lk (Xi x) (l.map Xi) ((jK (n+1) l.length).map nD))=_;rw[oE,ih (n+1) x];by_cases c:y=x;simp_all;rw[Q1 (λz=>c (by have:=z;have:=Sum.inl.inj this;exact NAG.gl87 this))];grind
theorem Do (x:Nat):lk (Xi x) (ag.map Xi) ((aR ag.length).map nD)=(placeOf ag x).map nD:=by rw[ww,Kc];unfold NAM.placeOf;split;rw[q8];rfl;rfl
theorem Dp {ag:xaf}{g:Nat}:∀row:xaf,(row.filter λx=>(placeOf ag x).isSome).map (λx=>XI (g,(placeOf ag x).getD 0))=(UI ag g row).map XI| []=>rfl| x::row=>by have ih:=Dp (ag:=ag) (g:=g) row;unfold UI at ih ⊢;rw[jH,qU];cases e:NAM.placeOf ag x with| none=>exact ih| some p=>simp only[Option.isSome_some,if_true,be,uF,e,Option.getD_some];rw[ih]
theorem Kd:∀(l:xaf) n,RB prK ((l.zipIdx n).map λp=>D.tup [nD p.1,nD p.2])=se (l.map Xi)/\RB prV ((l.zipIdx n).map λp=>D.tup [nD p.1,nD p.2])=se ((jK n l.length).map nD):=by intro l;induction l with| nil =>rintro n;exact#[rfl,rfl]| cons x l ih =>rintro n;obtain⟨h1,h2⟩:=ih (n+1);exact#[Rt.mpr #[_,_,rfl,h1,rfl],Rt.mpr #[_,_,rfl,h2,rfl]]
theorem Ke {l:xaf}(h:l.Nodup):(l.map Xi).Nodup:=by refine List.Pairwise.map _ (λa b h z=>h ?_) h;have:=z;have:=Sum.inl.inj this;exact NAG.gl87 this
theorem Kf (z1:fa ρ h=.ok (.at i) h)(z2:h[i]?=se (.ml l))(z3:fA ρ h=.ok [.lst es] h)(hl:l.length+es.length<=16777216):rExt fa fA ρ h=.ok .non (h.set i (.ml (l++es))):=by(have e1:VN h (.at i)=se (i,l):=by grind[VN,aW]);unfold rExt;rw[z1];show Rz (VN h (.at i)) _=_;rw[e1];rw[z3];show Rz (VN h (.at i)) _=_;rw[e1];show RU (bQ (Sn l+Sn es) 16777216) _=_;rw[aV,aV,dz.mpr hl,iV,gN];rfl
theorem Kg {l:xad}:∀d∈l.map XI,cd n (m+2) d:=λd hd=>by obtain⟨x,_,rfl⟩:=aU.mp hd;intro d hd;simp only[bj,gM,or_false] at hd;rcases hd with rfl | rfl<;>trivial
theorem Dq (c:Cl h)(hd:ag.Nodup)(hl:ag.length<=20)(cl:ad.length<=20)(rl:∀r∈aF,r.length<=20)(ci:∀c∈ad,c<aF.length) :VW [.lst (aF.map Rq),Ya ag ad] h=.ok (.lst ((RV aF ag ad).map XI)) h:=by refine a8 rfl (sA (aJ (aH (cA (rG (aG rfl rfl rfl)) vk (by rw[pM];exact NAG.gl59 hl) (λp hp=>#[_,by unfold WH;rfl,rfl]) (show _=ag.zipIdx.map λp=>.tup [nD p.1,nD p.2]from rfl)) rfl) ?_) (sA XM (sL (fq (λi ρ h1=>∃t4 t5:Option D,ρ=[se (.lst (aF.map Rq)),se (Ya ag ad),se (.dic (ag.map Xi) ((aR ag.length).map nD)),se (.at h.length),t4,t5]/\h++[.ml ((TY aF ag ad i).map XI)]=h1) (rG (aG rfl rfl rfl)) (λi ρ h _=>vk i) (by rw[pM];exact NAG.gl59 cl) #[_,_,rfl,rfl] ?_) ?_)));obtain⟨k1,k2⟩:=Kd ag 0;show Rz (RB prK _) _=_;rw[k1];show Rz (RB prV _) _=_;rw[k2];show RU (ZA (ag.map Xi)) _=_;rw[Kb (Ke hd),<-ww];rfl;rintro i q ρ h1 hq ⟨t4,t5,rfl,rfl⟩;rw[n8,jM] at hq;obtain⟨x,hx,rfl⟩:=hq;rw[q8];obtain⟨row,hr⟩:∃row,aF[x]?=se row:=#[_,aT (ci x (aK hx))];(have e1:TY aF ag ad (i+1)=TY aF ag ad i++UI ag i row:=by grind[TY,UI,gU]);have pA:=rl row (aK hr);have il:=(aQ.mp hx).1;have tl:=rr (ag:=ag) (ad:=ad) rl i;have rt:=B9 ag i row;refine#[_,by unfold WH;rfl,?_];refine nE (fZ (Kf (l:=(TY aF ag ad i).map XI) (es:=(UI ag i row).map XI) rfl (by simp) (aH (cM (eX (f8 (g:=Rq) rfl rfl hr)) c9 (NAG.gl59 pA) (λy hy=>#[_,rfl,aM (aG rfl rfl ?_),λhp=>?_]) (Dp row)) rfl) (by simp;lia))) #[_,_,rfl,?_];show(match lk (Xi y) (ag.map Xi) ((aR ag.length).map nD)with| some _=>R.ok (D.bl (ff^^tj)) _| none=>R.ok (D.bl (ff^^ff)) _)=_;rw[Do];cases placeOf ag y<;>rfl;have lp:=Do (ag:=ag) y;obtain⟨pp,hpp⟩:=uE.mp hp;rw[hpp] at lp ⊢;show R.bnd (R.bnd (R.bnd (Rz (lk (Xi y) (ag.map Xi) ((aR ag.length).map nD)) λd=>R.ok d _) _) _) _=_;rw[lp];rfl;simp_all;rintro ρ h1 ⟨t4,t5,rfl,rfl⟩;exact sR rfl (oH c (bE _) (by simp;rfl) Kg)
theorem Kh (cl:ad.length<=20)(ci:∀c∈ad,c<ws.length):X4 [.lst (ws.map .int),Ya ag ad] h=.ok (.int (Ul ws ad)) h:=by refine a8 rfl (sR (aJ (aH (cA (eX rfl) c9 (NAG.gl59 cl) (λx hx=>#[_,rfl,f8 rfl rfl (NAM.getD_at (ci x hx))]) rfl) rfl) ?_) (bF rfl));have:=yd (ad.map λx=>ws.getD x 0);rw[cB] at this;show Rz (RB X8 (ad.map λx=>.int (ws.getD x 0))) _=_;rw[show(ad.map λx=>D.int (ws.getD x 0))=List.map (D.int∘λx=>ws.getD x 0) ad from rfl,this];show R.ok (D.int (iSum _)) h=_;rw[xO];rfl
end
section
variable {h t:TH}{ws:xae}{aF:xab}{ag ad:xaf}
structure ZQ (ws:xae)(aF:xab):Prop where
 len:aF.length=ws.length
 few:ws.length<=20
 row:∀r∈aF,r.length<=20
 pos:∀x∈ws,1<=x
 bd:∀x∈ws,Bd 300 x
theorem iq (hx:Bd 4096 x)(hy:Bd 4096 y):Uq ff (.int x) (.int y) h=.ok (.int (x*y)) h:=by show RU (pMul x y) _=_;unfold pMul;rw[cD.mpr hx,cD.mpr hy];rfl
theorem Bd.up (hx:Bd n x)(h:n<=m):Bd m x:=iR hx (mE Γ h)
theorem Ki {n:Nat}(h:n<=1000):Bd 4096 n:=by exact k6 h (iR (show 1000<2^10 by decide) (mE Γ Γ))
theorem Dr (c:Cl h)(A:ZQ ws aF)(nd:ag.Nodup)(hl:ag.length<=20)(cl:ad.length<=20)(ci:∀c∈ad,c<ws.length) :∃ac ab aa,W8 [.lst (ws.map .int),.lst (aF.map Rq),Ya ag ad] h=.ok (ZS (Rx ws ag ad).length ac aa) h/\NAP.Uw (Su (Rx ws ag ad).length (takesIn ws ag ad).length (RV aF ag ad)) (Rx ws ag ad++takesIn ws ag ad) ac ab aa/\aa.length=(Rx ws ag ad).length+(takesIn ws ag ad).length:=by(have glen:(Rx ws ag ad).length=ad.length:=by unfold Rx;simp);(have tlen:(takesIn ws ag ad).length=ag.length:=by unfold takesIn;simp);have tl:=rr (ag:=ag) (ad:=ad) A.row ad.length;have wp:=λc hc=>A.pos _ (aK (NAM.getD_at (ci c hc)));obtain⟨ac,ab,aa,q,Dn,sl⟩:=J9 (ts:=takesIn ws ag ad) (ai:=RV aF ag ad) c (λp hp=>by obtain⟨g,t⟩:=p;obtain⟨c,hd,g1,g2,_⟩:=(jN nd g t).mp hp;rw[glen,tlen];grind) (by lia) (by unfold RV;lia) (λg hg=>by rcases c8.mp hg with hg | hg;unfold Rx at hg;obtain⟨c,hc,rfl⟩:=aU.mp hg;have:=wp c hc;exact jr (by exact cy this) Β;unfold takesIn at hg;rw[z8 hg];unfold Ul;exact NAP.Ys λi x hx=>by grind);have mo:=mul_one (h:=h) (m:=ff) (x:=.int (Ul ws ad)) (n:=ag.length) (NAG.gl15 hl);rw[show bf ag.length (D.int (Ul ws ad))=(takesIn ws ag ad).map D.int by simp[takesIn]] at mo;refine#[ac,ab,aa,a8 rfl (sA (aJ (aH (aG rfl rfl rfl) rfl) dY) (sA (cA (eX (aG rfl rfl rfl)) c9 (NAG.gl59 cl) (λx hx=>#[_,rfl,aG (f8 rfl rfl (NAM.getD_at (ci x hx))) rfl (iq (Bd.up (A.bd _ (aK (NAM.getD_at (ci x hx)))) Γ) (Ki (NAG.gl15 hl)))]) (by simp[Rx])) (sR (aJ (aH rfl (aH (aG ((kG (aH (aJ rfl (Kh cl ci)) rfl) rfl).trans rfl) rfl mo) (aH (aJ rfl (Dq c nd hl cl A.row (λx hx=>by rw[A.len];exact ci x hx))) rfl))) q) (bF rfl)))),Dn,sl]
theorem Kj:TK neg (.bl a) (.bl b) h=.ok (.bl (neg^^(a==b))) h:=by cases neg<;>cases a<;>cases b<;>rfl
theorem Ds (l:List α)(m:List β):((l.map f).zip (m.map g)).map (λp=>D.tup [p.1,p.2])=(l.zip m).map λp=>D.tup [f p.1,g p.2]:=by rw[List.zip_map,cB];rfl
theorem vm (hl:xs.length<=900):XR [Rq xs,.lst (bs.map .bl),.bl w] h=.ok (Rq (Xh xs bs w)) h:=by refine mL rfl (jc (ua (rD (l:=xs.zip bs) rfl (λi=>by unfold Rq;rw[CN,Ds]) (by grind) λp hp=>#[[se (nD p.1),se (.bl p.2),se (.bl w)],by unfold WH;rfl,aM (aG rfl rfl (by rw[Kj,lX])),λ_=>rfl]) ?_)) rfl;unfold Rq Xh;rw[cB];rfl
end
section
variable {h h':TH}{ae:Nat}{ws:xae}{aF:xab}
noncomputable def YZ (c:NAP.Cr):D:=Ya c.1 c.2
theorem Kk:cd n (m+3) (YZ c):=by intro d hd;simp only[bj,gM,or_false] at hd;rcases hd with rfl | rfl<;>exact rL
theorem yg {l:List NAP.Cr}:∀d∈l.map YZ,cd n (m+3) d:=λd hd=>by obtain⟨x,_,rfl⟩:=aU.mp hd;exact Kk
theorem Kl (c:Cl h)(hx:∀n,ct n x)(hy:∀n,ct n y):Cl (h++[x,y]):=by have:=(c.app (hx _)).app (hy _);simp_all
theorem Dt (z:fT ρ h=.ok tj h'):Z3 fT fa fb ρ h=fa ρ h':=by unfold Z3;rw[z];rfl
theorem Du (z:fT ρ h=.ok ff h'):Z3 fT fa fb ρ h=fb ρ h':=by unfold Z3;rw[z];rfl
inductive CrI (h:TH) (ws:xae) (aF:xab) (ae:Nat) (P:List NAP.Cr->List NAP.Cr->Prop) (ρ:R4) (h1:TH):Prop
 | mk (t5 t6 t7:Option D) (Lc U:List NAP.Cr) (er:ρ=[se (.lst (ws.map .int)),se (.lst (aF.map Rq)),se (.int (ae:Int)),se (.at h.length),se (.at (h.length+1)),t5,t6,t7]) (eh:h++[.ml (Lc.map YZ),.ml (U.map YZ)]=h1) (p:P Lc U)
theorem Km (c:Cl h)(A:ZQ ws aF)(dk:DoOk ws aF ae):∃L:List NAP.Cr,WP [.lst (ws.map .int),.lst (aF.map Rq),.int ae] h=.ok (.lst (L.map YZ)) h/\V0 ws aF ae L:=by have few:=A.few;have lI:=dk.few;obtain⟨ρ2,h2,q2,t5,t6,t7,Lc,_,rfl,cN,rfl,ok⟩:=mN (fT:=Xp) (fs:=Xm) (ρ:=[se (.lst (ws.map .int)),se (.lst (aF.map Rq)),se (.int (ae:Int)),se (.at h.length),se (.at (h.length+1)),ng,ng,ng]) (h:=h++[.ml [],.ml ((if 0<ae then[((aR ae,aR ws.length):NAP.Cr)]else[]).map YZ)]) (λm=>CrI h ws aF ae λLc U=>(ae=0->Lc=[]/\U=[])/\(0<ae->NAP.Vr (Sg ws) (So aF) ae ws.length (Lc++U.reverse))/\(∀c∈Lc,rx ws aF c)/\m=YC U) (CrI h ws aF ae λLc U=>U=[]/\V0 ws aF ae Lc) (λm ρ h1 I=>by obtain⟨t5,t6,t7,Lc,U,rfl,rfl,z0,cr0,rst,rfl⟩:=I;refine#[_,_,aM (aG (aJ rfl (jQ VO)) rfl gt_int),λz=>?_,λz=>?_];rotate_left;cases(show U=[]by simpa using z);exact#[_,_,_,Lc,_,rfl,rfl,rfl,λz=>(z0 z).1,λz=>by simpa using cr0 z,rst];have cu:=List.ne_nil_of_length_pos (by simpa using z);have m0:=Nat.pos_of_ne_zero λz=>cu (z0 z).2;have cr:=cr0 m0;obtain⟨U',c0,rfl⟩:∃U' c0,U=U'++[c0]:=#[_,_,(zW cu).symm];rw[wz,List.reverse_singleton,List.singleton_append] at cr;(have lW:c0∈Lc++c0::U'.reverse:=by simp);have hcr:=cr.hr c0 lW;have hcc:=cr.cr c0 lW;(have eO:∀x∈c0.2,x<ws.length:=λx hx=>by have e:=cr.cs x;have:=wH.mpr hx;simp only[cV,jJ,be,bL] at e;split at e<;>lia);(have hhl:=kD hcr λx hx=>by have e:=cr.hs x;have:=wH.mpr hx;simp only[cV,jJ,be,bL] at e;split at e<;>lia);have pr:=kD hcc eO;have lf:=Cg cr;rw[dW,fm,List.length_reverse] at lf;obtain⟨ac,ab,aa,qp,Dn,db⟩:=Dr (Kl c (x:=.ml (Lc.map YZ)) (y:=.ml (U'.map YZ)) (λ_=>yg) λ_=>yg) A (oz hcr) (by exact bW hhl lI) (by exact bW pr few) eO;obtain⟨nc,nh,C,mc,mh⟩:=I3 hcr hcc eO Dn;(have gl:(Rx ws c0.1 c0.2).length=c0.2.length:=by unfold Rx;simp);(have tl:(takesIn ws c0.1 c0.2).length=c0.1.length:=by unfold takesIn;simp);(have l1':((SJ aa).take (Rx ws c0.1 c0.2).length).length=c0.2.length:=by simp[SJ];simp[*]);(have l2':((SJ aa).drop (Rx ws c0.1 c0.2).length).length=c0.1.length:=by simp[SJ];simp[*]);unfold ZS at qp;generalize(SJ aa).take (Rx ws c0.1 c0.2).length=b1 at mc qp l1';generalize(SJ aa).drop (Rx ws c0.1 c0.2).length=b2 at mh qp l2';rw[cV];refine nA (JE rfl rfl) (nA (aG (aJ rfl qp) rfl rfl) ?_);by_cases hany:b2.any id=tj;obtain⟨b,hb1,hb2⟩:=gL.mp hany;obtain⟨ib,hib⟩:=bz hb1;have hibl:=(aQ.mp hib).1;have hx:c0.1[ib]?=se (c0.1[ib]' Β):=aT Β;have nM:∃h∈c0.1,nh h=tj:=#[_,aK hx,by have e:=mh ib _ hx;rw[hib] at e;cases e;exact hb2];obtain⟨pt,pf⟩:=Ce Β mh;obtain⟨qt,qf⟩:=Ce Β mc;refine nT (aM (aJ rfl (Xb.trans (by rw[hany])))) (nE (Dh rfl rfl (fZ (oK rfl rfl (aH (gP (aH (aJ rfl (vm (NAG.gl26 hhl lI))) (aH (aJ rfl (vm (NAG.gl26 pr few))) rfl)) rfl) rfl) (by simp;lia))) rfl (fZ (oK rfl rfl (aH (gP (aH (aJ rfl (vm (NAG.gl26 hhl lI))) (aH (aJ rfl (vm (NAG.gl26 pr few))) rfl)) rfl) rfl) (by simp;lia)))) #[YC (U'++[NAP.aX c0 nc nh,NAP.S9 c0 nc nh]),?_,_,_,_,Lc,U'++[NAP.aX c0 nc nh,NAP.S9 c0 nc nh],rfl,?_,λz=>absurd z Β,λ_=>?_,rst,rfl]);obtain⟨lQ,kh,h3'⟩:=nM;obtain⟨r1',r2',r3'⟩:=C.far #[lQ,kh,h3'];(have lens:(c0.1.filter nh).length+(c0.1.filter λh=>! nh h).length=c0.1.length:=by have:=List.length_eq_countP_add_countP nh (l:=c0.1);simp only[List.countP_eq_length_filter,zL,decide_eq_true_eq,Bool.decide_eq_false] at this;exact this.symm);have p1:=wo (bi.mpr #[kh,h3']);have p2:=wo (bi (p:=λh=>! nh h).mpr #[r2',by rw[r3'];rfl]);unfold YC NAP.aX NAP.S9;simp;exact NAG.gl27 p2 p1 lens;rw[pf,qf,pt,qt];simp[YZ,NAP.aX,NAP.S9,Ya];rw[wz];exact NAP.Vr.cut (ru A.pos) cr C nM;(have jV:∀x∈c0.1,nh x=ff:=λx hx=>by obtain⟨ix,hix⟩:=bz hx;have e:=mh ix x hix;cases z:nh x with| false=>rfl| true =>rw[z] at e;exact absurd (gL.mpr #[tj,aK e,rfl]) hany);refine nF (aM (aJ rfl (Xb.trans (by rw[e9.mpr hany])))) (nE (fZ (oK (k:=0) rfl rfl rfl (by simp;lia))) #[YC U',?_,_,_,_,Lc++[c0],U',rfl,?_,λz=>absurd z Β,λ_=>?_,λd hd=>?_,rfl]);have:=fj.mpr (cr.ne c0 lW);unfold YC;simp;lia;simp;rwa [fY];rcases c8.mp hd with hd | hd;exact rst d hd;rw[cT.mp hd];exact I4 C jV (cr.own c0 lW)) #[ng,ng,ng,[],_,rfl,rfl,λz=>#[rfl,by rw[QX Β]],λz=>by rw[QY z];exact I8 dk z,λc hc=>(by cases hc),rfl];refine#[Lc,a8 rfl (sA XM (sA (d:=.at (h.length+1)) (h1:=h++[.ml [],.ml ((if 0<ae then[((aR ae,aR ws.length):NAP.Cr)]else[]).map YZ)]) ?_ ?_)),ok];by_cases z:0<ae;rw[QY z];refine(Dt (aM (aG rfl rfl (by rw[gt_int,QZ Β])))).trans ((kG (aH (gP (aH (CW (NAG.gl15 lI) rfl) (aH (CW (NAG.gl15 few) (aJ rfl dY)) rfl)) rfl) rfl) rfl).trans ?_);show R.ok (D.at (hn _)) (hp _ _)=_;rw[fM,fO,fY,dW];rfl;rw[QX z];refine(Du (aM (aG rfl rfl (by rw[gt_int,Q1 (by simp[*])])))).trans (XM.trans ?_);rw[fY,dW];rfl;exact sG q2 (sR rfl (cN▸oH c (bE _) (ya rfl) yg))
end
end NAY
namespace NAM
open PySem NAL NAL.EX
noncomputable def US (M:Int) (L:List (Nat×(xag))) (h:Nat):Int:=(L.map λx=>[Δ,x.1=h,vl M x.2]).sum
noncomputable def R7 (aF:xab) (lM:xaa):List (Nat×(xag)):=(aF.zip lM).flatMap λx=>x.1.zip x.2
def LdB (M:Int)(L:List (Nat×(xag)))(qs:xac):Prop:=∀(h:Nat) q,qs[h]?=se q->Yh q/\q.1*M=q.2*US M L h
theorem Dv {aF:xab}{lM:xaa}(hr:aF[i]?=se r)(hs:lM[i]?=se s):R7 (aF.take (i+1)) (lM.take (i+1))=R7 (aF.take i) (lM.take i)++r.zip s:=by unfold R7;have hi:=(aQ.mp hr).1;have hi2:=(aQ.mp hs).1;rw[take_snoc hr,take_snoc hs,mB (by rw[i8,i8];exact NAG.gl34 hi hi2),wC];simp
structure ShOk (M:Int)(aF:xab)(ae:Nat)(lM:xaa):Prop where
 len:lM.length=aF.length
 few:aF.length<=20
 row:∀(i:Nat) r s,aF[i]?=se r->lM[i]?=se s->s.length=r.length/\r.length<=12/\∀h∈r,h<ae
 ok:∀s∈lM,∀p∈s,Yh p/\p.2∣M/\Bd 600 p.1
 hM:0<M
 bM:Bd 600 M
def FV (M:Int)(p:xag)(X:Int):Prop:=Yh p/\p.1*M=p.2*X
section
variable {M:Int}{p q:xag}{X Y:Int}
theorem FV.uniq (hM:0<M)(a:FV M p X)(b:FV M q X):p=q:=by refine Jd a.1 b.1 ?_;refine kS (a:=M) (by exact di hM) ?_;have e1:=a.2;have e2:=b.2;grind
theorem FV.lt (hM:0<M)(a:FV M p X)(b:FV M q Y):p.1*q.2<q.1*p.2↔X<Y:=by have e1:=a.2;have e2:=b.2;have p1:=a.1.1;have q1:=b.1.1;have pos:0<p.2*q.2:=kU (by assumption) (by assumption);(have c1:p.1*q.2*M=X*(p.2*q.2):=by grind);(have c2:q.1*p.2*M=Y*(p.2*q.2):=by grind);constructor;intro h;have:=nX h hM;simp_all;intro h;have:=nX h pos;rw[<-c1,<-c2] at this;exact pE this (by exact cy hM)
theorem FV.plus (a:FV M p X)(b:FV M q Y)(he:1<=e)(hg:bK n e=1)(h:n*(p.2*q.2)=(p.1*q.2+q.1*p.2)*e):FV M (n,e) (X+Y):=by refine#[#[he,hg],?_];have p1:=a.1.1;have q1:=b.1.1;have pos:p.2*q.2≠0:=Int.mul_ne_zero (by exact di p1) (by exact di q1);refine kS pos ?_;(have:n*M*(p.2*q.2)=n*(p.2*q.2)*M:=by grind);rw[this,h];(have:(p.1*q.2+q.1*p.2)*e*M=(p.1*M)*q.2*e+(q.1*M)*p.2*e:=by exact NAG.gl50);rw[this,a.2,b.2];grind
theorem FV.zero:FV M (0,1) 0:=#[#[dw _,Γ],by simp]
theorem FV.bd (hM:0<M)(bM:Bd 600 M)(bX:Bd 1300 X)(a:FV M p X):Bd 1300 p.1/\Bd 600 p.2:=by have e:=a.2;rw[eE p.2] at e;obtain⟨l1,l2⟩:=BM a.1.2 (by exact di hM) e;exact#[bX.of_le l1,bM.of_le l2]
end
structure FVs (M:Int)(ps:xac)(Xs:xae):Prop where
 len:ps.length=Xs.length
 at_:∀(i:Nat) p X,ps[i]?=se p->Xs[i]?=se X->FV M p X
 hM:0<M
 bM:Bd 600 M
 bX:∀X∈Xs,Bd 1220 X
 few:Xs.length<=30
theorem FVs.get (f:FVs M ps Xs){i:Nat}(h:ps[i]?=se p):∃X,Xs[i]?=se X/\FV M p X/\Bd 1220 X:=by have hx:Xs[i]?=se (Xs[i]'(by rw[<-f.len];exact(aQ.mp h).1)):=aT _;exact#[_,hx,f.at_ i p _ h hx,f.bX _ (aK hx)]
theorem Kn {k:Nat}:∀(l:xae),(∀x∈l,Bd k x)->l.sum.natAbs<=l.length*2^k:=by intro r;induction r with| nil =>rintro _;simp| cons x r ih =>rintro h;have a:=h x aO;have b:=ih λy hy=>h y (a7 _ hy);rw[bL,fm,wS,Nat.one_mul];have:=zS x r.sum;have a':x.natAbs<2^k:=a;lia
theorem Ko (h:x.natAbs<=n*2^k)(hn:n<=64):Bd (k+7) x:=by show x.natAbs<2^(k+7);have:n*2^k<=64*2^k:=uA _ hn;grind
theorem Kq {l:xae}(h:∀x∈l,Bd k x)(hl:l.length<=64):Bd (k+7) l.sum:=Ko (Kn l h) hl
theorem Kr (l:xae)(x:Int):(l++[x]).sum=l.sum+x:=Β
theorem Ks {l:xae}(h:∀x∈l,Bd k x)(hl:l.length<=64)(i:Nat):Bd (k+7) (l.take i).sum:=Kq (λx hx=>h x (List.mem_of_mem_take hx)) (by grind)
theorem Kt {q:Int}(h1:1<=q)(h2:q<=20):q∣232792560:=by obtain⟨n,rfl⟩:=l6 (show 0<=q by exact cy h1);(have k:∀n:Fin 21,1<=n.val->(n.val:Int)∣232792560:=Γ);exact k #[n,by lia] (by lia)
end NAM
namespace NAY
open PySem NAL NAL.EX NAL.RX NAM
section
variable {h:TH}{a b:Int}{p q:xag}
noncomputable def SA (p:xag):D:=.tup [.int p.1,.int p.2]
theorem fP (h0:y≠0)(hl:y.natAbs.log2<9000):UO (.int x) (.int y) h=.ok (.int (x.fdiv y)) h:=by show RU (pDiv x y) _=_;unfold pDiv;rw[kE,Q1 h0,cD.mpr hl];rfl
theorem rM:Zs [.int x] h=.ok (.int (if x<0 then-x else x)) h:=by show R.ok (D.int (bif YF x 0 then-x else x)) h=_;rw[gO];simp_all
theorem yh:Ur [.int a,.int b] h=.ok (.int (bK a b)) h:=by obtain⟨ρ2,h2,q2,rfl,l,r,rfl⟩:=mN (fT:=WA) (fs:=Wx) (λm ρ h1=>h=h1/\∃(g l:Int) (r:Option D),ρ=[se (.int a),se (.int b),se (.int g),se (.int l),r]/\0<=g/\0<=l/\bK g l=bK a b/\m=l.toNat) (fun ρ h1=>h=h1/\∃(l:Int) (r:Option D),ρ=[se (.int a),se (.int b),se (.int (bK a b)),se (.int l),r]) (λm ρ h1 I=>by obtain⟨rfl,g,l,r,rfl,hg,hl,e,rfl⟩:=I;by_cases c:0<l;have:=kT g c;exact#[tj,h,aM (aG rfl rfl (mO c)),λ_=>nA (aG rfl rfl (mod_int c)) (nA rfl (nE (jb rfl rfl) #[(g%l).toNat,NAG.gl24 c this,rfl,l,g%l,_,rfl,hl,jG _ (by exact di c),by rw[BO hg c,e],rfl])),λz=>(nomatch z)];(have e0:=by exact NAG.gl23 hl c);subst e0;exact#[ff,h,aM (aG rfl rfl (mP c)),λz=>(nomatch z),λ_=>#[rfl,0,r,by rw[<-e,BQ hg]]]) #[rfl,_,_,ng,rfl,uT a,uT b,BP a b,rfl];exact a8 rfl (sA (aJ (aH rfl rfl) rM) (sA (aJ (aH rfl rfl) rM) (sG q2 (sR rfl (bF rfl)))))
theorem Ku:Vl [.int a] h=.ok (.bl tj) h:=mL rfl rfl rfl
theorem Kv (hb:b≠0)(hB:Bd 9000 b):∃p,W9 [.int a,.int b] h=.ok (SA p) h/\Yh p/\p.1*b=a*p.2:=by obtain⟨j,hj⟩:∃j,j=if b<0 then-((bK a b):Int)else(bK a b):=#[_,rfl];obtain⟨h1,h2,h3,h4,h5⟩:=BK hb hj;have W:∀{x:Int} {fT:RT} {ρ:R4} {fa:RE},fa ρ h=.ok (.int x) h->Za (V6 (Rj (RW Vl (Q2 fa Q6)))) fT ρ h=fT ρ h:=λz=>vf (vd (aM (aJ (aH z rfl) Ku)));refine#[(a.fdiv j,b.fdiv j),a8 rfl (sF ((W rfl).trans ((W rfl).trans (aM (aG rfl rfl (qh hb))))) (sA (aJ (aH rfl (aH rfl rfl)) yh) (sG (ρ1:=[se (.int a),se (.int b),se (.int j)]) ?_ (sR (gP (aH (aG rfl rfl (fP h1 (uU hB h2 h1))) (aH (aG rfl rfl (fP h1 (uU hB h2 h1))) rfl)) rfl) (bF rfl))))),#[h3,h4],h5];by_cases c:b<0;rw[QY c] at hj;exact(iW (aM (aG rfl rfl (qj c)))).trans (hj▸rfl);rw[QX c] at hj;exact(kF (aM (aG rfl rfl (qk c)))).trans (hj▸rfl)
theorem Kw (hp:Yh p)(hq:Yh q)(ba:Bd 4000 p.1)(bb:Bd 4000 p.2)(bc:Bd 4000 q.1)(bd:Bd 4000 q.2):∃r,UG [SA p,SA q] h=.ok (SA r) h/\Yh r/\r.1*(p.2*q.2)=(p.1*q.2+q.1*p.2)*r.2:=by obtain⟨a,b⟩:=p;obtain⟨c,d⟩:=q;obtain⟨m1,m2,m3,m4,m5,m6,m7,m8⟩:=IJ hp.1 hq.1 hp.2 hq.2 rfl rfl rfl;have gp:=rp (a:=b) (b:=d) (by lia);have dv1:=yh (h:=h) (a:=b) (b:=d);generalize hg:(bK b d)=g at *;have lg:=uU (bd.le Γ) m2 m1;have bg:=bd.of_le m2;have b1:=bd.of_le (xr gp);have b2:=bb.of_le (xr gp);have ep:=rp (a:=a*d.fdiv g+c*b.fdiv g) (b:=g) (by assumption);have dv2:=yh (h:=h) (a:=a*d.fdiv g+c*b.fdiv g) (b:=g);have q1:=fP (h:=h) (x:=d) m1 lg;have q2:=fP (h:=h) (x:=b) m1 lg;have x1:=iq (h:=h) (ba.le (show 4000<=4096 by decide)) (b1.le (show 4000<=4096 by decide));have x2:=iq (h:=h) (bc.le (show 4000<=4096 by decide)) (b2.le (show 4000<=4096 by decide));generalize he:(bK (a*d.fdiv g+c*b.fdiv g) g)=e at *;have le:=uU (bg.le Γ) m5 m4;have b3:=bd.of_le (xr ep);have q3:=fP (h:=h) (x:=a*d.fdiv g+c*b.fdiv g) m4 le;have q4:=fP (h:=h) (x:=d) m4 le;have x3:=iq (h:=h) (b2.le (show 4000<=4096 by decide)) (b3.le (show 4000<=4096 by decide));exact#[((a*d.fdiv g+c*b.fdiv g).fdiv e,b.fdiv g*d.fdiv e),a8 rfl (sA (aJ (aH rfl (aH rfl rfl)) dv1) (sA (aG (aG rfl (aG rfl rfl q1) x1) (aG rfl (aG rfl rfl q2) x2) rfl) (sA (aJ (aH rfl (aH rfl rfl)) dv2) (sR (gP (aH (aG rfl rfl q3) (aH (aG (aG rfl rfl q2) (aG rfl rfl q4) x3) rfl)) rfl) (bF rfl))))),#[m6,m7],m8]
end
end NAY
namespace NAM
open PySem NAL NAL.EX
theorem mI (h:∀e<n,f e<=g e)(k:NAP.upTo g n<=NAP.upTo f n):∀e<n,f e=g e:=by rw[u4,u4] at k;intro e he;exact NAP.sum_eqI (λx hx=>h x (dy.mp hx)) k e (dy.mpr he)
section
variable {gs ts ac ab aa:xae}{ai:xad}
theorem rO:(Su G T ai).ends=ai.map λp=>(p.1,G+p.2):=rfl
theorem Dw (W:(Su gs.length ts.length ai).WF)(F:NAP.Flow (Su gs.length ts.length ai) (gs++ts) ac ab)(b:Bool):NAP.upTo (λe=>[Δ,decide (e<gs.length)=b,NAP.load (Su gs.length ts.length ai).ends ac e]) (gs.length+ts.length)=ac.sum:=by have lo:=NAP.VU (S:=λe=>decide (decide (e<gs.length)=b)) W.two F.ls;(have e1:NAP.upTo (λe=>[Δ,decide (e<gs.length)=b,NAP.load (Su gs.length ts.length ai).ends ac e]) (gs.length+ts.length)=NAP.upTo (λe=>[Δ,decide (decide (e<gs.length)=b)=tj,NAP.load (Su gs.length ts.length ai).ends ac e]) (gs.length+ts.length):=NAP.Rb λe he=>by by_cases c:decide (e<gs.length)=b;rw[QY c,QY (QZ c)];rw[QX c,QX (λz=>c (Q0 z))]);rw[e1];refine lo.trans ?_;rw[<-NAP.XE F.ls];congr 1;refine cz λq hq=>?_;obtain⟨k,hk⟩:=bz (bY hq).1;have:=W.lo k q.1 hk;have g1:q.1.1<gs.length:=this.1;(have g2:¬q.1.2<gs.length:=by have:=this.2.1;exact Nat.not_lt.mpr this);rw[QZ g1,Q1 g2];cases b<;>simp
theorem Kx (W:(Su gs.length ts.length ai).WF)(F:NAP.Flow (Su gs.length ts.length ai) (gs++ts) ac ab)(h:gs.sum<=ac.sum):∀g<gs.length,NAP.load (Su gs.length ts.length ai).ends ac g=gs.getD g 0:=by have s:=Dw W F tj;have k:=mI (f:=λe=>[Δ,decide (e<gs.length)=tj,NAP.load (Su gs.length ts.length ai).ends ac e]) (g:=λe=>[Δ,decide (e<gs.length)=tj,(gs++ts).getD e 0]) (n:=gs.length+ts.length) (λe he=>by split;exact(F.load_le he).1;exact dw _) (by rw[s,NAP.Vd];(have z:NAP.upTo (λe=>[Δ,decide (gs.length+e<gs.length)=tj,(gs++ts).getD (gs.length+e) 0]) ts.length=0:=by rw[NAP.Rb (g:=λ_=>0) λe _=>QX (by simp),NAP.Sf]);(have y:NAP.upTo (λe=>[Δ,decide (e<gs.length)=tj,(gs++ts).getD e 0]) gs.length=gs.sum:=by rw[NAP.Rb (g:=λe=>gs.getD e 0) λe he=>by rw[QY (QZ he),xC he],u4];have:=xJ (λx:Int=>x) 0 gs;rw[this,uz]);rw[z,y];simp_all);intro g hg;have:=k g (by lia);rw[QZ hg,QY rfl,QY rfl,xC hg] at this;exact this
theorem Ky (W:(Su gs.length ts.length ai).WF)(F:NAP.Flow (Su gs.length ts.length ai) (gs++ts) ac ab)(h:ts.sum<=ac.sum):∀t<ts.length,NAP.load (Su gs.length ts.length ai).ends ac (gs.length+t)=ts.getD t 0:=by have k:=mI (f:=λe=>[Δ,decide (e<gs.length)=ff,NAP.load (Su gs.length ts.length ai).ends ac e]) (g:=λe=>[Δ,decide (e<gs.length)=ff,(gs++ts).getD e 0]) (n:=gs.length+ts.length) (λe he=>by split;exact(F.load_le he).1;exact dw _) (by rw[Dw W F ff,NAP.Vd];(have z:NAP.upTo (λe=>[Δ,decide (e<gs.length)=ff,(gs++ts).getD e 0]) gs.length=0:=by rw[NAP.Rb (g:=λ_=>0) λe he=>QX Β,NAP.Sf]);(have y:NAP.upTo (λe=>[Δ,decide (gs.length+e<gs.length)=ff,(gs++ts).getD (gs.length+e) 0]) ts.length=ts.sum:=by rw[NAP.Rb (g:=λe=>ts.getD e 0) λe he=>by rw[QY (by simp),xD],u4];have:=xJ (λx:Int=>x) 0 ts;rw[this,uz]);simp_all);intro t ht;have:=k (gs.length+t) Β;rwa [Q1 Β,QY rfl,QY rfl,xD] at this
theorem Kz (hn:c.1.Nodup)(cn:c.2.Nodup)(rst:rx ws aF c)(wp:∀x∈ws,1<=x)(lg:gs.length=c.2.length)(D:NAP.Uw (Su gs.length ts.length (RV aF c.1 c.2)) (gs++ts) ac ab aa) :∃nh:Nat->Bool,c.1.length*NAP.upTo (λg=>[Δ,NAP.nr aa g,Sg ws (c.2.getD g 0)]) c.2.length<=NAP.Uy (Sg ws) c*NAP.cnt c nh/\NAP.cnt c nh<=c.1.length/\0<=NAP.cnt c nh/\∀v:Int,NAP.upTo (λj=>[Δ,NAP.nr aa (gs.length+j),v]) c.1.length=v*NAP.cnt c nh:=by refine#[λh=>NAP.nr aa (gs.length+c.1.idxOf h),?_,?_,?_,λv=>?_];refine i6 (ub ?_ Β) (rst λh=>NAP.nr aa (gs.length+c.1.idxOf h));(have e:NAP.upTo (λg=>[Δ,NAP.nr aa g,Sg ws (c.2.getD g 0)]) c.2.length=(c.2.map λx=>[Δ,NAP.nr aa (c.2.idxOf x),Sg ws x]).sum:=by grind[NAP.U8,NAP.Rb,jO,NAP.TD]);rw[e];unfold NAP.Wa;refine NAP.WZ λx hx=>?_;have wpx:=ru wp x;by_cases z:NAP.nr aa (c.2.idxOf x)=tj;(have all:(c.1.all λh=>(!(So aF x).contains h||NAP.nr aa (gs.length+c.1.idxOf h)))=tj:=iQ.mpr λh hh=>by cases q:(So aF x).contains h with| false=>rfl| true =>have lx:=fV hx;(have gx:c.2[c.2.idxOf x]?=se x:=Β);(have gh:c.1[c.1.idxOf h]?=se h:=by grind);obtain⟨k,hk⟩:=bz ((jN hn _ _).mpr #[x,h,gx,gh,kn.mp q]);have:=D.ai _ _ _ #[(c.2.idxOf x,gs.length+c.1.idxOf h),by rw[rO,bo,hk];rfl,.inl #[rfl,rfl]] (show c.2.idxOf x<gs.length by simp_all) z;rw[this];rfl);lia;lia;(have:∀l:xaf,(l.map λh=>[Δ,NAP.nr aa (gs.length+c.1.idxOf h)=tj,(1:Int)]).sum<=l.length:=λl=>by induction l with| nil=>simp| cons x r ih =>grind);exact this c.1;refine Je λx hx=>?_;grind;unfold NAP.cnt;rw[NAP.V8,<-NAP.U8];refine NAP.Rb λg hg=>?_;grind
theorem KA:NAP.upTo (λg=>wk (c.2.getD g 0)) c.2.length=NAP.Uy wk c:=NAP.U8 _
theorem KB (S:Nat->Bool)(f:Nat->Int)(n:Nat):NAP.upTo (λg=>if S g then 0 else f g) n=NAP.upTo f n-NAP.upTo (λg=>[Δ,S g,f g]) n:=by induction n with| zero=>rfl| succ n ih =>show NAP.upTo (λg=>if S g then 0 else f g) n+(if S n then 0 else f n)=(NAP.upTo f n+f n) - (NAP.upTo (λg=>if S g then f g else 0) n+(if S n then f n else 0));rw[ih];split<;>lia
theorem Dx (f:Nat->Int)(k:Int)(n:Nat):NAP.upTo (λg=>f g*k) n=NAP.upTo f n*k:=by induction n with| zero=>show 0=0*k;rw[km]| succ n ih =>show _+_=(_+_)*k;rw[ih,kW]
theorem Dy {v:Int}(h:j<n):(bf n v).getD j 0=v:=Β
end
noncomputable def UR (H:Hp) (S:List Q5):Hp:=λb=>if b∈S then ng else H b
section
end
noncomputable def Uv {α:Type} (aF:xab) (c:NAP.Cr) (ss:List α):List (Nat×Nat×α):=((RV aF c.1 c.2).zip ss).map λt=>(c.2.getD t.1.1 0,(So aF (c.2.getD t.1.1 0)).idxOf (c.1.getD t.1.2 0),t.2)
noncomputable def SY {α:Type} (aF:xab) (no:α):List (List α):=aF.map λr=>bf r.length no
noncomputable def S7 {α:Type} (aF:xab) (L:List NAP.Cr) (bJ:List (List α)) (no:α):List (List α):=((L.zip bJ).flatMap λx=>Uv aF x.1 x.2).foldl NAP.Ub (SY aF no)
section
end
inductive TripAt {α:Type} (aF:xab) (c:NAP.Cr) (ss:List α) (t:Nat×Nat×α):Prop
 | mk (g p x hd:Nat) (h1:((g,p),t.2.2)∈(RV aF c.1 c.2).zip ss) (h2:c.2[g]?=se x) (h3:c.1[p]?=se hd) (h4:hd∈So aF x) (h5:t.1=x) (h6:t.2.1=(So aF x).idxOf hd)
theorem mR (hn:c.1.Nodup)(h:t∈Uv aF c ss):TripAt aF c ss t:=by obtain⟨u,hu,rfl⟩:=aU.mp h;obtain⟨x,hd,h1,h2,h3⟩:=(jN hn u.1.1 u.1.2).mp (bY hu).1;refine#[u.1.1,u.1.2,x,hd,hu,h1,h2,h3,NAP.Sb h1,?_];rw[NAP.Sb h1,NAP.Sb h2]
theorem yi (aF:xab)(no:α):NAP.Z9 aF.length (λx=>(So aF x).length) (SY aF no):=by unfold SY;refine#[bn ..,λx hx=>?_];show _=(aF.getD x []).length;simp_all
structure Zk (ws:xae)(aF:xab)(c:NAP.Cr):Prop where
 nd:c.1.Nodup
 cn:c.2.Nodup
 hl:c.1.length<=20
 cl:c.2.length<=20
 ci:∀x∈c.2,x<ws.length
 n0:0<c.1.length
 rst:rx ws aF c
noncomputable def Vg {α:Type} (f:α->Int) (ai:xad) (ss:List α) (P:Nat×Nat->Bool):Int:=((ai.zip ss).map λq=>[Δ,P q.1,f q.2]).sum
theorem KC (hg:g<G):NAP.load (ai.map λp=>(p.1,G+p.2)) ss g=Vg id ai ss (λp=>p.1==g):=by rw[NAP.YB];rw[qV,cB];congr 1;refine cz λq _=>?_;show[Δ,NAP.Ym (q.1.1,G+q.1.2) g,q.2]=[Δ,(q.1.1==g)=tj,q.2];(have:NAP.Ym (q.1.1,G+q.1.2) g=(q.1.1==g):=by unfold NAP.Ym;lia);rw[this]
theorem KD (hp:∀p∈ai,p.1<G):NAP.load (ai.map λp=>(p.1,G+p.2)) ss (G+t)=Vg id ai ss (λp=>p.2==t):=by rw[NAP.YB];rw[qV,cB];congr 1;refine cz λq hq=>?_;have:=hp q.1 (bY hq).1;show[Δ,NAP.Ym (q.1.1,G+q.1.2) (G+t),q.2]=[Δ,(q.1.2==t)=tj,q.2];(have:NAP.Ym (q.1.1,G+q.1.2) (G+t)=(q.1.2==t):=by unfold NAP.Ym;lia);rw[this]
theorem V0.crowdP (C:V0 ws aF ae L)(hm:ae<=20)(hw:ws.length<=20)(hc:c∈L):Zk ws aF c:=by obtain⟨a,b,d,e,f⟩:=C.lt hc;exact#[oz e,oz f,bW (kD e a) hm,bW (kD f b) hw,b,fj.mpr d,C.rst c hc]
theorem yj {L:List NAP.Cr}(nd:(L.flatMap f).Nodup){i j x:Nat}(hi:L[i]?=se c)(hj:L[j]?=se d)(hx:x∈f c)(hy:x∈f d):i=j:=by have pw:=(wu.mp nd).2;rw[qS] at pw;grind
theorem KF (g:Nat)(nr:row.Nodup):(UI ag g row).Nodup:=by refine List.Pairwise.filterMap _ (λa b mZ p hp q hq=>?_) nr;cases ha:placeOf ag a with| none=>simp_all| some u =>cases hb:placeOf ag b with| none=>simp_all| some v =>rw[ha] at hp;rw[hb] at hq;cases hp;cases hq;have h1:=xF ha;have h2:=xF hb;lia
theorem KG (hn:ag.Nodup)(nr:∀r∈aF,r.Nodup):∀i:Nat,(TY aF ag ad i).Nodup:=by intro i;induction i with| zero =>simp[TY]| succ i ih =>rw[TY,kq];refine#[ih,KF i ?_,λa ha b hb e=>?_];all_goals grind[bR,aT,jI,fh,B8,B7]
theorem ym:∀{l:List α} {m:List β},l.Pairwise R->(l.zip m).Pairwise λx y=>R x.1 y.1| [],_,_=>by simp| _::_,[],_=>by simp| a::l,b::m,h=>by have h':=ut.mp h;exact ut.mpr #[λy hy=>h'.1 y.1 (bY hy).1,ym h'.2]
section
variable {α:Type}{aF:xab}{L:List NAP.Cr}{bJ:List (List α)}
structure ZX (aF:xab)(L:List NAP.Cr):Prop where
 nr:∀r∈aF,r.Nodup
 nd:∀c∈L,c.1.Nodup/\c.2.Nodup/\∀x∈c.2,x<aF.length
 cd:(L.flatMap (·.2)).Nodup
 hd:(L.flatMap (·.1)).Nodup
theorem KH {ss:List α}(nr:∀r∈aF,r.Nodup)(hn:c.1.Nodup)(cn:c.2.Nodup):(Uv aF c ss).Pairwise λt u=>¬(t.1=u.1/\t.2.1=u.2.1):=by unfold Uv;rw[Ap];refine AI (λ{a b} ha hb mZ=>?_) (ym (m:=ss) (KG (ad:=c.2) hn nr c.2.length));rintro⟨e1,e2⟩;obtain⟨x,h,h1,h2,h3⟩:=(jN hn a.1.1 a.1.2).mp (bY ha).1;obtain⟨y,k,k1,k2,k3⟩:=(jN hn b.1.1 b.1.2).mp (bY hb).1;dsimp only at e1 e2;rw[NAP.Sb h1,NAP.Sb k1] at e1;subst e1;rw[NAP.Sb h1,NAP.Sb k1,NAP.Sb h2,NAP.Sb k2] at e2;(have ek:h=k:=by rw[<-uu (fV h3),<-uu (fV k3)];congr 1);subst ek;exact mZ (Prod.ext (by rw[<-jO cn h1,<-jO cn k1]) (by rw[<-jO hn h2,<-jO hn k2]))
theorem yn (h:ZX aF L)(hl:bJ.length=L.length)(w0:∀x k,W x k no=0) :NAP.Z9 aF.length (λx=>(So aF x).length) (S7 aF L bJ no)/\NAP.S2 no aF.length (λx=>(So aF x).length) W (S7 aF L bJ no)=((L.zip bJ).map λx=>((Uv aF x.1 x.2).map λt=>W t.1 t.2.1 t.2.2).sum).sum:=by(have at0:∀x k,NAP.YR no (SY aF no) x k=no:=λx k=>by grind[NAP.YR,SY,bf,bR,bo,aT,mj,fh,bn]);(have bnd:∀t∈(L.zip bJ).flatMap λx=>Uv aF x.1 x.2,t.1<aF.length/\t.2.1<(So aF t.1).length:=λt ht=>by obtain⟨u,hu,hu2⟩:=ju.mp ht;have hc:=h.nd u.1 (bY hu).1;obtain⟨_,_,x,hd,_,z1,_,z3,z4,z5⟩:=mR hc.1 hu2;rw[z4,z5];exact#[hc.2.2 x (aK z1),fV z3]);(have pw:((L.zip bJ).flatMap λx=>Uv aF x.1 x.2).Pairwise λt u=>¬(t.1=u.1/\t.2.1=u.2.1):=by rw[wu];refine#[λu hu=>?_,?_];have hc:=h.nd u.1 (bY hu).1;exact KH h.nr hc.1 hc.2.1;refine AI (λ{a b} ha hb mZ t ht u hu=>?_) (ym (wu.mp h.cd).2);have ca:=h.nd a.1 (bY ha).1;have cb:=h.nd b.1 (bY hb).1;obtain⟨_,_,x,_,_,z1,_,_,z4,_⟩:=mR ca.1 ht;obtain⟨_,_,y,_,_,y1,_,_,y4,_⟩:=mR cb.1 hu;rintro⟨e,_⟩;rw[z4,y4] at e;exact mZ x (aK z1) y (aK y1) e);obtain⟨s1,s2⟩:=NAP.fold_S2 w0 _ _ (yi aF no) bnd pw λt _=>at0 t.1 t.2.1;refine#[s1,?_];(have z0:NAP.S2 no aF.length (λx=>(So aF x).length) W (SY aF no)=0:=by unfold NAP.S2;grind[aR,So,NAP.YR,SY,cz,NAP.Va]);unfold S7;rw[s2,z0,nY];(have fl:∀l:List (NAP.Cr×List α),((l.flatMap λx=>Uv aF x.1 x.2).map λt=>W t.1 t.2.1 t.2.2).sum=(l.map λx=>((Uv aF x.1 x.2).map λt=>W t.1 t.2.1 t.2.2).sum).sum:=λl=>by induction l with| nil=>rfl| cons a r ih=>simp_all);exact fl _
theorem yo (h:ZX aF L)(hl:bJ.length=L.length)(f0:f no=0){i g x:Nat}(hc:L[i]?=se c)(hs:bJ[i]?=se ss)(hg:c.2[g]?=se x):(((S7 aF L bJ no).getD x []).map f).sum=Vg f (RV aF c.1 c.2) ss λp=>p.1==g:=by(obtain⟨sh,e⟩:=yn h hl (W:=λy k a=>[Δ,y=x,f a]) λy k=>by rw[f0];split<;>rfl);have xl:=(h.nd c (aK hc)).2.2 x (aK hg);(have lhs:NAP.S2 no aF.length (λx=>(So aF x).length) (λy k a=>[Δ,y=x,f a]) (S7 aF L bJ no)=(((S7 aF L bJ no).getD x []).map f).sum:=by unfold NAP.S2;have o:=NAP.Yq (λ_=>0) (λy=>((aR (So aF y).length).map λk=>[Δ,y=x,f (NAP.YR no (S7 aF L bJ no) y k)]).sum) x (λy hy=>by rw[cz (λk _=>QX hy),NAP.Va]) aF.length xl;rw[NAP.Va,nY,Int.sub_zero] at o;rw[o];simp only[if_true];have ln:((S7 aF L bJ no).getD x []).length=(So aF x).length:=sh.2 x xl;rw[<-ln];have:=xJ f no ((S7 aF L bJ no).getD x []);rw[<-this];rfl);rw[lhs] at e;rw[e];rw[NAP.Yp ((bP (z:=(c,ss))).mpr #[hc,hs]) λj z hz hj=>?_];unfold Uv Vg;rw[cB];congr 1;refine cz λq hq=>?_;obtain⟨y,hd,h1,h2,h3⟩:=(jN (h.nd c (aK hc)).1 q.1.1 q.1.2).mp (bY hq).1;show[Δ,c.2.getD q.1.1 0=x,f q.2]=[Δ,(q.1.1==g)=tj,f q.2];rw[NAP.Sb h1];have cn:=(h.nd c (aK hc)).2.1;by_cases z:q.1.1=g;simp_all;have:¬y=x:=λe=>z (by rw[<-jO cn h1,<-jO cn hg,e]);simp_all;obtain⟨z1,z2⟩:=(bP).mp hz;(have:∀t∈Uv aF z.1 z.2,(λt=>[Δ,t.1=x,f t.2.2]) t=0:=λt ht=>by obtain⟨_,_,y,_,_,y1,_,_,y4,_⟩:=mR (h.nd z.1 (aK z1)).1 ht;refine QX λe=>hj ?_;rw[y4] at e;subst e;exact yj h.cd z1 hc (aK y1) (aK hg));rw[cz this,NAP.Va]
theorem vo (F:β×γ->Int)(d:β)(e:γ):∀{r:List β} {s:List γ},s.length=r.length->((r.zip s).map F).sum=((aR r.length).map λk=>F (r.getD k d,s.getD k e)).sum:=λ{r s} hl=>by congr 1;refine i7 λk=>?_;grind
noncomputable def bagF (f:α->Int) (l:List (Nat×α)) (h:Nat):Int:=(l.map λx=>[Δ,x.1=h,f x.2]).sum
noncomputable def ZU (aF:xab) (R:List (List α)):List (Nat×α):=(aF.zip R).flatMap λx=>x.1.zip x.2
theorem KI (h:ZX aF L)(hl:bJ.length=L.length)(f0:f no=0){i p h0:Nat}(hc:L[i]?=se c)(hs:bJ[i]?=se ss)(hp:c.1[p]?=se h0):bagF f (ZU aF (S7 aF L bJ no)) h0=Vg f (RV aF c.1 c.2) ss λq=>q.2==p:=by(obtain⟨sh,e⟩:=yn h hl (W:=λx k a=>[Δ,(So aF x).getD k 0=h0,f a]) λy k=>by rw[f0];split<;>rfl);(have lhs:NAP.S2 no aF.length (λx=>(So aF x).length) (λx k a=>[Δ,(So aF x).getD k 0=h0,f a]) (S7 aF L bJ no)=bagF f (ZU aF (S7 aF L bJ no)) h0:=by unfold NAP.S2 bagF ZU;(have fl:∀l:List (List Nat×List α),((l.flatMap λx=>x.1.zip x.2).map λx=>[Δ,x.1=h0,f x.2]).sum=(l.map λx=>((x.1.zip x.2).map λx=>[Δ,x.1=h0,f x.2]).sum).sum:=λl=>by induction l with| nil=>rfl| cons a r ih=>simp_all);rw[fl,vo _ [] [] sh.1];congr 1;refine cz λx hx=>?_;rw[vo _ 0 no (show((S7 aF L bJ no).getD x []).length=(aF.getD x []).length from sh.2 x (dy.mp hx))];rfl);rw[lhs] at e;rw[e];(have val:∀{x hd:Nat},hd∈So aF x->(So aF x).getD ((So aF x).idxOf hd) 0=hd:=λ{x hd} hm=>by grind);rw[NAP.Yp ((bP (z:=(c,ss))).mpr #[hc,hs]) λj z hz hj=>?_];unfold Uv Vg;rw[cB];congr 1;refine cz λq hq=>?_;have hn:=(h.nd c (aK hc)).1;obtain⟨y,hd,h1,h2,h3⟩:=(jN hn q.1.1 q.1.2).mp (bY hq).1;show[Δ,(So aF (c.2.getD q.1.1 0)).getD ((So aF (c.2.getD q.1.1 0)).idxOf (c.1.getD q.1.2 0)) 0=h0,f q.2]=[Δ,(q.1.2==p)=tj,f q.2];rw[NAP.Sb h1,NAP.Sb h2,val h3];by_cases z:q.1.2=p;simp_all;have:¬hd=h0:=λe=>z (by rw[<-jO hn h2,<-jO hn hp,e]);simp_all;obtain⟨z1,z2⟩:=(bP).mp hz;(have:∀t∈Uv aF z.1 z.2,(λt=>[Δ,(So aF t.1).getD t.2.1 0=h0,f t.2.2]) t=0:=λt ht=>by obtain⟨_,_,y,hd,_,y1,y2,y3,y4,y5⟩:=mR (h.nd z.1 (aK z1)).1 ht;refine QX λe=>hj ?_;rw[y4,y5,val y3] at e;subst e;exact yj h.hd z1 hc (aK y2) (aK hp));rw[cz this,NAP.Va]
end
theorem V0.rowsH (C:V0 ws aF ae L)(h0:0<ae)(hl:aF.length=ws.length)(nr:∀r∈aF,r.Nodup):ZX aF L:=by refine#[nr,λc hc=>?_,?_,?_];obtain⟨a,b,d,e,f⟩:=C.lt hc;exact#[oz e,oz f,λx hx=>by rw[hl];exact b x hx];have:=xG C h0;unfold WV at this;rw[oB] at this;exact this.nodup_iff.mpr uw;have:=uY C h0;unfold W1 at this;rw[oB] at this;exact this.nodup_iff.mpr uw
theorem KJ (C:V0 ws aF ae L)(h0:0<ae):∃ps qs,Xu ws L ps/\Wo ae L ps qs:=by(have fS:∀c∈L,∃p:xag,Yh p/\p.1*c.1.length=NAP.Uy (Sg ws) c*p.2:=λc hc=>by have n0:0<c.1.length:=fj.mpr (C.lt hc).2.2.1;obtain⟨_,_,h3,h4,h5⟩:=BK (NAG.gl28 n0) rfl;exact#[(_,_),#[h3,h4],h5]);(have pf:∃pf:NAP.Cr->xag,∀c∈L,Yh (pf c)/\(pf c).1*c.1.length=NAP.Uy (Sg ws) c*(pf c).2:=by refine#[λc=>if h:c∈L then Classical.choose (fS c h)else(0,1),λc hc=>?_];simp only[hc,dif_pos];exact Classical.choose_spec (fS c hc));obtain⟨pf,hpf⟩:=pf;have hp:=uY C h0;unfold W1 at hp;rw[oB] at hp;(have ex:∀h<ae,∃c,c∈L/\h∈c.1:=λh hh=>by obtain⟨c,hc,iz⟩:=ju.mp (hp.mem_iff.mpr (dy.mpr hh));exact#[c,hc,iz]);refine#[L.map pf,(aR ae).map λh=>if hh:h<ae then pf (Classical.choose (ex h hh))else(0,1),#[bn ..,λi c p hc dJ=>?_],#[by rw[bn,kX],λi c p hc dJ h hh=>?_]];rw[bo,hc] at dJ;cases dJ;exact hpf c (aK hc);rw[bo,hc] at dJ;cases dJ;have eO:=(C.lt (aK hc)).1 h hh;rw[bo,ko eO];simp only[uF,eO,dif_pos];obtain⟨z1,z2⟩:=Classical.choose_spec (ex h eO);obtain⟨j,hj⟩:=bz z1;have:=yj (hp.nodup_iff.mpr uw) hj hc z2 hh;subst this;rw[hc] at hj;cases hj;rfl
theorem KL (pc:Zk ws aF c)(wp:∀x∈ws,1<=x) (D:NAP.Uw (Su (Rx ws c.1 c.2).length (takesIn ws c.1 c.2).length (RV aF c.1 c.2)) (Rx ws c.1 c.2++takesIn ws c.1 c.2) ac ab aa) :ac.length=(RV aF c.1 c.2).length/\(∀s∈ac,0<=s)/\(∀g<c.2.length,Vg id (RV aF c.1 c.2) ac (λp=>p.1==g)=ws.getD (c.2.getD g 0) 0*c.1.length)/\∀t<c.1.length,Vg id (RV aF c.1 c.2) ac (λp=>p.2==t)=NAP.Uy (Sg ws) c:=by(have gl:(Rx ws c.1 c.2).length=c.2.length:=by unfold Rx;rw[bn]);(have lt:(takesIn ws c.1 c.2).length=c.1.length:=by unfold takesIn;rw[n6]);(have ewt:Ul ws c.2=NAP.Uy (Sg ws) c:=by unfold Ul NAP.Uy;rw[cz λx hx=>(u5 (pc.ci x hx)).symm]);(have tie:∀p∈RV aF c.1 c.2,p.1<c.2.length/\p.2<c.1.length:=λp hp=>by obtain⟨x,h,h1,h2,_⟩:=(jN pc.nd p.1 p.2).mp hp;exact#[(aQ.mp h1).1,(aQ.mp h2).1]);(have W:=xz (G:=(Rx ws c.1 c.2).length) (T:=(takesIn ws c.1 c.2).length) λp hp=>by rw[gl,lt];exact tie p hp);obtain⟨nh,k1,k2,k3,k4⟩:=Kz pc.nd pc.cn pc.rst wp gl D;have b:=D.bnd W;rw[Jf,gl,lt] at b;(have gat:∀g<c.2.length,(Rx ws c.1 c.2).getD g 0=Sg ws (c.2.getD g 0)*c.1.length:=λg hg=>by unfold Rx;rw[bR,bo,NAP.TD hg];show ws.getD (c.2.getD g 0) 0*_=_;rw[u5 (pc.ci _ (aK (NAP.TD hg)))]);(have e1:NAP.upTo (λe=>if NAP.nr aa e=tj then 0 else(Rx ws c.1 c.2).getD e 0) c.2.length=NAP.Uy (Sg ws) c*c.1.length-NAP.upTo (λg=>[Δ,NAP.nr aa g=tj,Sg ws (c.2.getD g 0)]) c.2.length*c.1.length:=by rw[<-KA,<-Dx,<-Dx];(have z:NAP.upTo (λg=>[Δ,NAP.nr aa g=tj,Sg ws (c.2.getD g 0)]*c.1.length) c.2.length=NAP.upTo (λg=>[Δ,NAP.nr aa g=tj,Sg ws (c.2.getD g 0)*c.1.length]) c.2.length:=NAP.Rb λg _=>by split;rfl;exact km _);rw[z,<-KB];refine NAP.Rb λg hg=>?_;rw[gat g hg]);(have e2:NAP.upTo (λj=>[Δ,NAP.nr aa (c.2.length+j)=tj,(takesIn ws c.1 c.2).getD j 0]) c.1.length=NAP.Uy (Sg ws) c*NAP.cnt c nh:=by rw[<-k4,gl];refine NAP.Rb λj hj=>?_;unfold takesIn;rw[Dy hj,ewt]);rw[e1,e2] at b;(have big:NAP.Uy (Sg ws) c*c.1.length<=ac.sum:=by lia);(have gsum:(Rx ws c.1 c.2).sum=NAP.Uy (Sg ws) c*c.1.length:=by unfold Rx NAP.Uy;rw[NAP.WB];congr 1;refine cz λx hx=>?_;rw[u5 (pc.ci x hx)]);(have tsum:(takesIn ws c.1 c.2).sum=NAP.Uy (Sg ws) c*c.1.length:=by unfold takesIn;rw[ewt];generalize c.1.length=m;induction m with| zero=>simp| succ m ih =>grind);have gv:=Kx W D.flow (by rwa [gsum]);have tk:=Ky W D.flow (by rwa [tsum]);rw[gl] at gv;rw[lt,gl] at tk;refine#[by have:=D.flow.ls;rwa [rO,bn] at this,λs hs=>?_,λg hg=>?_,λt ht=>?_];obtain⟨k,hk⟩:=bz hs;exact D.flow.nn k s hk;have:=gv g hg;rwa [rO,KC hg,gat g hg,u5 (pc.ci _ (aK (NAP.TD hg)))] at this;have:=tk t ht;rw[rO,KD (λp hp=>(tie p hp).1)] at this;rw[this];unfold takesIn;rw[Dy ht,ewt]
structure ZW (ws:xae)(aF:xab)(c:NAP.Cr)(ss:xac):Prop where
 len:ss.length=(RV aF c.1 c.2).length
 ok:∀p∈ss,Yh p/\0<=p.1/\p.2∣(c.1.length:Int)/\Bd 330 p.1
 gv:∀M:Int,(c.1.length:Int)∣M->0<M->∀g<c.2.length,Vg (vl M) (RV aF c.1 c.2) ss (λp=>p.1==g)=ws.getD (c.2.getD g 0) 0*M
 tk:∀M:Int,(c.1.length:Int)∣M->0<M->∀t<c.1.length,Vg (vl M) (RV aF c.1 c.2) ss (λp=>p.2==t)*c.1.length=NAP.Uy (Sg ws) c*M
theorem KM (pc:Zk ws aF c)(hb:∀s∈ac,Bd 330 s) (h1:ac.length=(RV aF c.1 c.2).length) (h2:∀s∈ac,0<=s) (h3:∀g<c.2.length,Vg id (RV aF c.1 c.2) ac (λp=>p.1==g)=ws.getD (c.2.getD g 0) 0*c.1.length) (h4:∀t<c.1.length,Vg id (RV aF c.1 c.2) ac (λp=>p.2==t)=NAP.Uy (Sg ws) c) (sl:ss.length=ac.length) (sp:∀(k:Nat) p s,ss[k]?=se p->ac[k]?=se s->Yh p/\p.1*c.1.length=s*p.2):ZW ws aF c ss:=by(have n0:(0:Int)<c.1.length:=by have:=pc.n0;simp_all);(have one:∀k p s,ss[k]?=se p->ac[k]?=se s->p.2∣(c.1.length:Int)/\∀M,(c.1.length:Int)∣M->vl M p*c.1.length=s*M:=λk p s hp hs=>by obtain⟨l,e⟩:=sp k p s hp hs;have d:=(uQ l.2 e).1;refine#[d,λM hM=>?_];have p1:=l.1;refine kS (a:=p.2) (by exact di p1) ?_;(have a1:vl M p*(c.1.length:Int)*p.2=vl M p*p.2*c.1.length:=by grind);rw[a1,xI (pH d hM)];(have a2:p.1*M*(c.1.length:Int)=p.1*c.1.length*M:=by grind);rw[a2,e];grind);(have tl:∀M,(c.1.length:Int)∣M->∀P:Nat×Nat->Bool,Vg (vl M) (RV aF c.1 c.2) ss P*c.1.length=Vg id (RV aF c.1 c.2) ac P*M:=λM hM P=>by unfold Vg;rw[NAP.WB,NAP.WB];have z:(0,1)=((0:Int),1):=rfl;rw[vo _ (0,0) (0,1) (by rwa [sl]),vo _ (0,0) 0 (by assumption)];congr 1;refine cz λk hk=>?_;grind);refine#[by rwa [sl],λp hp=>?_,λM hM m0 g hg=>?_,λM hM m0 t ht=>?_];obtain⟨k,hk⟩:=bz hp;have jW:=(aQ.mp hk).1;have hs:ac[k]?=se (ac.getD k 0):=getD_at (by rwa [<-sl]);obtain⟨l,e⟩:=sp k p _ hk hs;have p1:=l.1;refine#[l,?_,(one k p _ hk hs).1,(hb _ (aK hs)).of_le (BM l.2 (by exact di n0) e).1];refine v8 (a:=(c.1.length:Int)) ?_ n0;rw[km,e];exact jr (h2 _ (aK hs)) (by exact cy p1);refine kS (a:=(c.1.length:Int)) (by exact di n0) ?_;rw[tl M hM,h3 g hg];grind;rw[tl M hM,h4 t ht]
theorem KN:∀(T:List (Nat×Nat × α)) R,NAP.Z9 n ln R->(∀t∈T,t.1<n/\t.2.1<ln t.1)->∀x k,NAP.YR no (T.foldl NAP.Ub R) x k=NAP.YR no R x k\/∃t∈T,t.1=x/\t.2.1=k/\NAP.YR no (T.foldl NAP.Ub R) x k=t.2.2:=by intro T;induction T with| nil =>rintro R _ _ x k;exact .inl rfl| cons t T ih =>rintro R s hb x k;obtain⟨b1,b2⟩:=hb t aO;rw[pO];rcases ih (NAP.Ub R t) (s.put b1) (λu hu=>hb u (a7 _ hu)) x k with h | ⟨u,hu,h1,h2,h3⟩;rw[h,NAP.XU s b1 b2 x k];grind;grind
structure EvenR (ws:xae)(aF:xab)(ae:Nat)(R:xaa)(qs:xac):Prop where
 len:R.length=aF.length
 row:∀(i:Nat) r s,aF[i]?=se r->R[i]?=se s->s.length=r.length
 sum:∀M:Int,0<M->232792560∣M->∀(i:Nat) s,R[i]?=se s->(s.map (vl M)).sum=ws.getD i 0*M
 ok:∀s∈R,∀p∈s,Yh p/\0<=p.1/\p.2∣232792560/\Bd 330 p.1
 load:∀M:Int,0<M->232792560∣M->∀(h:Nat) q,qs[h]?=se q->FV M q (US M (R7 aF R) h)
 even:∀(i:Nat) r s,aF[i]?=se r->R[i]?=se s->∀(k:Nat) p h,s[k]?=se p->r[k]?=se h->0<p.1->∀h'∈r,∀q q',qs[h]?=se q->qs[h']?=se q'->q.1*q'.2<=q'.1*q.2
theorem KO {ps qs:xac}(C:V0 ws aF ae L)(h0:0<ae)(hm:ae<=20)(hw:ws.length<=20)(hl:aF.length=ws.length)(nr:∀r∈aF,r.Nodup)(wp:∀x∈ws,1<=x)(sl:bJ.length=L.length)(pk:∀(i:Nat) c ss,L[i]?=se c->bJ[i]?=se ss->ZW ws aF c ss) (lo:Xu ws L ps) (lk:Wo ae L ps qs):EvenR ws aF ae (S7 aF L bJ (0,1)) qs:=by have rh:=C.rowsH h0 hl nr;have sh:=(yn rh sl (no:=(0,1)) (W:=λ_ _ _=>0) λ_ _=>rfl).1;(have c20:∀c∈L,(c.1.length:Int)∣232792560:=λc hc=>by have p:=C.crowdP hm hw hc;exact Kt (by have:=p.n0;lia) (by have:=p.hl;lia));have v0:∀M,vl M (0,1)=0:=λM=>km _;(have Xh:∀i c,L[i]?=se c->∃ss,bJ[i]?=se ss/\ZW ws aF c ss:=λi c hc=>by have hi:=(aQ.mp hc).1;have hs:bJ[i]?=se (bJ[i]' Β):=aT _;exact#[_,hs,pk i c _ hc hs]);(have pA:∀(i:Nat) r s,aF[i]?=se r->(S7 aF L bJ (0,1))[i]?=se s->s.length=r.length:=λi r s hr hs=>by(have es:(S7 aF L bJ (0,1)).getD i []=s:=by rw[bR,hs];rfl);(have er:So aF i=r:=by unfold So;rw[bR,hr];rfl);have:((S7 aF L bJ (0,1)).getD i []).length=(So aF i).length:=sh.2 i (aQ.mp hr).1;rwa [es,er] at this);refine#[sh.1,pA,λM hM hd i s hs=>?_,?_,λM hM hd h q hq=>?_,λi r s hr hs k p h hp hh pos h' iz q q' hq hU=>?_];(have es:(S7 aF L bJ (0,1)).getD i []=s:=by rw[bR,hs];rfl);have cp:=xG C h0;unfold WV at cp;rw[oB] at cp;obtain⟨c,hc,iz⟩:=ju.mp (cp.mem_iff.mpr (dy.mpr (by rw[<-hl,<-sh.1];exact(aQ.mp hs).1)));obtain⟨j,hj⟩:=bz hc;obtain⟨g,hg⟩:=bz iz;obtain⟨ss,pb,pk1⟩:=Xh j c hj;have rs:=yo rh sl (f:=vl M) (no:=(0,1)) (v0 M) hj pb hg;rwa [es,pk1.gv M (pH (c20 c hc) hd) hM g (aQ.mp hg).1,NAP.Sb hg] at rs;refine NAP.fold_all (P:=λp=>Yh p/\0<=p.1/\p.2∣232792560/\Bd 330 p.1) (no:=(0,1)) #[#[Γ,Γ],Γ,Γ,by show(0:Int).natAbs<_;exact wT Γ] ((L.zip bJ).flatMap λx=>Uv aF x.1 x.2) (SY aF (0,1)) (λt ht=>?_) (λr hr a ha=>?_);obtain⟨u,hu,hu2⟩:=ju.mp ht;obtain⟨i,hi⟩:=bz hu;obtain⟨z1,z2⟩:=(bP (z:=u)).mp hi;obtain⟨_,_,_,_,z3,_⟩:=mR (rh.nd u.1 (aK z1)).1 hu2;obtain⟨a,b,d,e⟩:=(pk i u.1 u.2 z1 z2).ok _ (bY z3).2;exact#[a,b,pH d (c20 u.1 (aK z1)),e];unfold SY at hr;obtain⟨x,_,rfl⟩:=aU.mp hr;rw[z8 ha];exact#[#[Γ,Γ],Γ,Γ,by show(0:Int).natAbs<_;exact wT Γ];obtain⟨i,c,p,hc,hp,iz,hU⟩:=lk.of_hand lo C h0 (by rw[<-lk.len];exact(aQ.mp hq).1);rw[hq] at hU;cases hU;obtain⟨t,ht⟩:=bz iz;obtain⟨ss,pb,pk1⟩:=Xh i c hc;have tk:=pk1.tk M (pH (c20 c (aK hc)) hd) hM t (aQ.mp ht).1;rw[<-KI rh sl (no:=(0,1)) (v0 M) hc pb ht] at tk;obtain⟨l1,l2⟩:=lo.at_ i c q hc hp;refine#[l1,?_];(have n0:0<c.1.length:=by have:=(C.crowdP hm hw (aK hc)).n0;assumption);refine kS (a:=c.1.length) (NAG.gl28 n0) ?_;have eb:US M (R7 aF (S7 aF L bJ (0,1))) h=bagF (vl M) (ZU aF (S7 aF L bJ (0,1))) h:=rfl;rw[eb,ee q.2,tk];(have:q.1*M*c.1.length=q.1*c.1.length*M:=by grind);rw[this,l2];grind;(have bnd:∀t∈(L.zip bJ).flatMap λx=>Uv aF x.1 x.2,t.1<aF.length/\t.2.1<(So aF t.1).length:=λt ht=>by obtain⟨u,hu,hu2⟩:=ju.mp ht;have hc:=rh.nd u.1 (bY hu).1;obtain⟨_,_,x,hd,_,z1,_,z3,z4,z5⟩:=mR hc.1 hu2;rw[z4,z5];exact#[hc.2.2 x (aK z1),fV z3]);(have er:So aF i=r:=by unfold So;rw[bR,hr];rfl);(have ep:NAP.YR (0,1) (S7 aF L bJ (0,1)) i k=p:=by unfold NAP.YR;rw[show(S7 aF L bJ (0,1)).getD i []=s by rw[bR,hs];rfl,bR,hp];rfl);rcases KN (no:=(0,1)) _ (SY aF (0,1)) (yi aF (0,1)) bnd i k with z | ⟨t,ht,t1,t2,t3⟩;(have:NAP.YR ((0:Int),(1:Int)) (SY aF (0,1)) i k=(0,1):=by unfold NAP.YR SY;rw[bR (l:=aF.map _),bo,hr];show(bf r.length ((0:Int),(1:Int))).getD k (0,1)=_;rw[bR,mj];split<;>rfl);unfold S7 at ep;rw[z,this] at ep;rw[<-ep] at pos;exact absurd pos Γ;obtain⟨u,hu,hu2⟩:=ju.mp ht;obtain⟨j,hj⟩:=bz hu;obtain⟨z1,z2⟩:=(bP (z:=u)).mp hj;obtain⟨g,pp,x,hd,_,y1,y2,y3,y4,y5⟩:=mR (rh.nd u.1 (aK z1)).1 hu2;rw[t1] at y4;subst y4;(have ek:hd=h:=by rw[t2,er] at y5;rw[er] at y3;(have q1:r[r.idxOf hd]?=se hd:=by rw[aT (fV y3)];simp);rw[<-y5,hh] at q1;exact(dX q1).symm);subst ek;(have M0:0<Yy ps:=Ch λp dJ=>by obtain⟨a,ha⟩:=bz dJ;have hal:=(aQ.mp ha).1;rw[lo.len] at hal;exact(lo.at_ a _ p (aT hal) ha).1.1);have S:=lk.sol lo C h0 wp M0 λp dJ=>ry dJ;obtain⟨j2,d,jle,hd2,hin2⟩:=S.up j u.1 z1 i (aK y1) h' (by rwa [er]);(have dv:∀g q,qs[g]?=se q->Yh q/\q.2∣Yy ps:=λg q hg=>by obtain⟨a,c,p,b1,b2,b3,b4⟩:=lk.of_hand lo C h0 (by rw[<-lk.len];exact(aQ.mp hg).1);rw[hg] at b4;cases b4;exact#[(lo.at_ a c q b1 b2).1,ry (aK b2)]);obtain⟨q1,q2⟩:=dv hd q hq;obtain⟨q3,q4⟩:=dv h' q' hU;exact Jh M0 q1.1 q3.1 (xH hq q2) (xH hU q4) (S.falls (j-j2) j2 hd2 (by rwa [show j2+(j-j2)=j by simp_all]) h' hin2 hd (aK y2))
end NAM
namespace NAY
open PySem NAL NAL.EX NAL.RX NAM
section
variable {h h':TH}{i:Nat}{ws:xae}{aF:xab}{c:NAP.Cr}
theorem Dz {γ δ:Type}{emb:δ->D}{P:γ->δ->Prop}{l:List γ}{g:γ->D}{nx:Nx}{fi:RI}{fg:RG}{fa:RE}{ρ:R4}{N:List Q7}{n:Nat}{fr:xaf}{b:Bool}(he:fi ρ h=.ok nx h')(hx:∀i,nx h' i=se ((l.map g)[i]?))(hl:l.length<1000)(hs:∀a∈l,∃ ρ1 x,fg (g a) (bf n ng++Zf ρ fr)=se ρ1/\fa ρ1 h'=.ok (emb x) h'/\P a x) :∃xs:List δ,UJ N b fi n fr fg Si fa ρ h=mk b (xs.map emb) h'/\xs.length=l.length/\∀(i:Nat) a x,l[i]?=se a->xs[i]?=se x->P a x:=by cases l with| nil=>exact#[[],u9 (v:=λ_=>.non) he hx hl λa ha=>(by cases ha),rfl,λi a x z=>by simp at z]| cons a0 l =>obtain⟨_,x0,_⟩:=hs a0 (.head _);(have:∃v:γ->δ,∀a∈a0::l,∃ ρ1,fg (g a) (bf n ng++Zf ρ fr)=se ρ1/\fa ρ1 h'=.ok (emb (v a)) h'/\P a (v a):=by(have K:∀a,∃x,a∈a0::l->∃ ρ1,fg (g a) (bf n ng++Zf ρ fr)=se ρ1/\fa ρ1 h'=.ok (emb x) h'/\P a x:=λa=>by by_cases m:a∈a0::l;obtain⟨ρ1,x,q⟩:=hs a m;exact#[x,λ_=>#[ρ1,q]];exact#[x0,λz=>absurd z m]);exact#[λa=>Classical.choose (K a),λa ha=>Classical.choose_spec (K a) ha]);obtain⟨v,hv⟩:=this;refine#[(a0::l).map v,?_,by rw[bn],λi a x h1 h2=>?_];rw[cB];exact u9 he hx hl λa ha=>let #[ρ1,e1,e2,_]:=hv a ha;#[ρ1,e1,e2];rw[bo,h1] at h2;cases h2;obtain⟨_,_,_,z⟩:=hv a (aK h1);exact z
theorem KP (cl:Cl h)(A:ZQ ws aF)(pc:Zk ws aF c):∃ss:xac,Vz [.lst (ws.map .int),.lst (aF.map Rq),YZ c] h=.ok (.lst (ss.map SA)) h/\ZW ws aF c ss:=by have hl:=pc.hl;have ka:=pc.cl;have n0:=pc.n0;obtain⟨ac,ab,aa,q,D,db⟩:=Dr cl A pc.nd hl ka pc.ci;obtain⟨e1,e2,e3,e4⟩:=KL pc A.pos D;(have sb:∀s∈ac,Bd 330 s:=λs hs=>by obtain⟨k,hk⟩:=bz hs;have jW:=(aQ.mp hk).1;have ht:(RV aF c.1 c.2)[k]?=se ((RV aF c.1 c.2)[k]' Β):=aT _;generalize(RV aF c.1 c.2)[k]'(by rwa [<-e1])=tp at ht;obtain⟨x,hd,z1,z2,_⟩:=(jN pc.nd tp.1 tp.2).mp (aK ht);(have gl:(Rx ws c.1 c.2).length=c.2.length:=by unfold Rx;rw[bn]);(have tl:(takesIn ws c.1 c.2).length=c.1.length:=by unfold takesIn;rw[n6]);have l1:=(aQ.mp z1).1;have kP:=Ci D.flow.nn (show(Su (Rx ws c.1 c.2).length (takesIn ws c.1 c.2).length (RV aF c.1 c.2)).ends[k]?=se (tp.1,(Rx ws c.1 c.2).length+tp.2)by rw[rO,bo,ht];rfl) hk;have lN:=(D.flow.load_le (by show tp.1<_+_;rw[gl,tl];exact NAG.gl91 l1)).1;rw[xC (by rwa [gl])] at lN;(have gv:(Rx ws c.1 c.2).getD tp.1 0=ws.getD x 0*c.1.length:=by unfold Rx;rw[bR,bo,z1];rfl);have s0:=e2 s hs;refine(((A.bd _ (aK (NAM.getD_at (pc.ci x (aK z1))))).mul (show Bd 6 c.1.length by show _<_;lia)).le Γ).of_le ?_;rw[gv] at lN;dsimp only at kP;lia);have tl:=rr (ag:=c.1) (ad:=c.2) A.row c.2.length;(have sl:ac.length<=400:=by rw[e1];unfold RV;lia);(obtain⟨ss,qc,ssl,sp⟩:=Dz (h:=h) (P:=λs p=>Yh p/\p.1*c.1.length=s*p.2) (fi:=Td (rV 3)) (fg:=rN 0) (fa:=RW W9 (Q2 (rV 0) (Q2 (RW R3 (Q2 (Rk (rV 1) [Α,0]) Q6)) Q6))) (ρ:=[se (.lst (ws.map .int)),se (.lst (aF.map Rq)),se (YZ c),se (.lst (ac.map .int))]) (n:=1) (fr:=[2]) rfl c9 (by lia) λs hs=>by obtain⟨p,qp,lp,ep⟩:=Kv (NAG.gl28 n0) ((show Bd 6 c.1.length by show _<_;lia).le Γ);exact#[[se (.int s),se (YZ c)],p,rfl,aJ (aH rfl (aH (aJ (aH rfl rfl) dY) rfl)) qp,lp,ep]);exact#[ss,a8 rfl (sA (aG (aJ (aH rfl (aH rfl (aH rfl rfl))) q) rfl rfl) (sR qc (bF rfl))),KM pc sb e1 e2 e3 e4 (by assumption) λk p s hp hs=>sp k s p hs hp]
end
section
variable {h:TH}{i:Nat}{aF:xab}{c:NAP.Cr}{α:Type}{emb:α->D}{R:List (List α)}
noncomputable def Yt (emb:α->D) (ss:List α):D:=.lst (ss.map emb)
noncomputable def hR (emb:α->D) (h:TH) (R:List (List α)):TH:=h++R.map λrow=>.ml (row.map emb)
theorem vq (e:R[x]?=se row):(hR emb h R)[h.length+x]?=se (.ml (row.map emb)):=by unfold hR;rw[fW Β,show h.length+x-h.length=x by simp_all,bo,e];rfl
theorem DC:(hR emb h R).set (h.length+x) (.ml (row.map emb))=hR emb h (R.set x row):=by grind[hR,pK,pQ]
theorem KQ (c:Cl h)(he:∀n a,cd n 8 (emb a)):Cl (hR emb h R):=λo ho=>by unfold hR at ho ⊢;rw[dW];rcases c8.mp ho with ho | ho;exact oG (by exact ku ..) (c o ho);obtain⟨row,_,rfl⟩:=aU.mp ho;intro d hd;obtain⟨a,_,rfl⟩:=aU.mp hd;exact CI (k:=1) 8 (he _ a)
theorem DD:∀m i h,(∀r∈aF,r.length<=20)->i<=aF.length->aF.length<i+m->Y3 (VS (.lst (aF.map Rq))) (rN 0) Si (Rp (Uq tj) (Sj ff (Q2 (rV 1) Q6)) (RW R3 (Q2 (rV 0) Q6))) [ng,se no] m i h=.ok ((aR (aF.length-i)).map λk=>.at (h.length+k)) (h++(aF.drop i).map λr=>.ml (bf r.length no))| 0,i,h,_,h1,h2=>absurd h2 (by simp[*])| m+1,i,h,rl,h1,h2=>by rw[qe,c9,bo];by_cases lt:i<aF.length;have e0:=aT lt;rw[e0];have rl0:=rl _ (aK e0);have ih:=DD (no:=no) m (i+1) (h++[.ml (bf aF[i].length no)]) rl lt (NAG.gl13 h2);have mo:=mul_one (h:=h) (m:=tj) (x:=no) (NAG.gl15 rl0);have e1:Rp (Uq tj) (Sj ff (Q2 (rV 1) Q6)) (RW R3 (Q2 (rV 0) Q6)) [se (Rq aF[i]),se no] h=.ok (.at h.length) (h++[.ml (bf aF[i].length no)]):=aG (kG (aH rfl rfl) rfl) (aJ (aH rfl rfl) dY) (mo.trans (by show RX.R.ok (D.at (hn h)) (hp h _)=_;rw[fM,fO]));show R.bnd (R.nox (Rp (Uq tj) (Sj ff (Q2 (rV 1) Q6)) (RW R3 (Q2 (rV 0) Q6)) [se (Rq aF[i]),se no] h)) _=_;rw[e1];show R.bnd (Y3 (VS (.lst (aF.map Rq))) (rN 0) Si (Rp (Uq tj) (Sj ff (Q2 (rV 1) Q6)) (RW R3 (Q2 (rV 0) Q6))) [ng,se no] m (i+1) (h++[.ml (bf aF[i].length no)])) _=_;rw[ih];show R.ok (D.at h.length::_) _=_;rw[show aF.length-i=(aF.length-(i+1))+1 from NAG.gl14 lt,pJ,be,cB,fY,ui lt,be];grind[cz];simp_all
theorem KR:∀{l:xaf} {x:Nat},x∈l->YG (x:Int) (l.map λn:Nat=>(n:Int))=se (l.idxOf x):=by intro l;induction l with| nil =>rintro x h;cases h| cons y l ih =>rintro x h;show(bif ZD y x then se 0 else Uz (YG x (l.map λn:Nat=>n)) iU)=_;rw[kE,List.idxOf_cons];by_cases c:y=x;simp_all;(have hx:x∈l:=by grind);rw[Q1 (show ¬(y:Int)=x by lia),ih hx,show(y==x)=ff from beq_eq_false_iff_ne.mpr c];rfl
theorem KS {x:Nat}(z1:fa ρ h=.ok (Rq l) h)(z2:fA ρ h=.ok [.int x] h)(m:x∈l):rIdx fa fA ρ h=.ok (.int (l.idxOf x)) h:=by unfold rIdx;rw[z1];show R.bnd (fA ρ h) _=_;rw[z2];show Rz (RB X8 (l.map nD)) _=_;rw[show l.map nD=(l.map λn:Nat=>(n:Int)).map D.int by rw[cB];rfl,yd];grind[Rz,YG,KR]
theorem KT (c:Cl h)(he:∀n a,cd n 7 (emb a)):trunc h.length (.lst ((aR R.length).map λk=>.at (h.length+k))) (hR emb h R)=.ok (.lst (R.map (Yt emb))) h:=by by_cases z:R=[];subst z;unfold hR;rw[kZ,mw];exact bF rfl;(have e1:fz (hR emb h R) h.length 9 (.lst ((aR R.length).map λk=>.at (h.length+k)))=se (.lst (R.map (Yt emb))):=by show Uz (RB (fz (hR emb h R) h.length 8) _) D.lst=_;rw[show R.map (Yt emb)=(aR R.length).map λk=>Yt emb (R.getD k [])from by apply i7;intro i;rw[bo,bo];by_cases hi:i<R.length;rw[ko hi,aT hi];simp[gU,aT hi];rw[fh Β,fh Β];rfl];rw[lr λk hk=>?_];rfl;have hk:=dy.mp hk;(have hr:R[k]?=se (R.getD k []):=by rw[bR,aT hk];rfl);show(bif bH (h.length+k) h.length then se (D.at (h.length+k))else match eg (hR emb h R) (h.length+k)with| some (.ml ds)=>Uz (RB (fz (hR emb h R) h.length 7) ds) .lst| _=>ng)=_;rw[show bH (h.length+k) h.length=ff from e9.mpr λy=>by have:=cD.mp y;lia,aW,vq hr];show Uz (RB (fz (hR emb h R) h.length 7) ((R.getD k []).map emb)) D.lst=_;rw[jP λx hx=>by obtain⟨a,_,rfl⟩:=aU.mp hx;exact iF 7 (he _ a)];rfl);exact u8 c e1 Β
theorem oO {g:γ->D}{l:List β}(i:Nat):nZp [.lst (l.map f),.lst (m.map g)] h i=se (((l.zip m).map λp=>D.tup [f p.1,g p.2])[i]?):=by rw[CN,Ds]
theorem KU (cl:Cl h)(he:∀n a,cd n 7 (emb a))(dfew:aF.length<=20)(pB:∀r∈aF,r.length<=20)(lF:L.length<=20)(lok:∀c∈L,c.1.Nodup/\c.1.length<=20/\c.2.length<=20/\∀x∈c.2,x<aF.length)(sl:bJ.length=L.length)(sok:∀(i:Nat) c ss,L[i]?=se c->bJ[i]?=se ss->ss.length=(RV aF c.1 c.2).length) :WN [.lst (aF.map Rq),.lst (L.map YZ),.lst (bJ.map (Yt emb)),emb no] h=.ok (.lst ((S7 aF L bJ no).map (Yt emb))) h:=by refine a8 rfl (sA (d:=.lst ((aR aF.length).map λk=>.at (h.length+k))) ?_ (sL (fq (λi ρ h1=>∃t5 t6 t7 t8 t9,ρ=[se (.lst (aF.map Rq)),se (.lst (L.map YZ)),se (.lst (bJ.map (Yt emb))),se (emb no),se (.lst ((aR aF.length).map λk=>.at (h.length+k))),t5,t6,t7,t8,t9]/\NAP.Z9 aF.length (λx=>(So aF x).length) ((((L.zip bJ).take i).flatMap λx=>Uv aF x.1 x.2).foldl NAP.Ub (SY aF no))/\hR emb h ((((L.zip bJ).take i).flatMap λx=>Uv aF x.1 x.2).foldl NAP.Ub (SY aF no))=h1) (oL rfl rfl) (λi ρ h _=>oO i) (by rw[kY];exact NAG.gl17 lF) #[_,_,_,_,_,rfl,yi aF no,rfl] ?_) ?_));show R.bnd (Y3 (VS (.lst (aF.map Rq))) (rN 0) Si _ [ng,se (emb no)] 1000 0 h) _=_;rw[DD 1000 0 h pB (iT _) (NAG.gl18 dfew)];show R.ok _ _=R.ok _ _;simp[hR,SY];rintro i ⟨c,ss⟩ ρ h1 hp ⟨t5,t6,t7,t8,t9,rfl,sh,rfl⟩;obtain⟨hc,hs⟩:=bP.mp hp;obtain⟨hnd,hl20,cl20,cin⟩:=lok c (aK hc);have tl:=rr (ag:=c.1) (ad:=c.2) pB c.2.length;(have ef:(((L.zip bJ).take (i+1)).flatMap λx=>Uv aF x.1 x.2).foldl NAP.Ub (SY aF no)=(Uv aF c ss).foldl NAP.Ub ((((L.zip bJ).take i).flatMap λx=>Uv aF x.1 x.2).foldl NAP.Ub (SY aF no)):=by rw[take_snoc hp,wC,wJ];simp);rw[ef];generalize(((L.zip bJ).take i).flatMap λx=>Uv aF x.1 x.2).foldl NAP.Ub (SY aF no)=R0 at sh ⊢;refine#[_,by unfold WH;rfl,?_];(have tln:((RV aF c.1 c.2).zip ss).length=(Uv aF c ss).length:=by unfold Uv;rw[bn]);obtain⟨ρ2,h2,q2,t7',t8',t9',rfl,sh2,cN⟩:=fq (f:=Xl) (ρ:=[se (.lst (aF.map Rq)),se (.lst (L.map YZ)),se (.lst (bJ.map (Yt emb))),se (emb no),se (.lst ((aR aF.length).map λk=>.at (h.length+k))),se (YZ c),se (Yt emb ss),t7,t8,t9]) (λj ρ h2=>∃t7 t8 t9,ρ=[se (.lst (aF.map Rq)),se (.lst (L.map YZ)),se (.lst (bJ.map (Yt emb))),se (emb no),se (.lst ((aR aF.length).map λk=>.at (h.length+k))),se (YZ c),se (Yt emb ss),t7,t8,t9]/\NAP.Z9 aF.length (λx=>(So aF x).length) (((Uv aF c ss).take j).foldl NAP.Ub R0)/\hR emb h (((Uv aF c ss).take j).foldl NAP.Ub R0)=h2) (fg:=WH 7 8) (fi:=Z2 (RW VW (Q2 (rV 0) (Q2 (rV 5) Q6))) (rV 6)) (oL (aJ rfl (Dq (KQ cl λn a=>CI (k:=1) 7 (he n a)) hnd hl20 cl20 pB cin)) rfl) (λi ρ h _=>oO i) (by rw[kY];unfold RV;lia) #[t7,t8,t9,rfl,sh,rfl] (by rintro j ⟨tp,am⟩ ρ h2 hq ⟨t7,t8,t9,rfl,sh1,rfl⟩;obtain⟨ht1,ha1⟩:=bP.mp hq;obtain⟨x0,h0,hx0,hh0,iz⟩:=(jN hnd tp.1 tp.2).mp (aK ht1);have xlt:=cin x0 (aK hx0);(have htr:(Uv aF c ss)[j]?=se (x0,(So aF x0).idxOf h0,am):=by unfold Uv;rw[bo,hq];show se (c.2.getD tp.1 0,(So aF (c.2.getD tp.1 0)).idxOf (c.1.getD tp.2 0),am)=_;rw[NAP.Sb hx0,NAP.Sb hh0]);rw[take_snoc htr,wJ];generalize((Uv aF c ss).take j).foldl NAP.Ub R0=R1 at sh1 ⊢;(have r1:R1[x0]?=se (R1.getD x0 []):=by simp[bR,sh1.1,xlt]);refine#[_,by unfold WH;rfl,nA (f8 (aG rfl rfl rfl) (aG rfl rfl rfl) hx0) (nE (rJ rfl (f8 (g:=λk=>.at (h.length+k)) rfl rfl (ko xlt)) (KS (f8 rfl rfl (by simp[*])) (aH (f8 (g:=nD) (aG rfl rfl rfl) (aG rfl rfl rfl) hh0) rfl) iz) (vq r1) (by rw[bn,sh1.2 x0 xlt];exact fV iz)) #[_,_,_,rfl,sh1.put xlt,?_])];rw[<-pQ,DC];rfl);rw[tln,dP (bE _)] at sh2 cN;exact nE q2 #[_,_,_,_,_,rfl,sh2,cN];rintro ρ h1 ⟨t5,t6,t7,t8,t9,rfl,sh,rfl⟩;rw[dP (bE _)] at sh ⊢;rw[<-sh.1];exact KT cl he
end
end NAY
namespace NAL.EX
open PySem PyProof.Rows
section
end
section
end
section
end
end NAL.EX
namespace NAM
open PySem NAL NAL.EX
noncomputable def M0:Int:=232792560
theorem eJ:0<M0:=Γ
theorem DE:Bd 600 M0:=by(have:Bd 28 M0:=by show _<_;decide);exact this.le Γ
structure YJ (aF:xab)(ae:Nat)(R:xaa):Prop where
 sh:ShOk M0 aF ae R
 nn:∀s∈R,∀p∈s,0<=p.1
 nd:∀r∈aF,r.Nodup
 m20:ae<=20
noncomputable def RY (L:List (Nat×(xag))) (h:Nat):xac:=(L.filter λx=>x.1==h).map (·.2)
theorem KV (L:List (Nat×(xag)))(g:Nat)(p:xag)(h:Nat):RY (L++[(g,p)]) h=RY L h++(if g=h then[p]else[]):=by unfold RY;rw[mn,cV];congr 1;by_cases c:g=h<;>simp[c]
theorem KW (M:Int)(L:List (Nat×(xag)))(h:Nat):((RY L h).map (vl M)).sum=US M L h:=by unfold RY US;induction L with| nil=>rfl| cons x r ih =>rw[be,bL,<-ih,jH];by_cases c:x.1=h;rw[QY c,QY (by simpa using c),be,be,bL];rw[QX c,QX (by simp_all),nY]
theorem KY (hp:p∈RY L h):(h,p)∈L:=by unfold RY at hp;simp_all
theorem DF (L L':List (Nat×(xag)))(h:Nat):RY (L++L') h=RY L h++RY L' h:=by unfold RY;simp_all
theorem DG (h:Nat):∀(r:xaf) s,h∉r->RY (r.zip s) h=[]| [],s,_=>rfl| x::r,[],_=>rfl| x::r,p::s,hn=>by have ne:x≠h:=λz=>hn (z▸aO);unfold RY at *;rw[iB,jH,QX Β];exact DG h r s (λz=>hn (a7 _ z))
theorem DH (h:Nat):∀(r:xaf) s,r.Nodup->(RY (r.zip s) h).length<=1| [],s,_=>by show 0<=1;simp_all| x::r,[],_=>by show 0<=1;simp_all| x::r,p::s,nd=>by obtain⟨n1,n2⟩:=eG.mp nd;have ih:=DH h r s n2;by_cases c:x=h;have e:=DG h r s (c▸n1);unfold RY at *;rw[iB,jH,QY (by simpa using c),be,e];exact Nat.succ_pos _;unfold RY at *;simp_all
theorem DI (ok:YJ aF ae R)(h:Nat):∀i:Nat,i<=aF.length->(RY (R7 (aF.take i) (R.take i)) h).length<=i:=by intro i;induction i with| zero =>rintro _;exact iT _| succ i ih =>rintro hi;have hr:aF[i]?=se (aF[i]'(by assumption)):=aT _;have hs:R[i]?=se (R[i]'(by rw[ok.sh.len];assumption)):=aT _;rw[Dv hr hs,DF,dW];have:=ih (by exact eI hi);have:=DH h _ (R[i]'(by grind)) (ok.nd _ (aK hr));lia
theorem KZ {aF:xab}{ae:Nat}{R:xaa}(ok:YJ aF ae R)(h:Nat):FVs M0 (RY (R7 aF R) h) ((RY (R7 aF R) h).map (vl M0)):=by have fw:=DI ok h aF.length (bE _);rw[dP (bE _),dP (by rw[ok.sh.len];exact bE _)] at fw;have few:=ok.sh.few;(have mem:∀p∈RY (R7 aF R) h,Yh p/\p.2∣M0/\Bd 600 p.1:=λp hp=>by have m:=KY hp;unfold R7 at m;obtain⟨x,hx,hm⟩:=ju.mp m;exact ok.sh.ok x.2 (bY (a:=x.1) (b:=x.2) hx).2 p (bY hm).2);refine#[by rw[bn],λi p X hp hX=>?_,eJ,DE,λX hX=>?_,by rw[bn];lia];rw[bo,hp] at hX;cases hX;obtain⟨lo,d,b⟩:=mem p (aK hp);refine#[lo,?_];rw[<-xI d,eE];obtain⟨p,hp,rfl⟩:=aU.mp hX;obtain⟨lo,d,b⟩:=mem p hp;unfold vl Bd;rw[kj];have b1:p.1.natAbs<2^600:=b;(have b2:(M0/p.2).natAbs<=2^28:=by have:=Int.natAbs_ediv_le_natAbs M0 p.2;exact bW this Γ);have h3:p.1.natAbs*(M0/p.2).natAbs<=2^600*2^28:=Nat.mul_le_mul (eI b1) b2;exact k6 h3 (by rw[<-wR];exact Nat.pow_lt_pow_right Γ Γ)
theorem YJ.of_even {qs:xac}(e:EvenR ws aF ae R qs)(ro:WX ws.length ae aF)(h12:ae<=12)(few:aF.length<=20):YJ aF ae R:=by refine#[#[e.len,few,λi r s hr hs=>?_,λs hs p hp=>?_,eJ,DE],λs hs p hp=>(e.ok s hs p hp).2.1,λr hr=>(ro.2 r hr).2.1.imp λh=>cF h,NAG.gl6 h12];obtain⟨_,rise,lt⟩:=ro.2 r (aK hr);exact#[e.row i r s hr hs,bW (kD rise lt) h12,lt];obtain⟨a,b,c,d⟩:=e.ok s hs p hp;exact#[a,c,d.le Γ]
theorem LdB.uniq {qs rs:xac}(hM:0<M)(a:LdB M L qs)(b:LdB M L rs)(hl:qs.length=rs.length):qs=rs:=by refine i7 λi=>?_;cases h:qs[i]? with| none =>simp_all| some q =>have hi:=(aQ.mp h).1;have h2:rs[i]?=se (rs[i]' Β):=aT _;rw[h2];obtain⟨a1,a2⟩:=a i q h;obtain⟨b1,b2⟩:=b i _ h2;have fa:FV M q (US M L i):=#[a1,a2];rw[fa.uniq hM #[b1,b2]]
end NAM
namespace NAY
open PySem NAL NAL.EX NAL.RX NAM
section
variable {h h' t:TH}{i ae:Nat}{aF:xab}{c:NAP.Cr}{R:xaa}
theorem DJ:∀m i h,i<=n->n<i+m->Y3 (nRg n) (rN 0) Si (Sj tj Q6) [ng] m i h=.ok ((aR (n-i)).map λk=>.at (h.length+k)) (h++bf (n-i) (.ml []))| 0,i,h,h1,h2=>absurd h2 (by simp[*])| m+1,i,h,h1,h2=>by rw[qe,rE,bo];by_cases lt:i<n;rw[ko lt];have ih:=DJ m (i+1) (h++[.ml []]) lt (NAG.gl13 h2);show R.bnd (Y3 (nRg n) (rN 0) Si (Sj tj Q6) [ng] m (i+1) (hp h (.ml []))) (λys h'=>.ok (D.at (hn h)::ys) h')=_;rw[fO,ih,fM];show R.ok (D.at h.length::_) _=_;rw[show n-i=(n-(i+1))+1 from NAG.gl14 lt,n9,pJ,be,cB,fY];grind[cz];simp_all
theorem K0 (f:FVs M ps Xs)(ha:h[a]?=se (.ml (ps.map SA))):∃p,Vk [.at a] h=.ok (SA p) h/\FV M p Xs.sum:=by have few:=f.few;have fl:=f.len;(have nx:∀i,VS (.at a) h i=se ((ps.map SA)[i]?):=λi=>by show Uz (eS h (.at a)) _=_;unfold eS;dsimp only;rw[aW,ha];show se (eg _ i)=_;rw[aW]);obtain⟨ρ2,h2,q2,r,t,rfl,rfl,fv⟩:=fq (f:=VP) (fg:=rN 2) (fi:=Td (rV 0)) (λi ρ h1=>∃(r:xag) (t:Option D),ρ=[se (.at a),se (SA r),t]/\h=h1/\FV M r (Xs.take i).sum) (JI rfl ha) (λi ρ h2 I=>by obtain⟨_,_,_,e,_⟩:=I;rw[<-e];exact nx i) (NAG.gl25 fl few) #[(0,1),ng,rfl,rfl,FV.zero] (λi pp ρ h1 hpp I=>by obtain⟨r,t,rfl,rfl,fv⟩:=I;obtain⟨X,hX,fX,bX⟩:=f.get hpp;obtain⟨b1,b2⟩:=fv.bd f.hM f.bM ((Ks f.bX (NAG.gl7 few) i).le Γ);obtain⟨b3,b4⟩:=fX.bd f.hM f.bM (bX.le Γ);obtain⟨s,qs,ls,es⟩:=Kw fv.1 fX.1 (b1.le Γ) (b2.le Γ) (b3.le Γ) (b4.le Γ);refine#[_,rfl,nE (jb (aJ (aH rfl (aH rfl rfl)) qs) rfl) #[s,_,rfl,rfl,?_]];rw[take_snoc hX,Kr];exact fv.plus fX ls.1 ls.2 es);rw[dP Β] at fv;exact#[r,a8 rfl (sA rfl (sG q2 (sR rfl (bF rfl)))),fv]
theorem kH:cd n (m+2) (SA p):=by intro d hd;simp only[bj,gM,or_false] at hd;rcases hd with rfl | rfl<;>trivial
theorem K1 (d:α){P:Nat->α->Prop}(n:Nat)(H:∀x,x<n->∃q,P x q):∃qs:List α,qs.length=n/\∀x,x<n->P x (qs.getD x d):=by induction n with| zero=>exact#[[],rfl,λx hx=>absurd hx (k7 _)]| succ n ih =>obtain⟨qs,l,p⟩:=ih λx hx=>H x (by exact ig hx);obtain⟨q,hq⟩:=H n (by simp_all);refine#[qs ++ [q],by simp[l],λx hx=>?_];by_cases e:x=n;subst e l;simpa [bR] using hq;have:=p x (NAG.gl67 hx e);rw[bR] at this ⊢;rwa [iA (by lia)]
theorem DK (cl:Cl h)(ok:YJ aF ae R):∃qs:xac,Tk [.lst (aF.map Rq),.int ae,.lst (R.map (Yt SA))] h=.ok (.lst (qs.map SA)) h/\qs.length=ae/\LdB M0 (R7 aF R) qs:=by have len:=ok.sh.len;have few:=ok.sh.few;have m20:=ok.m20;obtain⟨qs,ql,qp⟩:=K1 (0,1) ae λx hx=>K0 (KZ ok x) (vq (oy (λx=>RY (R7 aF R) x) hx));refine#[qs,a8 rfl (sA ?_ (sL (fq (λi ρ h1=>∃t4 t5 t6 t7:Option D,ρ=[se (.lst (aF.map Rq)),se (.int ae),se (.lst (R.map (Yt SA))),se (.lst ((aR ae).map λk=>.at (h.length+k))),t4,t5,t6,t7]/\hR SA h ((aR ae).map λx=>RY (R7 (aF.take i) (R.take i)) x)=h1) (oL rfl rfl) (λi ρ h _=>oO i) (by rw[kY];exact NAG.gl17 few) #[_,_,_,_,rfl,rfl] ?_) ?_)),ql,λx q hq=>?_];show Wq ff (rIr (Q2 (rV 1) Q6)) 1 [] (rN 0) Si (Sj tj Q6) _ h=_;unfold Wq;rw[rH rfl (NAG.gl59 m20)];show RX.R.bnd (Y3 (nRg ae) (rN 0) Si (Sj tj Q6) [ng] 1000 0 h) _=_;rw[DJ 1000 0 h (iT _) (NAG.gl18 m20)];show RX.R.ok _ _=RX.R.ok _ _;simp[hR,R7,RY,Function.comp_def,Ay];rintro i ⟨r,s⟩ ρ h1 hp ⟨t4,t5,t6,t7,rfl,rfl⟩;obtain⟨nq,eY⟩:=bP.mp hp;dsimp only at nq eY;obtain⟨sr,rlen,rlt⟩:=ok.sh.row i r s nq eY;have il:=(aQ.mp nq).1;(have ef:R7 (aF.take (i+1)) (R.take (i+1))=R7 (aF.take i) (R.take i)++r.zip s:=by unfold R7;rw[take_snoc nq,take_snoc eY,mB (by rw[i8,i8];simp_all),wC];simp);refine#[_,by unfold WH;rfl,?_];obtain⟨ρ2,h2,q2,t6',t7',rfl,cN⟩:=fq (f:=UY) (h:=hR SA h ((aR ae).map λx=>RY (R7 (aF.take i) (R.take i)) x)) (fg:=WH 6 7) (fi:=Z2 (rV 4) (rV 5)) (λj ρ h2=>∃t6 t7:Option D,ρ=[se (.lst (aF.map Rq)),se (.int ae),se (.lst (R.map (Yt SA))),se (.lst ((aR ae).map λk=>.at (h.length+k))),se (Rq r),se (Yt SA s),t6,t7]/\hR SA h ((aR ae).map λx=>RY (R7 (aF.take i) (R.take i)++(r.zip s).take j) x)=h2) (oL rfl rfl) (λi ρ h _=>oO i) (by rw[kY];lia) #[t6,t7,rfl,by simp] (by rintro j ⟨g,p⟩ ρ h2 hq ⟨t6,t7,rfl,rfl⟩;obtain⟨hg,dJ⟩:=bP.mp hq;dsimp only at hg dJ;have gl:=rlt g (aK hg);(have pl:(RY (R7 (aF.take i) (R.take i)++(r.zip s).take j) g).length<=1000:=by grind[DF,dW,DI,RY,bn,bW,eF,i8,kY]);refine#[_,by unfold WH;rfl,nE (fZ (lj (f8 (g:=λk=>.at (h.length+k)) rfl rfl (ko gl)) (vq (oy _ gl)) rfl (by rw[bn];exact NAG.gl63 pl))) #[_,_,rfl,?_]];rw[show∀l,l.map SA++[SA p]=(l++[p]).map SA fromλl=>by simp,DC,xy];congr 1;refine cz λx _=>?_;rw[take_snoc hq,<-fY,KV];by_cases c:x=g;subst c;simp;rw[QX c,QX (Ne.symm c),mw]);rw[dP (bE _)] at cN;exact nE q2 #[_,_,_,_,rfl,by rwa [ef]];rintro ρ h1 ⟨t4,t5,t6,t7,rfl,rfl⟩;rw[kY,len,Nat.min_self,dP (bE _),dP Β];exact sR (cA (eX rfl) c9 (by rw[kX];exact NAG.gl59 m20) (λx hx=>#[_,rfl,aJ rfl (qp x (dy.mp hx)).1]) (CV ql.symm)) (li cl λd hd=>by obtain⟨p,_,rfl⟩:=aU.mp hd;exact kH);have hxl:=(aQ.mp hq).1;have:=(qp x Β).2;rwa [KW,show qs.getD x (0,1)=q by simp[bR,hq]] at this
end
end NAY
namespace NAL.EX
open PySem PySem.Spec PyProof.Rows
section
end
section
end
end NAL.EX
namespace PySem
section
end
end PySem
namespace NAL.EX
open PySem PySem.Spec PyProof.Rows
section
end
section
end
end NAL.EX
namespace NAM
open PySem NAL NAL.EX
structure TN (ws:xae)(aF:xab)(ae:Nat)(R:xaa)(qs:xac):Prop where
 ev:EvenR ws aF ae R qs
 len:qs.length=ae
 ok:∀q∈qs,qb q
 rows:WX ws.length ae aF
 few:ws.length<=20
 h12:ae<=12
theorem TN.rat {qs:xac}(d:TN ws aF ae R qs):YJ aF ae R:=YJ.of_even d.ev d.rows d.h12 (by have:=d.rows.1;have:=d.few;simp_all)
theorem TN.ldb {qs:xac}(d:TN ws aF ae R qs):LdB M0 (R7 aF R) qs:=λh q hq=>d.ev.load M0 eJ (iP _) h q hq
theorem K2 (M:Int)(L L':List (Nat×(xag)))(h:Nat):US M (L++L') h=US M L h+US M L' h:=by unfold US;simp_all
theorem DL {L:List (Nat×(xag))}(nn:∀x∈L,0<=vl M0 x.2)(h:Nat):0<=US M0 L h:=by induction L with| nil=>exact dw _| cons x L ih =>show 0<=((x::L).map λx=>if x.1=h then vl M0 x.2 else 0).sum;rw[be,bL];have h1:=ih λy hy=>nn y (a7 _ hy);have h2:=nn x aO;unfold US at h1;split<;>lia
theorem yp {L:List (Nat×(xag))}{h:Nat}(z:0<US M0 L h):∃x∈L,x.1=h/\0<vl M0 x.2:=by induction L with| nil=>exact absurd z (Int.lt_irrefl _)| cons x L ih =>(have e:US M0 (x::L) h=(if x.1=h then vl M0 x.2 else 0)+US M0 L h:=by unfold US;rw[be,bL]);rw[e] at z;by_cases c:0<US M0 L h;obtain⟨y,hy,r⟩:=ih c;exact#[y,a7 _ hy,r];by_cases d:x.1=h;rw[QY d] at z;exact#[x,aO,d,by lia];rw[QX d] at z;simp_all
theorem DM (nn:∀x∈L,0<=vl M0 x.2)(hx:x∈L):vl M0 x.2<=US M0 L x.1:=by induction L with| nil=>cases hx| cons y L ih =>(have e:US M0 (y::L) x.1=(if y.1=x.1 then vl M0 y.2 else 0)+US M0 L x.1:=by unfold US;rfl);have h0:=DL (λz hz=>nn z (a7 _ hz)) x.1;grind
theorem yq {ae:Nat}:∀{L:List (Nat×(xag))},(∀x∈L,x.1<ae)->NAP.upTo (λh=>US M0 L h) ae=(L.map λx=>vl M0 x.2).sum| [],_=>NAP.Sf ae| x::L,hl=>by have ih:=yq (ae:=ae) (L:=L) λy hy=>hl y (a7 _ hy);rw[be,bL,<-ih];have e1:=NAP.Ve x.1 (vl M0 x.2) ae;rw[QY (hl x aO)] at e1;rw[<-e1,<-NAP.Vf];refine NAP.Rb λh hh=>?_;unfold US;rw[be,bL];by_cases c:x.1=h;rw[QY c,QY c.symm];rw[QX c,QX λz=>c z.symm]
noncomputable def Zn (aF:xab) (R:xaa) (i h:Nat):Int:=US M0 ((aF.getD i []).zip (R.getD i [])) h
theorem DN (hl:R.length=aF.length)(h:Nat):US M0 (R7 aF R) h=NAP.upTo (λi=>Zn aF R i h) aF.length:=by(have bD:∀n,n<=aF.length->US M0 (R7 (aF.take n) (R.take n)) h=NAP.upTo (λi=>Zn aF R i h) n:=by intro n;induction n with| zero=>intro _;rfl| succ n ih =>intro hn;have hr:aF[n]?=se (aF[n]'(by assumption)):=aT _;have hs:R[n]?=se (R[n]'(by rwa [hl])):=aT _;rw[Dv hr hs,K2,ih (by exact eI hn)];show _=NAP.upTo (λi=>Zn aF R i h) n+Zn aF R n h;unfold Zn;rw[bR,bR,hr,hs];rfl);have:=bD aF.length (bE _);rwa [dP (bE _),dP Β] at this
def XW (p:xag):Prop:=Yh p/\0<=p.1/\p.2∣M0/\Bd 330 p.1
theorem XW.vn (h:XW p):0<=vl M0 p:=jr h.2.1 (wa Γ (by have:=h.1.1;exact cy this))
theorem XW.vp (h:XW p):0<vl M0 p↔0<p.1:=by have h2:=h.2.1;constructor;intro z;by_cases c:0<p.1;exact c;unfold vl at z;lia;intro z;(have z2:0<vl M0 p*p.2:=by rw[xI h.2.2.1];exact kU z eJ);by_cases c:0<vl M0 p;exact c;(have:vl M0 p=0:=by have:=h.vn;exact NAG.gl23 this c);simp_all
theorem FV.le (a:FV M0 p X)(b:FV M0 q Y)(h:p.1*q.2<=q.1*p.2):X<=Y:=by rcases gR Y X with z | z;have:=(b.lt eJ a).mpr z;exact NAG.gl120 this h;exact z
theorem FV.el (a:FV M0 p X)(b:FV M0 q Y)(h:X<=Y):p.1*q.2<=q.1*p.2:=by rcases gR (q.1*p.2) (p.1*q.2)with z | z;have:=(b.lt eJ a).mp z;exact NAG.gl120 this h;exact z
theorem rQ {qs:xac}(d:TN ws aF ae R qs):NAP.Dl ae aF.length (λi h=>h∈aF.getD i []) (λi=>ws.getD i 0*M0) (Zn aF R) (λh=>US M0 (R7 aF R) h):=by have len:=d.ev.len;(have at_:∀i<aF.length,∃r s,aF[i]?=se r/\R[i]?=se s/\aF.getD i []=r/\R.getD i []=s:=λi hi=>Β);(have ok:∀i<aF.length,∀x∈(aF.getD i []).zip (R.getD i []),XW x.2:=λi hi x hx=>by obtain⟨r,s,hr,hs,e1,e2⟩:=at_ i hi;rw[e1,e2] at hx;exact d.ev.ok s (aK hs) x.2 (bY hx).2);refine#[λi hi h hh=>DL (λx hx=>(ok i hi x hx).vn) h,λi hi h hh z=>?_,λi hi=>?_,λh hh=>DN len h,λi hi h hh z g hg dg=>?_];obtain⟨x,hx,e,_⟩:=yp z;rw[<-e];exact(bY hx).1;obtain⟨r,s,hr,hs,e1,e2⟩:=at_ i hi;have sl:=d.ev.row i r s hr hs;(have:=yq (L:=(aF.getD i []).zip (R.getD i [])) λx hx=>by rw[e1,e2] at hx;exact(d.rows.2 r (aK hr)).2.2 x.1 (bY hx).1);show NAP.upTo (λh=>US M0 ((aF.getD i []).zip (R.getD i [])) h) ae=_;rw[this,<-d.ev.sum M0 eJ (iP _) i s hs,e1,e2];congr 1;rw[show(λx=>vl M0 x.2)=(vl M0)∘Prod.snd from rfl,<-cB,uy Β];obtain⟨x,hx,e,pv⟩:=yp z;have px:=(ok i hi x hx).vp.mp pv;obtain⟨r,s,hr,hs,e1,e2⟩:=at_ i hi;rw[e1,e2] at hx;rw[e1] at dg;obtain⟨k,hk⟩:=bz hx;obtain⟨k1,k2⟩:=(bP).mp hk;have ql:=d.len;have q1:qs[h]?=se (qs[h]' Β):=aT _;have q2:qs[g]?=se (qs[g]' Β):=aT _;exact FV.le (d.ev.load M0 eJ (iP _) h _ q1) (d.ev.load M0 eJ (iP _) g _ q2) (d.ev.even i r s hr hs k x.2 x.1 k2 k1 px g dg _ _ (by rwa [e]) q2)
noncomputable def WM (r:xaf) (o:Option xac) (qs ys:xac):Bool:=match o with| none=>ff| some row=>(r.zip row).any λx=>decide (0<x.2.1)&&decide (qs.getD x.1 (0,1)=ys.getD x.1 (0,1))
noncomputable def Xy (r:xaf) (o:Option xac) (n:xac) (qs ys:xac):xac:=if WM r o qs ys then o.getD []else n
noncomputable def VT (aF:xab) (au:List (Option xac)) (R:xaa) (qs ys:xac):xaa:=(aR aF.length).map λi=>Xy (aF.getD i []) (au.getD i ng) (R.getD i []) qs ys
structure MixOk (ws:xae)(aF:xab)(ae:Nat)(R:xaa)(qs:xac):Prop where
 len:R.length=aF.length
 row:∀(i:Nat) r s,aF[i]?=se r->R[i]?=se s->s.length=r.length
 sum:∀(i:Nat) s,R[i]?=se s->(s.map (vl M0)).sum=ws.getD i 0*M0
 ok:∀s∈R,∀p∈s,XW p
 ld:LdB M0 (R7 aF R) qs
 even:∀(i:Nat) r s,aF[i]?=se r->R[i]?=se s->∀(k:Nat) p h,s[k]?=se p->r[k]?=se h->0<p.1->∀h'∈r,∀q q',qs[h]?=se q->qs[h']?=se q'->q.1*q'.2<=q'.1*q.2
structure Zv (aF:xab)(ae:Nat)(au:List (Option xac))(ys:xac):Prop where
 len:au.length=aF.length
 row:∀(i:Nat) r o,aF[i]?=se r->au[i]?=se (se o)->o.length=r.length
 ok:∀o,se o∈au->∀p∈o,XW p
 yl:ys.length=ae
 QU:∀y∈ys,qb y
structure Fit (ws:xae)(aF:xab)(ae:Nat)(au:List (Option xac))(ys:xac):Prop where
 old:Zv aF ae au ys
 mix:∀R qs,TN ws aF ae R qs->MixOk ws aF ae (VT aF au R qs ys) qs
noncomputable def osF (aF:xab) (au:List (Option xac)) (i h:Nat):Int:=US M0 ((aF.getD i []).zip ((au.getD i ng).getD [])) h
theorem getD_at' {l:List α}(hi:i<l.length)(d:α):l[i]?=se (l.getD i d):=Β
theorem DO {qs ys:xac}(d:TN ws aF ae R qs)(O:Zv aF ae au ys) (X:NAP.Yg ae aF.length (λi h=>h∈aF.getD i []) (λi=>ws.getD i 0*M0) (Zn aF R) (osF aF au) (λh=>US M0 (R7 aF R) h) (λi=>WM (aF.getD i []) (au.getD i ng) qs ys)):MixOk ws aF ae (VT aF au R qs ys) qs:=by have len:=d.ev.len;have oln:=O.len;(have ml:(VT aF au R qs ys).length=aF.length:=by unfold VT;rw[bn,kX]);(have mg:∀i<aF.length,(VT aF au R qs ys)[i]?=se (Xy (aF.getD i []) (au.getD i ng) (R.getD i []) qs ys):=λi hi=>by unfold VT;rw[bo,ko hi];rfl);(have sS:∀i s,(VT aF au R qs ys)[i]?=se s->i<aF.length:=λi s hs=>by have:=(aQ.mp hs).1;simp_all);(have kept:∀i<aF.length,WM (aF.getD i []) (au.getD i ng) qs ys=tj->∃o,au[i]?=se (se o)/\(au.getD i ng).getD []=o:=λi hi z=>by have e:=getD_at' (show i<au.length by rwa [oln]) ng;cases ho:au.getD i ng with| none=>rw[ho] at z;cases z| some o=>rw[ho] at e;exact#[o,e,rfl]);(have lR:∀(i:Nat) r s,aF[i]?=se r->(VT aF au R qs ys)[i]?=se s->s.length=r.length/\∀p∈s,XW p:=λi r s hr hs=>by have hi:=sS i s hs;rw[mg i hi] at hs;cases hs;unfold Xy;have er:=getD_at' hi ([]);rw[hr] at er;cases er;by_cases c:WM (aF.getD i []) (au.getD i ng) qs ys=tj;rw[QY c];obtain⟨o,ho,e⟩:=kept i hi c;rw[e];exact#[O.row i _ o hr ho,O.ok o (aK ho)];rw[QX c];have es:=getD_at' (l:=R) (show i<R.length by rwa [len]) [];exact#[d.ev.row i _ _ hr es,λp hp=>d.ev.ok _ (aK es) p hp]);(have lV:∀i<aF.length,∀h,Zn aF (VT aF au R qs ys) i h=if WM (aF.getD i []) (au.getD i ng) qs ys then osF aF au i h else Zn aF R i h:=λi hi h=>by unfold Zn osF;rw[bR (l:=VT aF au R qs ys),mg i hi];show US M0 ((aF.getD i []).zip (Xy (aF.getD i []) (au.getD i ng) (R.getD i []) qs ys)) h=_;unfold Xy;split<;>rfl);(have mall:∀i r s,aF[i]?=se r->(VT aF au R qs ys)[i]?=se s->NAP.upTo (λh=>Zn aF (VT aF au R qs ys) i h) ae=(s.map (vl M0)).sum:=λi r s hr hs=>by have hi:=sS i s hs;(have er:aF.getD i []=r:=by rw[bR,hr];rfl);(have es:(VT aF au R qs ys).getD i []=s:=by rw[bR,hs];rfl);unfold Zn;rw[er,es,yq λx hx=>(d.rows.2 r (aK hr)).2.2 x.1 (bY hx).1];rw[show(λx=>vl M0 x.2)=(vl M0)∘Prod.snd from rfl,<-cB,uy (by rw[(lR i r s hr hs).1];exact bE _)]);have D:=rQ d;refine#[ml,λi r s hr hs=>(lR i r s hr hs).1,λi s hs=>?_,λs hs p hp=>?_,λh q hq=>?_,λi r s hr hs k p h hk hh pp h' kg q q' hq hU=>?_];have hi:=sS i s hs;rw[<-mall i _ s (getD_at' hi ([])) hs];by_cases c:WM (aF.getD i []) (au.getD i ng) qs ys=tj;rw[<-X.sum i hi c];(exact NAP.Rb λh hh=>by rw[lV i hi h,QY c]);rw[<-D.sum i hi];(exact NAP.Rb λh hh=>by rw[lV i hi h,QX c]);obtain⟨i,hi⟩:=bz hs;exact(lR i _ s (getD_at' (sS i s hi) []) hi).2 p hp;have hl:=(aQ.mp hq).1;rw[d.len] at hl;(have e:US M0 (R7 aF (VT aF au R qs ys)) h=US M0 (R7 aF R) h:=by rw[DN ml,<-X.load h hl];exact NAP.Rb λi hi=>lV i hi h);rw[e];exact d.ev.load M0 eJ (iP _) h q hq;have hi:=sS i s hs;(have er:aF.getD i []=r:=by rw[bR,hr];rfl);have lt:=(d.rows.2 r (aK hr)).2.2;have hl:=lt h (aK hh);have lU:=lt h' kg;(have es:(VT aF au R qs ys).getD i []=s:=by rw[bR,hs];rfl);have K3:(h,p)∈r.zip s:=aK ((bP).mpr #[hh,hk]);(have pos:0<Zn aF (VT aF au R qs ys) i h:=by unfold Zn;rw[er,es];have fo:=(lR i r s hr hs).2;have:vl M0 p<=US M0 (r.zip s) h:=DM (λx hx=>(fo x.2 (bY hx).2).vn) K3;have:=(fo p (aK hk)).vp.mpr pp;exact NAG.gl97 this (by assumption));rw[lV i hi h] at pos;refine FV.el (d.ev.load M0 eJ (iP _) h q hq) (d.ev.load M0 eJ (iP _) h' q' hU) ?_;by_cases c:WM (aF.getD i []) (au.getD i ng) qs ys=tj;rw[QY c] at pos;exact X.even i hi c h hl pos h' lU (by rwa [er]);rw[QX c] at pos;exact D.even i hi h hl pos h' lU (by rwa [er])
section
theorem DP (h:a*M0=b*M0):a=b:=kS (by have:=eJ;lia) h
end
noncomputable def ins {α:Type} (a:Nat) (x:α) (l:List α):List α:=l.take a++x::l.drop a
section
end
section
end
end NAM
namespace NAL.EX
open PySem
end NAL.EX
namespace NAM
open PySem NAL NAL.EX
noncomputable def keptS (r:xaf) (o:Option xac) (bs:List Bool):Bool:=match o with| none=>ff| some row=>(r.zip row).any λx=>decide (0<x.2.1)&&bs.getD x.1 ff
end NAM
namespace NAY
open PySem NAL NAL.EX NAL.RX NAM
section
variable {h:TH}{i ae:Nat}{ws:xae}{aF:xab}{c:NAP.Cr}{au:List (Option xac)}{ys:xac}
theorem K4 (cl:Cl h)(A:ZQ ws aF)(h12:ae<=12)(rows:WX ws.length ae aF):∃(R:xaa) (qs:xac),UK [.lst (ws.map .int),.lst (aF.map Rq),.int ae] h=.ok (.lst (R.map (Yt SA))) h/\TN ws aF ae R qs:=by have dk:=rows.doOk rfl (NAG.gl6 h12);have few:=A.few;obtain⟨L,q1,co⟩:=Km cl A dk;have lF:=co.few dk.few;(obtain⟨bJ,q2,sl,sp⟩:=Dz (fi:=Td (rV 3)) (fg:=rN 0) (fa:=RW Vz (Q2 (rV 1) (Q2 (rV 2) (Q2 (rV 0) Q6)))) (ρ:=[se (.lst (ws.map .int)),se (.lst (aF.map Rq)),se (.int ae),se (.lst (L.map YZ)),ng]) (n:=1) (fr:=[0,1]) rfl c9 (NAG.gl59 lF) λc hc=>by obtain⟨ss,qs,ok⟩:=KP cl A (co.crowdP dk.few few hc);exact#[[se (YZ c),se (.lst (ws.map .int)),se (.lst (aF.map Rq))],ss,rfl,aJ rfl qs,ok]);have q3:=KU (emb:=SA) (no:=((0,1))) cl (λn a=>kH) (by rwa [A.len]) A.row lF (λc hc=>by have p:=co.crowdP dk.few few hc;exact#[p.nd,p.hl,p.cl,λx hx=>by rw[A.len];exact p.ci x hx]) sl λi c ss h1 h2=>(sp i c ss h1 h2).len;have run:UK [.lst (ws.map .int),.lst (aF.map Rq),.int ae] h=.ok (.lst ((S7 aF L bJ ((0,1))).map (Yt SA))) h:=rF rfl ((oF (jb (aJ rfl q1) rfl)).trans ((oF (jb q2 rfl)).trans (jc (aJ rfl q3)))) (bF rfl);rcases pU ae with h0 | h0;subst h0;(have dn:aF=[]:=by cases aF with| nil=>rfl| cons r aF =>obtain⟨a,_,b⟩:=rows.2 r (.head _);cases r with| nil=>trivial| cons x r=>exact absurd (b x (.head _)) (k7 _));subst dn;have Ln:=co.none rfl;subst Ln;exact#[[],[],run,#[rfl,λi r s z=>(by simp at z),λM _ _ i s z=>(by simp at z),λs z=>(by cases z),λM _ _ g q z=>(by simp at z),λi r s z=>(by simp at z)],rfl,λq z=>(by cases z),rows,few,h12];obtain⟨ps,qs,lo,lk⟩:=KJ co h0;have B:=Jg co lo lk h0 (NAG.gl6 h12) A.pos A.bd few;exact#[S7 aF L bJ (0,1),qs,run,KO co h0 (NAG.gl6 h12) few A.len (λr hr=>(rows.2 r hr).2.1.imp λh=>cF h) A.pos sl sp lo lk,B.len,B.ok,rows,few,h12]
noncomputable def optR:Option xac->D| none=>.non| some r=>Yt SA r
theorem DQ:TK ff (SA p) (SA u) h=.ok (.bl (decide (p=u))) h:=by(have e:dEq 60 (SA p) (SA u)=se (decide (p=u)):=by show(match se (ZD p.1 u.1)with| some tj=>(match se (ZD p.2 u.2)with| some tj=>se tj| some ff=>se ff| none=>ng)| some ff=>se ff| none=>ng)=_;rw[kE,kE];obtain⟨a,b⟩:=p;obtain⟨x,y⟩:=u;by_cases c1:a=x;(.by_cases c2:b=y;all_goals simp_all);simp[c1]);show RU (UQ 60 (SA p)&&UQ 60 (SA u)) (Rz (dEq 60 (SA p) (SA u)) _)=_;rw[e];show R.ok (RX.D.bl (ff^^decide (p=u))) h=_;rw[lX]
theorem K5 (rl:r.length<=20)(rb:∀h∈r,h<bs.length)(ro:∀row,o=se row->row.length=r.length):X6 [Rq r,optR o,.lst (bs.map .bl)] h=.ok (.bl (keptS r o bs)) h:=by cases o with| none=>exact mL rfl rfl rfl| some row =>have an:=Xb (h:=h) (bs:=(r.zip row).map λx=>decide (0<x.2.1)&&bs.getD x.1 ff);rw[show((r.zip row).map λx=>decide (0<x.2.1)&&bs.getD x.1 ff).any id=keptS r (se row) bs from wP] at an;refine a8 rfl (sR (aJ (aH (cA (oL rfl rfl) oO (by grind) (λx hx=>#[_,by unfold WH;rfl,?_]) (cB).symm) rfl) an) (bF rfl));have bg:=getD_at' (rb x.1 (bY hx).1) ff;show TP _ _ [se (.int x.1),se (.tup [.int x.2.1,.int x.2.2]),se (.lst (bs.map .bl))] h=.ok (.bl (decide (0<x.2.1)&&bs.getD x.1 ff)) h;by_cases c:0<x.2.1;exact(xZ (aG rfl rfl (mO c)) (f8 rfl rfl bg)).trans (by rw[QZ c];rfl);exact(x4 (aG rfl rfl (mP c))).trans (by rw[Q1 c];rfl)
theorem K6 (cl:Cl h)(A:ZQ ws aF)(h12:ae<=12)(rows:WX ws.length ae aF)(O:Zv aF ae au ys):∃R qs,X5 [.lst (ws.map .int),.lst (aF.map Rq),.int ae,.lst (au.map optR),.lst (ys.map SA)] h=.ok (.lst ((VT aF au R qs ys).map (Yt SA))) h/\TN ws aF ae R qs:=by obtain⟨R,qs,q1,Dk⟩:=K4 cl A h12 rows;obtain⟨cU,q2,ql,ld⟩:=DK cl Dk.rat;cases LdB.uniq eJ ld Dk.ldb (ql.trans Dk.len.symm);have few:=A.few;have dl:=A.len;have Rl:=Dk.ev.len;have Ol:=O.len;obtain⟨bs,hbs⟩:∃bs,bs=(qs.zip ys).map λx=>decide (x.1=x.2):=#[_,rfl];(have ebs:((qs.zip ys).map λx=>D.bl (decide (x.1=x.2)))=bs.map D.bl:=by rw[hbs,cB];rfl);(have bsl:bs.length=ae:=by rw[hbs,bn,kY,ql,O.yl,Nat.min_self]);(have bsg:∀x<ae,bs.getD x ff=decide (qs.getD x (0,1)=ys.getD x (0,1)):=λx hx=>by grind);refine#[R,qs,a8 rfl (sA (aJ rfl q1) (sA (aJ rfl q2) (sA (cA (oL rfl rfl) oO (by rw[kY];lia) (λx hx=>#[_,by unfold WH;rfl,aG rfl rfl DQ]) ebs) (sR (cA (v:=λj=>Yt SA (Xy (aF.getD j []) (au.getD j ng) (R.getD j []) qs ys)) (CY rfl rfl rfl) (λi=>by rw[CO];congr 2;apply i7;intro j;rw[bo,bo];by_cases hj:j<aF.length;rw[ko hj];rw[(bP (z:=(Rq (aF.getD j []),optR (au.getD j ng),Yt SA (R.getD j [])))).mpr #[by rw[bo,getD_at' hj ([])];rfl,bP.mpr #[by rw[bo,getD_at' (show j<au.length by rwa [Ol]) ng];rfl,by rw[bo,getD_at' (show j<R.length by rwa [Rl]) []];rfl]]];rfl;rw[fh Β,fh (by rw[kX];exact pW hj)];rfl) (by rw[kX];lia) (λj hj=>?_) ?_) (bF rfl))))),Dk];have hj:=dy.mp hj;have nq:=getD_at' hj ([]);have lt:=(rows.2 _ (aK nq)).2.2;(have ek:keptS (aF.getD j []) (au.getD j ng) bs=WM (aF.getD j []) (au.getD j ng) qs ys:=by cases ho:au.getD j ng with| none=>rfl| some row =>show List.any _ _=List.any _ _;rw[fJ,gL,gL];have bD:∀x∈(aF.getD j []).zip row,bs.getD x.1 ff=decide (qs.getD x.1 (0,1)=ys.getD x.1 (0,1)):=λx hx=>bsg x.1 (lt x.1 (bY hx).1);exact#[λ#[x,hx,z]=>#[x,hx,by rwa [bD x hx] at z],λ#[x,hx,z]=>#[x,hx,by rwa [bD x hx]]]);have ik:=K5 (h:=h) (o:=au.getD j ng) (bW (kD (rows.2 _ (aK nq)).2.1 lt) (NAG.gl6 h12)) (λx hx=>by rw[bsl];exact lt x hx) λrow e=>O.row j _ row nq (by rw[getD_at' (show j<au.length by rwa [Ol]) ng,e]);rw[ek] at ik;refine#[_,by unfold rN3;rfl,?_];unfold Xy;by_cases c:WM (aF.getD j []) (au.getD j ng) qs ys=tj;rw[c] at ik;rw[QY c];refine(Dt (aM (aJ rfl ik))).trans ?_;(cases ho:au.getD j ng with| none=>rw[ho] at c;cases c| some row=>rfl);rw[e9.mpr c] at ik;rw[QX c];exact(Du (aM (aJ rfl ik))).trans rfl;unfold VT;rw[cB];rfl
end
end NAY
namespace NAM
open PySem PySem.Spec PyProof.Rows NAL NAL.EX NAL.RX
def lb:Nat->Option (Nat×RE)| 0=>se (1,Rp YO (Rk (rV 0) [Α,0]) [Α,0])| _=>ng
def Xa:=Sy ff 1 0 (Rr (TP (Xr 3 (rV 0)) (TP (Yv gLe gLe [Α,1] (RW R3 (Q2 (rV 0) Q6)) [Α,12]) (RW (Yj ZM) (Q2 (UJ ["sign"] ff (Td (rV 0)) 1 [] (rN 0) Si (Yv gLe gLe (rC (.str "a")) (rV 0) (rC (.str "z")))) Q6)))))
def VA:=Sy ff 1 0 (RN (V6 (Rj (RW Xa (Q2 (rV 0) Q6)))) Un Rw)
abbrev YU:RS:=(Ra (Rn (UJ ["hand","number_of"] ff (Td (Rk (Rk (rV 2) (rV 4)) [Α,1])) 1 [3] (rN 0) (Rj (Rp (Xj ff) (rV 0) (rV 1))) (Rk (rV 1) (rV 0))) (rN 5)) (RN (Rj (Rp YO (RW R3 (Q2 (rV 5) Q6)) [Α,0])) (Ra (V1 (Wu (RL 1 1 (rV 0)) (Q2 (rV 4) Q6))) (Ra (V1 (Wu (RL 1 2 (rV 0)) (Q2 (Rk (Rk (rV 2) (rV 4)) [Α,0]) Q6))) (V1 (Wu (RL 1 3 (rV 0)) (Q2 (rV 5) Q6))))) Rw))
def WS:=Sy ff 3 3 (Ra (X2 1 0 (rV 0) (UJ ["hand","crew"] ff (Td (rV 1)) 1 [1] (rN 0) (Rj (Rk (rV 1) (rV 0))) (rV 0))) (Ra (X2 1 1 (rV 0) (Sj tj Q6)) (Ra (X2 1 2 (rV 0) (Sj tj Q6)) (Ra (X2 1 3 (rV 0) (Sj tj Q6)) (Ra (Rn (RW (VV ff) (Q2 (UJ ["number","hand"] ff (rIe (RL 1 0 (rV 0))) 2 [] (WH 0 1) Si (TZ (Q2 (rV 1) (Q2 (rV 0) Q6)))) Q6)) (rN 3)) (S8 (Td (rV 2)) (rN 4) YU))))))
def SO:=Sy ff 2 0 (Rr (UJ ["number","self"] ff (Td (rV 1)) 1 [0] (rN 0) Si (Rk (RL 1 0 (rV 1)) (rV 0))))
def TW:=Sy ff 4 2 (Ra (Rn (Rk (RL 1 1 (rV 1)) (rV 2)) (rN 4)) (Ra (RN (Za (Rj (Rp (TK ff) (rV 4) (rV 3))) (Rj (Rp (Xj tj) (rV 4) (RL 2 2 (rV 0))))) (Rr (rC .non)) Rw) (Ra (Rn (Rv 1 SO (rV 1) (Q2 (Rk (RL 1 3 (rV 1)) (rV 2)) Q6)) (rN 5)) (Ra (RN (Rj (RW (Yj Zi) (Q2 (UJ ["hand","doers"] ff (Td (Rk (RL 2 2 (rV 0)) (rV 4))) 1 [5] (rN 0) Si (Rp (Xj tj) (rV 0) (rV 1))) Q6))) (Rr (rC .non)) Rw) (Rr (UJ ["hand","self","chore"] ff (Td (rV 5)) 1 [0,4] (rN 0) Si (Yu (Rk (RL 2 2 (rV 1)) (rV 2)) (rV 0) (rC (.tup [.int 0,.int 1])))))))))
def T6:=Sy ff 2 1 (Ra (Rn (UJ ["hand","self","burdens"] ff (Td (rV 1)) 1 [0,1] (rN 0) Si (TZ (Q2 (rV 0) (Q2 (Yu (RL 2 3 (rV 1)) (rV 0) (rC (.tup [.int 0,.int 1]))) (Q2 (Rk (rV 2) (rV 0)) Q6))))) (rN 2)) (Rr (UJ ["change"] ff (Td (rV 2)) 1 [] (rN 0) (Rj (Rp (TK tj) (Rk (rV 0) [Α,1]) (Rk (rV 0) [Α,2]))) (rV 0))))
abbrev XF:RS:=(WE (RW (VV ff) (Q2 (UJ ["pair","is_above"] ff (Z2 (Rv 1 SO (rV 0) (Q2 (rV 5) Q6)) (rV 6)) 1 [2] (rN 0) (Rj (Zb lb (rV 1) (Q2 (Rk (rV 0) [Α,1]) Q6))) (rV 0)) Q6)) (rV 3) (rV 4))
def UU:=Sy ff 3 4 (Ra (Rn (WG tj) (rN 3)) (Ra (S8 (rIz3 (RL 1 1 (rV 0)) (RL 1 3 (rV 0)) (rV 1)) (rN3 4 5 6) XF) (Rr (rFz (rV 3)))))
def Sv:=Sy ff 4 7 (Ra (Rn (RW (XQ 1 WS) (Q2 (rV 1) (Q2 (rV 2) Q6))) (rN 4)) (Ra (Rn (RW R3 (Q2 (RL 1 0 (rV 4)) Q6)) (rN 5)) (Ra (Rn (UJ ["place","self","roll","touched"] ff (rIr (Q2 (RW R3 (Q2 (RL 1 1 (rV 4)) Q6)) Q6)) 1 [0,4,3] (rN 0) Si (Rv 2 TW (rV 1) (Q2 (rV 2) (Q2 (rV 0) (Q2 (rV 3) Q6))))) (rN 6)) (Ra (Rn (UJ ["hand","self"] ff (Td (RL 1 0 (rV 4))) 1 [0] (rN 0) Si (Yu (RL 2 3 (rV 1)) (rV 0) (rC (.tup [.int 0,.int 1])))) (rN 7)) (Ra (Rn (RW X5 (Q2 (RL 1 2 (rV 4)) (Q2 (RL 1 3 (rV 4)) (Q2 (rV 5) (Q2 (rV 6) (Q2 (rV 7) Q6)))))) (rN 8)) (Ra (Rn (RW (VV tj) (Q2 (UJ ["hand"] ff (Td (rV 1)) 1 [] (rN 0) Si (TZ (Q2 (rV 0) (Q2 (rC (.tup [.int 0,.int 1])) Q6)))) Q6)) (rN 9)) (Ra (Zz 9 (V1 (rUpd (rV 9) (rDz tj (RL 1 0 (rV 4)) (RW Tk (Q2 (RL 1 3 (rV 4)) (Q2 (rV 5) (Q2 (rV 8) Q6)))))))) (Ra (Rn (Rv 2 T6 (rV 0) (Q2 (rV 9) Q6)) (rN 10)) (Ra (X2 2 0 (rV 0) (rV 1)) (Ra (X2 2 1 (rV 0) (rV 2)) (Ra (X2 2 2 (rV 0) (Rv 1 UU (rV 4) (Q2 (rV 8) (Q2 (rLam 0) Q6)))) (Ra (X2 2 3 (rV 0) (rV 9)) (Ra (X2 2 4 (rV 0) (rC .non)) (Rr (rV 10)))))))))))))))
def Tp:=Sy ff 3 1 (Ra (Rn (RW (VV tj) (Q2 (RL 2 0 (rV 0)) Q6)) (rN 3)) (Ra (Zz 3 (WE (rV 2) (rV 3) (rV 1))) (Rr (Rv 2 Sv (rV 0) (Q2 (rV 3) (Q2 (RL 2 1 (rV 0)) (Q2 (rC .non) Q6)))))))
def Wj:=Sy ff 2 0 (Ra (V1 (RW VA (Q2 (rV 1) Q6))) (Ra (RN (Rj (Rp (Xj ff) (rV 1) (RL 2 0 (rV 0)))) Un Rw) (Ra (RN (Rj (Rp gGe (RW R3 (Q2 (RL 2 0 (rV 0)) Q6)) [Α,40])) Un Rw) (Rr (Rv 2 Tp (rV 0) (Q2 (rV 1) (Q2 (rC (.bl tj)) Q6)))))))
def SQ:=Sy ff 2 0 (RN (Rj (Rp (Xj tj) (rV 1) (RL 2 0 (rV 0)))) Un Rw)
def To:=Sy ff 4 1 (Ra (Rn (RW (VV tj) (Q2 (RL 2 1 (rV 0)) Q6)) (rN 4)) (Ra (Zz 4 (WE (TZ (Q2 (rV 2) (Q2 (rV 3) Q6))) (rV 4) (rV 1))) (Rr (Rv 2 Sv (rV 0) (Q2 (RL 2 0 (rV 0)) (Q2 (rV 4) (Q2 (rV 1) Q6)))))))
abbrev YW:RS:=(V1 (Rv 2 SQ (rV 0) (Q2 (rV 4) Q6)))
def WU:=Sy ff 4 1 (Ra (V1 (RW VA (Q2 (rV 1) Q6))) (Ra (RN (Rj (Rp (Xj ff) (rV 1) (RL 2 1 (rV 0)))) Un Rw) (Ra (RN (Rj (Rp YY (rV 2) [Α,1])) Un Rw) (Ra (RN (Rj (Rp (TK ff) (RW R3 (Q2 (rV 3) Q6)) [Α,0])) Un Rw) (Ra (S8 (Td (rV 3)) (rN 4) YW) (Ra (RN (Rj (Rp YY (rLs (rV 3)) (RW R3 (Q2 (rV 3) Q6)))) Un Rw) (Ra (RN (Rj (Rp gGe (RW R3 (Q2 (RL 2 1 (rV 0)) Q6)) [Α,40])) Un Rw) (Rr (Rv 2 To (rV 0) (Q2 (rV 1) (Q2 (rV 2) (Q2 (UJ ["hand","names"] ff (Td (RL 2 0 (rV 0))) 1 [3] (rN 0) (Rj (Rp (Xj ff) (rV 0) (rV 1))) (rV 0)) Q6))))))))))))
def Sw:=Sy ff 2 0 (RN (Rj (Rp (Xj tj) (rV 1) (RL 2 1 (rV 0)))) Un Rw)
def Wl:=Sy ff 2 1 (Ra (V1 (Rv 2 Sw (rV 0) (Q2 (rV 1) Q6))) (Ra (Rn (RW (VV tj) (Q2 (RL 2 1 (rV 0)) Q6)) (rN 2)) (Ra (Zz 2 (V1 (Y2 (rV 2) (rV 1)))) (Rr (Rv 2 Sv (rV 0) (Q2 (RL 2 0 (rV 0)) (Q2 (rV 2) (Q2 (rV 1) Q6))))))))
def U5:=Sy ff 4 2 (Ra (V1 (Rv 2 Sw (rV 0) (Q2 (rV 1) Q6))) (Ra (Rn (Rk (RL 2 1 (rV 0)) (rV 1)) (rN 4)) (Ra (Rn (Rp (UP ff) (Rk (rV 4) [Α,0]) (Rp (Uq ff) (rV 3) (rV 2))) (rN 5)) (Ra (RN (Za (Rj (Rp YY (rV 2) [Α,1])) (Rj (Rp YY (rV 5) [Α,1]))) Un Rw) (Rr (Rv 2 To (rV 0) (Q2 (rV 1) (Q2 (rV 5) (Q2 (Rk (rV 4) [Α,1]) Q6)))))))))
def Wi:=Sy ff 3 0 (Rr (Rv 2 U5 (rV 0) (Q2 (rV 1) (Q2 (rV 2) (Q2 [Α,1] Q6)))))
def VM:=Sy ff 3 0 (Rr (Rv 2 U5 (rV 0) (Q2 (rV 1) (Q2 (rV 2) (Q2 (rUn YH [Α,1]) Q6)))))
def U4:=Sy ff 3 0 (Ra (V1 (Rv 2 SQ (rV 0) (Q2 (rV 1) Q6))) (Ra (RN (Rj (Rp (TK ff) (Rk (RL 2 0 (rV 0)) (rV 1)) (rV 2))) Un Rw) (Rr (Rv 2 Tp (rV 0) (Q2 (rV 1) (Q2 (rV 2) Q6))))))
def Wn:=Sy ff 2 0 (Rr (Rv 2 U4 (rV 0) (Q2 (rV 1) (Q2 (rC (.bl ff)) Q6))))
def Wm:=Sy ff 2 0 (Rr (Rv 2 U4 (rV 0) (Q2 (rV 1) (Q2 (rC (.bl tj)) Q6))))
def TF:=Sy ff 2 0 (Ra (V1 (Rv 2 SQ (rV 0) (Q2 (rV 1) Q6))) (Rr (Rk (RL 2 3 (rV 0)) (rV 1))))
def Uu:=Sy ff 2 0 (Ra (V1 (Rv 2 Sw (rV 0) (Q2 (rV 1) Q6))) (Rr (Zc ff (Yu (RL 2 2 (rV 0)) (rV 1) (WG ff)))))
def VL:=Sy ff 1 0 (Rr (RW (Ws ff) (Q2 (RL 2 0 (rV 0)) Q6)))
def SZ:=Sy ff 1 0 (Rr (RW (Ws ff) (Q2 (RL 2 1 (rV 0)) Q6)))
def XA:=Sy ff 2 0 (Rr (Rp YY (Rp (Uq ff) (Rk (rV 0) [Α,0]) (Rk (rV 1) [Α,1])) (Rp (Uq ff) (Rk (rV 1) [Α,0]) (Rk (rV 0) [Α,1]))))
def WQ:=Sy tj 2 0 (Rr (UJ ["chore","house","names"] tj (Td (Rv 2 SZ (rV 0) Q6)) 1 [0,1] (rN 0) (Rj (RW (Yj Zi) (Q2 (UJ ["pair","names"] ff (Td (Rv 2 Uu (rV 1) (Q2 (rV 0) Q6))) 1 [2] (rN 0) Si (Rp (Xj ff) (Rk (rV 0) [Α,0]) (rV 1))) Q6))) (rV 0)))
def Wd:=Sy tj 2 1 (Ra (Rn (UJ ["name","level","house"] tj (Td (Rv 2 VL (rV 0) Q6)) 1 [1,0] (rN 0) (Rj (RW XA (Q2 (rV 1) (Q2 (Rv 2 TF (rV 2) (Q2 (rV 0) Q6)) Q6)))) (rV 0)) (rN 2)) (Ra (RN (Rj (Rp (TK ff) (RW R3 (Q2 (rV 2) Q6)) [Α,0])) (Rr (TZ (Q2 (rC (.str "yes")) Q6))) Rw) (Rr (TZ (Q2 (rC (.str "no")) (Q2 (rV 2) (Q2 (RW WQ (Q2 (rV 0) (Q2 (rV 2) Q6))) Q6)))))))
end NAM
namespace NAY
open PySem NAL NAL.EX NAL.RX NAM
section
variable {α:Type}{h h':TH}{f:α->D}{l:List (Q7×α)}{k:Q7}{a:α}{i n m:Nat}
noncomputable def Sl (l:List (Q7×α)):List Ry:=l.map λp=>.inr p.1
noncomputable def Tu (f:α->D) (l:List (Q7×α)):List D:=l.map λp=>f p.2
noncomputable def VY (f:α->D) (l:List (Q7×α)):D:=.dic (Sl l) (Tu f l)
noncomputable def Sk (k:Q7):List (Q7×α)->Option α| []=>ng| p::l=>if p.1=k then se p.2 else Sk k l
noncomputable def putS (k:Q7) (a:α):List (Q7×α)->List (Q7×α)| []=>[(k,a)]| p::l=>if p.1=k then(p.1,a)::l else p::putS k a l
theorem dH:Sk k (p::l)=if p.1=k then se p.2 else Sk k l:=rfl
theorem qr:putS k a (p::l)=if p.1=k then(p.1,a)::l else p::putS k a l:=rfl
theorem rR:Yl (.inr x) (.inr y)=decide (x=y):=mK x y
theorem rS:lk (.inr k) (Sl l) (Tu f l)=(Sk k l).map f:=by induction l with| nil=>rfl| cons p l ih =>show(bif Yl (.inr p.1) (.inr k) then se (f p.2) else lk (.inr k) (Sl l) (Tu f l))=_;rw[rR,ih];rw[dH];by_cases c:p.1=k;rw[QZ c,QY c];rfl;rw[Q1 c,QX c];rfl
theorem DR:U0 (.inr k) (Sl l)=Sl (putS k a l):=by induction l with| nil=>rfl| cons p l ih =>show(bif Yl (.inr p.1) (.inr k) then Sum.inr p.1::Sl l else Sum.inr p.1::U0 (.inr k) (Sl l))=_;rw[rR,ih];rw[qr];by_cases c:p.1=k;rw[QZ c,QY c];rfl;rw[Q1 c,QX c];rfl
theorem DS:Wr (.inr k) (f a) (Sl l) (Tu f l)=Tu f (putS k a l):=by induction l with| nil=>rfl| cons p l ih =>show(bif Yl (.inr p.1) (.inr k) then f a::Tu f l else f p.2::Wr (.inr k) (f a) (Sl l) (Tu f l))=_;rw[rR,ih];rw[qr];by_cases c:p.1=k;rw[QZ c,QY c];rfl;rw[Q1 c,QX c];rfl
noncomputable def UR (k:Q7) (l:List (Q7×α)):List (Q7×α):=l.filter λp=>decide (p.1≠k)
theorem K7:Vo (.inr k) (Sl l)=Sl (UR k l):=by induction l with| nil=>rfl| cons p l ih =>show(bif Yl (.inr p.1) (.inr k) then Vo (.inr k) (Sl l) else Sum.inr p.1::Vo (.inr k) (Sl l))=_;rw[rR,ih];unfold UR;by_cases c:p.1=k;rw[QZ c,uk (by simp_all)];rfl;rw[Q1 c,um (by simp_all)];rfl
theorem K8:UW (.inr k) (Sl l) (Tu f l)=Tu f (UR k l):=by induction l with| nil=>rfl| cons p l ih =>show(bif Yl (.inr p.1) (.inr k) then UW (.inr k) (Sl l) (Tu f l) else f p.2::UW (.inr k) (Sl l) (Tu f l))=_;rw[rR,ih];unfold UR;by_cases c:p.1=k;rw[QZ c,uk (by simp_all)];rfl;rw[Q1 c,um (by simp_all)];rfl
noncomputable def Rc (l:List (Q7×α)):List Q7:=l.map (·.1)
theorem dQ (h:Sk k l=se a):(k,a)∈l:=by induction l with| nil=>cases h| cons p l ih =>rw[dH] at h;grind
theorem SK:Sk k l=ng↔k∉Rc l:=by induction l with| nil=>exact#[λ_ z=>(by cases z),λ_=>rfl]| cons p l ih =>rw[dH];by_cases c:p.1=k;grind[absurd,Rc];rw[QX c,ih];unfold Rc;grind
theorem K9:(Sk k l).isSome=decide (k∈Rc l):=by cases e:Sk k l with| none=>rw[Q1 (SK.mp e)];rfl| some a=>rw[QZ (show k∈Rc l from aU.mpr #[_,dQ e,rfl])];rfl
theorem eM (nd:(Rc l).Nodup)(h:(k,a)∈l):Sk k l=se a:=by induction l with| nil=>cases h| cons p l ih =>rw[dH];have hP:=eG.mp nd;rcases bj.mp h with z | z;rw[<-z,QY rfl];rw[QX λc=>hP.1 (aU.mpr #[(k,a),z,c.symm])];exact ih hP.2 z
theorem vr (nd:(Rc l).Nodup):ZA (Sl l)=tj:=by induction l with| nil=>rfl| cons p l ih =>have hP:=eG.mp nd;show(!YX (.inr p.1) (Sl l)&&ZA (Sl l))=tj;rw[ih hP.2,v3,kR];refine e9.mpr λz=>hP.1 ?_;obtain⟨q,hq,e⟩:=aU.mp ((Cp _ _).mp z);exact aU.mpr #[q,hq,Sum.inr.inj e]
theorem rU:(Sl l).length=l.length:=bn _
theorem oP (h:k∈Rc l):Rc (putS k a l)=Rc l:=by induction l with| nil=>cases h| cons p l ih =>rw[qr];by_cases c:p.1=k;rw[QY c];rfl;grind[Rc,putS]
theorem qu (h:k∉Rc l):putS k a l=l++[(k,a)]:=by induction l with| nil=>rfl| cons p l ih =>rw[qr];rw[QX λc:p.1=k=>h (c▸List.Mem.head _),ih λz=>h (.tail _ z)];rfl
theorem La:nKs ks h i=se ((ks.map kd)[i]?):=by show se (Uz (eg ks i) kd)=_;rw[aW,bo];cases ks[i]?<;>rfl
theorem qv (i:Nat):nKs (Sl l) h i=se ((l.map λp=>D.str p.1)[i]?):=by rw[La];unfold Sl;rw[cB];rfl
theorem ZC:Xj neg (.str k) (VY f l) h=.ok (.bl (neg^^decide (k∈Rc l))) h:=by show(match lk (.inr k) (Sl l) (Tu f l)with| some _=>R.ok (D.bl (neg^^tj)) h| none=>R.ok (D.bl (neg^^ff)) h)=_;rw[rS,<-K9];cases Sk k l<;>rfl
theorem kI (z1:fa ρ h=.ok (VY f l) h')(z2:fb ρ h'=.ok (.str k) h')(z3:Sk k l=se a):Rk fa fb ρ h=.ok (f a) h':=aG z1 z2 (by show Rz (lk (.inr k) (Sl l) (Tu f l)) _=_;rw[rS,z3];rfl)
theorem vv (z1:fa ρ h=.ok (VY f l) h')(z2:fb ρ h'=.ok (.str k) h')(z3:fc ρ h'=.ok (f z) h'):Yu fa fb fc ρ h=.ok (f ((Sk k l).getD z)) h':=by unfold Yu;rw[z1];show R.bnd (fb ρ h') _=_;rw[z2];show R.bnd (fc ρ h') _=_;rw[z3];show(match lk (.inr k) (Sl l) (Tu f l)with| some d=>R.ok d h'| none=>R.ok (f z) h')=_;rw[rS];cases Sk k l<;>rfl
theorem DT:R3 [VY f l] h=.ok (.int l.length) h:=by show R.ok (D.int (.ofNat (Sn (Sl l)))) h=_;rw[aV,rU];rfl
theorem yr {m:Bool}:Ws m [VY f l] h=mk m ((Rc l).map .str) h:=by show mk m (kds (Sl l)) h=_;(have:kds (Sl l)=(Rc l).map D.str:=by induction l with| nil=>rfl| cons p l ih=>show kd (.inr p.1)::kds (Sl l)=_;rw[ih];rfl);rw[this]
theorem yt {m:Bool}(nd:(Rc l).Nodup):VV m [.lst (l.map λp=>.tup [.str p.1,f p.2])] h=mkD m (Sl l) (Tu f l) h:=by have e1:RB prK (l.map λp=>D.tup [.str p.1,f p.2])=se (Sl l):=lr λp _=>rfl;have e2:RB prV (l.map λp=>D.tup [.str p.1,f p.2])=se (Tu f l):=lr λp _=>rfl;show Rz (RB prK (l.map λp=>D.tup [.str p.1,f p.2])) _=_;rw[e1];show Rz (RB prV (l.map λp=>D.tup [.str p.1,f p.2])) _=_;rw[e2];rw[vr nd];rfl
theorem ZK {m:Bool}:VV m [VY f l] h=mkD m (Sl l) (Tu f l) h:=rfl
theorem Lb {m:Bool}(z:fa ρ h=.ok (VY f l) h')(hl:l.length<=1000):Zc m fa ρ h=mk m (l.map λp=>.tup [.str p.1,f p.2]) h':=by unfold Zc;rw[z];show RU (bQ (Sn (Sl l)) 1000) (mk m (Z4 (Sl l) (Tu f l)) h')=_;rw[aV,rU,dz.mpr hl];(have:Z4 (Sl l) (Tu f l)=l.map λp=>D.tup [.str p.1,f p.2]:=by clear hl z;induction l with| nil=>rfl| cons p l ih=>show D.tup [kd (.inr p.1),f p.2]::Z4 (Sl l) (Tu f l)=_;rw[ih];rfl);rw[this];rfl
theorem oQ (hf:∀a,cd n m (f a)):cd n (m+1) (VY f l):=λd hd=>by obtain⟨p,_,rfl⟩:=aU.mp hd;exact hf p.2
theorem yu {ks:List Q7}:Xj neg (.str k) (.lst (ks.map .str)) h=.ok (.bl (neg^^decide (k∈ks))) h:=by have e1:RB ZZ (ks.map D.str)=se (ks.map V.str):=lr λp _=>rfl;(have e2:vIn (.str k) (ks.map V.str)=se (decide (k∈ks)):=by clear e1;induction ks with| nil=>rfl| cons x ks ih =>show Uz (vIn (.str k) (ks.map V.str)) (λr=>sEq x k||r)=_;rw[ih];show se (sEq x k||decide (k∈ks))=_;rw[mK];congr 1;rw[fJ];simp only[qO,decide_eq_true_eq,bj];exact or_congr_left eq_comm);show Rz (RB ZZ (ks.map D.str)) _=_;rw[e1];show Rz (vIn (.str k) (ks.map V.str)) _=_;rw[e2];rfl
end
abbrev bG:=List (Q7×Bool)
abbrev bx:=List (Q7×(Int×List Q7))
noncomputable def tkD (t:Int×List Q7):D:=.tup [.int t.1,.lst (t.2.map .str)]
noncomputable def Q9 (c:bG):List Q7:=Rc (c.filter λp=>p.2)
noncomputable def UF (p ns:List Q7):xaf:=(ns.filter λx=>decide (x∈p)).map λx=>p.idxOf x
noncomputable def S4 (p:List Q7) (t:bx):bx:=t.filter λq=>decide (0<(UF p q.2.2).length)
noncomputable def dealtD (l:bx):D:=.lst (l.map λq=>.str q.1)
noncomputable def worksD (l:bx):D:=.lst (l.map λq=>.int q.2.1)
noncomputable def Zg (p:List Q7) (l:bx):D:=.lst (l.map λq=>Rq (UF p q.2.2))
noncomputable def Ua (c:bG) (t:bx):List D:=[.lst ((Q9 c).map .str),dealtD (S4 (Q9 c) t),worksD (S4 (Q9 c) t),Zg (Q9 c) (S4 (Q9 c) t)]
section
variable {h h0 t:TH}{c:bG}{tk:bx}{p:List Q7}{i:Nat}{x:Q7}
theorem Ld (nd:p.Nodup):∀{n:Nat},Sk x (p.zipIdx n)=if x∈p then se (p.idxOf x+n)else none:=by induction p with| nil=>intro n;rfl| cons y p ih =>intro n;have hP:=eG.mp nd;rw[List.zipIdx_cons,dH,ih hP.2];grind
theorem DV:Rc (p.zipIdx)=p:=by exact List.zipIdx_map_fst 0 p
theorem kJ (nd:(Rc c).Nodup):(Q9 c).Nodup:=(jt.map _).nodup nd
theorem DW:(Q9 c).length<=c.length:=by unfold Q9 Rc;rw[bn];exact eF _ _
theorem Lf (nd:p.Nodup)(ndt:(Rc tk).Nodup)(hq:q∈tk)(hl:q.2.2.length<1000) :UJ ["hand","number_of"] ff (Td (Rk (Rk (rV 2) (rV 4)) [Α,1])) 1 [3] (rN 0) (Rj (Rp (Xj ff) (rV 0) (rV 1))) (Rk (rV 1) (rV 0)) [me,cr,se (VY tkD tk),se (VY nD p.zipIdx),se (.str q.1),y] h=.ok (Rq (UF p q.2.2)) h:=by(have e:=rD (fi:=Td (Rk (Rk (rV 2) (rV 4)) [Α,1])) (fg:=rN 0) (fT:=Rj (Rp (Xj ff) (rV 0) (rV 1))) (fa:=Rk (rV 1) (rV 0)) (ρ:=[me,cr,se (VY tkD tk),se (VY nD p.zipIdx),se (.str q.1),y]) (N:=["hand","number_of"]) (n:=1) (fr:=[3]) (b:=ff) (v:=λx=>nD (p.idxOf x)) (by have a2:Rk (Rk (rV 2) (rV 4)) [Α,1] [me,cr,se (VY tkD tk),se (VY nD p.zipIdx),se (.str q.1),y] h=.ok (.lst (q.2.2.map .str)) h:=aG (kI rfl rfl (eM ndt hq)) rfl rfl;unfold Td;rw[a2];rfl) c9 hl λx hx=>by refine#[[se (.str x),se (VY nD p.zipIdx)],rfl,aM (aG rfl rfl (ZC.trans ?_)),λhp=>?_];rw[DV,lX];refine kI rfl rfl ?_;rw[Ld nd,QY (Q0 hp)];rfl);rw[e];unfold UF Rq;rw[cB];rfl
theorem DX:S4 p (l++[q])=S4 p l++(if 0<(UF p q.2.2).length then[q]else[]):=by unfold S4;grind
theorem Lg {c:Nat}(cl:Cl h0)(z:fzo (h0++ .mi c ds::t) (h0.length+1) (.mi c ds)=se (.mi c ds'))(nt:t≠[]):trunc (h0.length+1) .non (h0++ .mi c ds::t)=.ok .non (h0++[.mi c ds']):=by unfold trunc;rw[aV,show bZ (h0++ .mi c ds::t).length (h0.length+1)=ff from e9.mpr λy=>Β];(have tk:etk (h0.length+1) (h0++ .mi c ds::t)=h0++[.mi c ds]:=by rw[rz,Au,dP (k8 _),AJ];rfl);rw[tk,Di (xT λx hx=>rB (oG (k8 _) (cl x hx))) (show RB _ [TM.mi c ds]=se [TM.mi c ds']from Rt.mpr #[_,_,z,rfl,rfl])];rfl
theorem Lh (cl:Cl h0)(ndc:(Rc c).Nodup)(ndt:(Rc tk).Nodup)(lc:c.length<=40)(lt:tk.length<=40)(ln:∀q∈tk,q.2.2.length<=40):XQ 1 WS [VY .bl c,VY tkD tk] h0=.ok (.at h0.length) (h0++[.mi 1 (Ua c tk)]):=by have pnd:=kJ ndc;have pl:=bW DW lc;(have nl:∀{ρ F t},Sj tj Q6 ρ (h0++ .mi 1 F::t)=.ok (.at (h0.length+(t.length+1))) (h0++ .mi 1 F::(t++[.ml []])):=by intros;rw[XM];simp);refine JC (a8 rfl (sI (cM rfl qv (NAG.gl32 lc) (λx hx=>#[_,rfl,aM (kI rfl rfl (eM ndc hx)),λ_=>rfl]) (L:=(Q9 c).map .str) (by simp[Q9,Rc])) rfl (sI nl rfl (sI nl rfl (sI nl rfl (sA (aJ (aH (cA (rG (bh rfl R9 rfl)) vk (by rw[pM];exact NAG.gl32 pl) (λx hx=>#[_,by unfold WH;rfl,rfl]) rfl) rfl) (yt (f:=nD) (by rwa [DV]))) ?_))))));refine sZ (fq (λi ρ h=>(∃x y,ρ=[se (.at h0.length),se (VY .bl c),se (VY tkD tk),se (VY nD (Q9 c).zipIdx),x,y])/\h=h0++[.mi 1 [.lst ((Q9 c).map .str),.at (h0.length+1),.at (h0.length+2),.at (h0.length+3)],.ml ((S4 (Q9 c) (tk.take i)).map λq=>.str q.1),.ml ((S4 (Q9 c) (tk.take i)).map λq=>.int q.2.1),.ml ((S4 (Q9 c) (tk.take i)).map λq=>Rq (UF (Q9 c) q.2.2))]) rfl (λi _ _ _=>qv i) (NAG.gl32 lt) #[#[_,_,rfl],rfl] λi q ρ h hq #[#[x,y,e1],e2]=>?_) λh #[ρ,_,e]=>?_;subst e1 e2;have mq:=aK hq;(have tK:tk.take (i+1)=tk.take i++[q]:=by rw[pP,hq];rfl);have ll:(S4 (Q9 c) (tk.take i)).length<=40:=bW (eF _ _) (bW (Ah _ _) lt);refine#[_,rfl,nA (Lf pnd ndt mq (by have:=ln q mq;exact NAG.gl32 this)) ?_];by_cases z:0<(UF (Q9 c) q.2.2).length;refine nT (aM (aG (aJ rfl dY) rfl (by rw[gt_int,QZ Β]))) (nD' (oK (bh rfl R9 rfl) rfl rfl (by simp;exact NAG.gl31 ll)) (nD' (oK (bh rfl R9 rfl) rfl (aH (aG (kI rfl rfl (eM ndt mq)) rfl rfl) rfl) (by simp;exact NAG.gl31 ll)) (nE (fZ (oK (bh rfl R9 rfl) rfl rfl (by simp;exact NAG.gl31 ll))) #[#[_,_,rfl],?_])));rw[tK,DX,QY z];simp;refine nF (aM (aG (aJ rfl dY) rfl (by rw[gt_int,Q1 (by simp[*])]))) (nE rfl #[#[_,_,rfl],?_]);rw[tK,DX,QX z,mw];rw[e,mu,dW];refine Lg cl ?_ (by simp);refine congrArg (Uz · (TM.mi 1)) (show RB (fz _ (h0.length+1) 9) _=se (Ua c tk)from ?_);exact Rt.mpr #[_,_,iF 9 λd hd=>ZV (λ_=>by trivial) d hd,Rt.mpr #[_,_,vb Β VO (ZV λ_=>by trivial),Rt.mpr #[_,_,vb Β VO (ZV λ_=>by trivial),Rt.mpr #[_,_,vb Β VO (ZV λ_ d hd=>ZV (λ_=>by trivial) d hd),rfl,rfl],rfl],rfl],rfl]
theorem Li (e:h[i]?=se (.mi 1 (.lst (p.map .str)::F)))(hr:∀x∈rs,x<p.length)(hl:rs.length<1000):SO [.at i,Rq rs] h=.ok (.lst ((rs.map λx=>p.getD x "").map .str)) h:=by have q:=u9 (fi:=Td (rV 1)) (fg:=rN 0) (fa:=Rk (RL 1 0 (rV 1)) (rV 0)) (ρ:=[se (.at i),se (Rq rs)]) (N:=["number","self"]) (n:=1) (fr:=[0]) (b:=ff) rfl c9 hl λx hx=>#[[se (nD x),se (.at i)],rfl,aG (bh rfl e rfl) rfl (by show Rz (ZG (p.map D.str) (x:Int)) _=_;rw[Vj,bo,getD_at' (hr x hx) ""];rfl)];refine mL rfl (jc (q.trans ?_)) rfl;rw[cB];rfl
end
abbrev Row:=List (Q7×(xag))
noncomputable def Wb (c:bG) (t:bx) (rw:List (Q7×Row)) (bu:Row):List D:=[VY .bl c,VY tkD t,VY (VY SA) rw,VY SA bu,.non]
noncomputable def Y6:Option Q7->D| none=>.non| some x=>.str x
noncomputable def SW (p:List Q7) (q:Q7×(Int×List Q7)):List Q7:=q.2.2.filter λx=>decide (x∈p)
noncomputable def TL (p:List Q7) (rw:List (Q7×Row)) (to:Option Q7) (q:Q7×(Int×List Q7)):Option xac :=if to=se q.1 then ng else match Sk q.1 rw with| none=>ng| some r=>if(Rc r).any λx=>decide (x∉SW p q)then ng else se ((SW p q).map λx=>(Sk x r).getD (0,1))
abbrev Ye (x:Q7):Prop:=UQ 60 (.str x)=tj
section
variable {h h':TH}{c c':bG}{tk bv:bx}{p:List Q7}{i j k m:Nat}{x:Q7}{rw:List (Q7×Row)}{bu nU:Row}{q:Q7×(Int×List Q7)}{to:Option Q7}
theorem DY:∀x∈UF p ns,x<p.length:=λx hx=>by obtain⟨y,hy,rfl⟩:=aU.mp hx;exact fV (Q0 (bi.mp hy).2)
theorem Lj:(UF p ns).length<=ns.length:=by unfold UF;rw[bn];exact eF _ _
theorem kK (hy:y∈p):p.getD (p.idxOf y) ""=y:=by have l:=fV hy;rw[bR,aT l,uu];rfl
theorem Lk:(UF p ns).map (λx=>p.getD x "")=ns.filter λx=>decide (x∈p):=by unfold UF;rw[cB];refine(cz λy hy=>?_).trans (wQ _);exact kK (Q0 (bi.mp hy).2)
theorem Ll (hx:Ye x)(ht:∀y,to=se y->Ye y):TK ff (.str x) (Y6 to) h=.ok (.bl (decide (to=se x))) h:=by cases to with| none =>show RU (UQ 60 (.str x)&&tj) (R.ok (D.bl ff) h)=_;rw[hx];rfl| some y =>show TK ff (.str x) (.str y) h=_;rw[eq_str hx (ht y rfl),lX];congr 2;rw[fJ];simp only[decide_eq_true_eq,Option.some.injEq];exact eq_comm
theorem DZ (er:h[j]?=se (.mi 1 (Ua c' bv)))(hl:q.2.2.length<=40):SO [.at j,Rq (UF (Q9 c') q.2.2)] h=.ok (.lst ((SW (Q9 c') q).map .str)) h:=by have e:=Li (p:=Q9 c') (rs:=UF (Q9 c') q.2.2) er DY (by have:=Lj (p:=Q9 c') (ns:=q.2.2);lia);rw[Lk] at e;exact e
theorem D2 (z:fa ρ h=.ok (VY f l) h'):Td fa ρ h=.ok (nKs (Sl l)) h':=by unfold Td;rw[z];rfl
theorem Lm (eh:h[i]?=se (.mi 2 (Wb c tk rw bu)))(er:h[j]?=se (.mi 1 (Ua c' bv)))(hk:(S4 (Q9 c') bv)[k]?=se q)(hx:Ye q.1)(ht:∀y,to=se y->Ye y)(hl:q.2.2.length<=40)(rl:∀r,Sk q.1 rw=se r->r.length<=40) :TW [.at i,.at j,nD k,Y6 to] h=.ok (optR (TL (Q9 c') rw to q)) h:=by have t1:=Ll (h:=h) hx ht;have t2:=ZC (h:=h) (neg:=tj) (k:=q.1) (f:=VY SA) (l:=rw);unfold TW TL;refine a8 rfl (sA (f8 (bh rfl er rfl) rfl hk) ?_);by_cases z:to=se q.1;rw[QY z];rw[QZ z] at t1;exact sT (JF (aM (aG rfl rfl t1))) (sR rfl (bF rfl));rw[QX z];rw[Q1 z] at t1;cases hr:Sk q.1 rw with| none =>rw[Q1 (SK.mp hr)] at t2;exact sT ((vf (aM (aG rfl rfl t1))).trans (aM (aG rfl (bh rfl eh rfl) t2))) (sR rfl (bF rfl))| some r =>have rl:=rl r hr;have hn:q.1∈Rc rw:=aU.mpr #[_,dQ hr,rfl];rw[QZ hn] at t2;refine sF ((vf (aM (aG rfl rfl t1))).trans (aM (aG rfl (bh rfl eh rfl) t2))) (sA (cW rfl er (aH (f8 (bh rfl er rfl) rfl hk) rfl) (DZ er hl)) ?_);have an:=Xb (h:=h) (bs:=r.map λx=>decide (x.1∉SW (Q9 c') q));rw[show((r.map λx=>decide (x.1∉SW (Q9 c') q)).any id)=(Rc r).any λx=>decide (x∉SW (Q9 c') q)by simp[Rc,wP,Function.comp_def]] at an;refine sB (aM (aJ (aH (cA (D2 (kI (bh rfl eh rfl) rfl hr)) qv (NAG.gl32 rl) (λx hx=>#[_,rfl,aG rfl rfl yu]) (by simp)) rfl) an)) (λy=>?_) λy=>?_;dsimp only;rw[QY y];exact sR rfl (bF rfl);dsimp only;rw[QX (by lia)];refine sR (cA (eX rfl) c9 (k6 (eF _ _) (NAG.gl32 hl)) (λx hx=>#[_,rfl,vv (z:=((0,1))) (kI (bh rfl eh rfl) rfl hr) rfl rfl]) ?_) (bF rfl);simp
noncomputable def Z7 (bu nU:Row):List (Q7×(xag)×(xag)):=(nU.map λp=>(p.1,(Sk p.1 bu).getD (0,1),p.2)).filter λx=>decide (x.2.1≠x.2.2)
noncomputable def ZL (x:Q7×(xag)×(xag)):D:=.tup [.str x.1,SA x.2.1,SA x.2.2]
theorem Lp {p u:xag}:TK tj (SA p) (SA u) h=.ok (.bl (decide (p≠u))) h:=by(have e0:TK tj (SA p) (SA u) h=(TK ff (SA p) (SA u) h).bnd λx h=>match x with| .bl b=>.ok (.bl (! b)) h| _=>.no:=by show RU (UQ 60 (SA p)&&UQ 60 (SA u)) (Rz (dEq 60 (SA p) (SA u)) _)=R.bnd (RU (UQ 60 (SA p)&&UQ 60 (SA u)) (Rz (dEq 60 (SA p) (SA u)) _)) _;cases UQ 60 (SA p)&&UQ 60 (SA u)with| false=>rfl| true =>cases dEq 60 (SA p) (SA u)with| none=>rfl| some b=>cases b<;>rfl);rw[e0,DQ,decide_not];rfl
theorem Lq (eh:h[i]?=se (.mi 2 (Wb c tk rw bu)))(nd:(Rc nU).Nodup)(hl:nU.length<=40):T6 [.at i,VY SA nU] h=.ok (.lst ((Z7 bu nU).map ZL)) h:=by refine a8 rfl (sA (cA rfl qv (NAG.gl32 hl) (λx hx=>#[_,rfl,gP (aH rfl (aH (vv (z:=(0,1)) (bh rfl eh rfl) rfl rfl) (aH (kI rfl rfl (eM nd hx)) rfl))) rfl]) (by simp[ZL])) (sR (cM (eX rfl) c9 (by simp;exact NAG.gl32 hl) (λx hx=>#[_,rfl,aM (aG rfl rfl Lp),λ_=>rfl]) (show _=(Z7 bu nU).map ZL from rfl)) (bF rfl)))
noncomputable def WC (p:List Q7) (x:(Q7×(Int×List Q7))×xac):Row:=((SW p x.1).zip x.2).filter λy=>decide (0<y.2.1)
noncomputable def Vi (p:List Q7) (z:List ((Q7×(Int×List Q7))×xac)):List (Q7×Row):=z.map λx=>(x.1.1,WC p x)
noncomputable def SY (p:List Q7) (l:bx) (R:xaa):List (Q7×Row):=Vi p (l.zip R)
theorem Lr (z1:fa ρ h=.ok (.at m) h)(e:h[m]?=se (.mf 0))(z2:fb ρ h=.ok (SA u) h):Zb lb fa (Q2 fb Q6) ρ h=.ok (.bl (decide (0<u.1))) h:=by(have em:eMf h (.at m)=se 0:=by grind[eMf,aW]);unfold Zb;rw[z1];show Rz (eMf h (.at m)) _=_;rw[em];rw[aH z2 rfl];show Rz (eMf h (.at m)) _=_;rw[em];show R.nox (Rp YO (Rk (rV 0) [Α,0]) [Α,0] [se (SA u)] h)=_;rw[aG rfl rfl gt_int];rfl
theorem rW (z1:fv ρ h=.ok (f a) h)(z2:fx ρ h=.ok (.at i) h)(z3:fy ρ h=.ok (.str kx) h)(e:h[i]?=se (.md (Sl l) (Tu f l)))(nd:(Rc l).Nodup)(hl:l.length<=1000):WE fv fx fy ρ h=.ok (.nx ρ) (h.set i (.md (Sl (putS kx a l)) (Tu f (putS kx a l)))):=by(have e1:X7 h (.at i)=se (i,Sl l,Tu f l):=by unfold X7;dsimp only;rw[aW,e]);(have e2:Yi (.at i) h=tj:=by unfold Yi eK;dsimp only;rw[aW,e]);unfold WE;rw[z1];show R.bnd (fx ρ h) _=_;rw[z2];show R.bnd (fy ρ h) _=_;rw[z3];show(bif Yi (.at i) h then gDput (.at i) (.str kx) (f a) ρ h else _)=_;rw[e2];show Rz (X7 h (.at i)) _=_;rw[e1];show RU (ZA (Sl l)&&bH (Sn (Sl l)) 16777216) _=_;rw[vr nd,aV,rU,cD.mpr (NAG.gl63 hl)];show R.ok (Fl.nx ρ) (hs h i (.md (U0 (.inr kx) (Sl l)) (Wr (.inr kx) (f a) (Sl l) (Tu f l))))=_;rw[iV,DR,DS]
theorem Ls (z:fa ρ (h++[.md (Sl l) (Tu f l)])=.ok (.at h.length) (h++[.md (Sl l) (Tu f l)])):rFz fa ρ (h++[.md (Sl l) (Tu f l)])=.ok (VY f l) (h++[.no]):=by unfold rFz;rw[z];show Rz (X7 _ (.at h.length)) _=_;(have:X7 (h++[.md (Sl l) (Tu f l)]) (.at h.length)=se (h.length,Sl l,Tu f l):=by unfold X7;dsimp only;rw[aW,R9];rfl);rw[this];show RX.R.ok (VY f l) (hs _ h.length .no)=_;rw[iV,oJ];rfl
theorem Lu:WG tj ρ h=.ok (.at h.length) (h++[.md [] []]):=by show RX.R.ok (D.at (hn h)) (hp h (.md [] []))=_;rw[fM,fO]
theorem D5:∀{l:List α} {R:List β},((l.map f1).zip ((l.map f2).zip (R.map f3))).map (λp=>D.tup [p.1,p.2.1,p.2.2])=(l.zip R).map λx=>.tup [f1 x.1,f2 x.1,f3 x.2]| [],_=>rfl| _::_,[]=>rfl| a::l,b::R=>by show D.tup [f1 a,f2 a,f3 b]::(((l.map f1).zip ((l.map f2).zip (R.map f3))).map λp=>D.tup [p.1,p.2.1,p.2.2])=_;rw[D5];rfl
theorem UH:∀{l:List α} {R:List β},((l.zip R).map Prod.fst).Sublist l| [],_=>Β| _::_,[]=>Β| a::l,b::R=>.cons₂ a UH
theorem Lw {x:(Q7×(Int×List Q7))×xac}(nd:x.1.2.2.Nodup):(Rc (WC p x)).Nodup:=((jt).map Prod.fst).nodup (UH.nodup (jt.nodup nd))
theorem Lx {R:xaa}(cl:Cl h)(er:h[j]?=se (.mi 1 (Ua c' bv)))(em:h[m]?=se (.mf 0))(nd:(Rc bv).Nodup)(hl:∀q∈bv,q.2.2.length<=40/\q.2.2.Nodup)(lt:bv.length<=40) :UU [.at j,.lst (R.map (Yt SA)),.at m] h=.ok (VY (VY SA) (SY (Q9 c') (S4 (Q9 c') bv) R)) h:=by have lin:∀q∈S4 (Q9 c') bv,q∈bv:=λq hq=>(bi.mp hq).1;have ll:(S4 (Q9 c') bv).length<=40:=bW (eF _ _) lt;have lnd:(Rc (S4 (Q9 c') bv)).Nodup:=(jt.map _).nodup nd;have e0:(Ua c' bv)[1]?=se (dealtD (S4 (Q9 c') bv)):=rfl;have e2:(Ua c' bv)[3]?=se (Zg (Q9 c') (S4 (Q9 c') bv)):=rfl;generalize S4 (Q9 c') bv=l at lin ll lnd e0 e2 ⊢;(have D6:∀k,(Rc (Vi (Q9 c') ((l.zip R).take k))).Nodup:=λk=>by(have e:Rc (Vi (Q9 c') ((l.zip R).take k))=(((l.zip R).take k).map Prod.fst).map Prod.fst:=by simp[Rc,Vi,Function.comp_def]);rw[e];exact(List.Sublist.map Prod.fst (((Aq k (l.zip R)).map Prod.fst).trans UH)).nodup lnd);refine a8 rfl (sA Lu (sL (fq (l:=l.zip R) (λi ρ g=>(∃x y z,ρ=[se (.at j),se (.lst (R.map (Yt SA))),se (.at m),se (.at h.length),x,y,z])/\g=h++[.md (Sl (Vi (Q9 c') ((l.zip R).take i))) (Tu (VY SA) (Vi (Q9 c') ((l.zip R).take i)))]) (CY (bh rfl (cC er) e0) (bh rfl (cC er) e2) rfl) (λi _ _ _=>by rw[CO,D5]) (by grind) #[#[_,_,_,rfl],rfl] λi x ρ g hx #[#[a,b,c,e1],e2]=>?_) fun ρ g #[#[a,b,c,e1],e2]=>?_));subst e1 e2;obtain⟨xs,xn⟩:=hl x.1 (lin x.1 (bY (a:=x.1) (aK hx)).1);(have tK:(l.zip R).take (i+1)=(l.zip R).take i++[x]:=by rw[pP,hx];rfl);(have nw:x.1.1∉Rc (Vi (Q9 c') ((l.zip R).take i)):=by have z:=D6 (i+1);rw[tK] at z;unfold Vi Rc at z;rw[cV,cV] at z;exactλw=>(kq.mp z).2.2 _ w _ (cT.mpr rfl) rfl);have Tnd:=D6 i;(have Te:Vi (Q9 c') ((l.zip R).take (i+1))=putS x.1.1 (WC (Q9 c') x) (Vi (Q9 c') ((l.zip R).take i)):=by rw[tK,qu nw];simp[Vi]);(have Tl:(Vi (Q9 c') ((l.zip R).take i)).length<=1000:=by simp[Vi];exact NAG.gl69 ll);rw[Te];generalize Vi (Q9 c') ((l.zip R).take i)=T at Tnd Tl ⊢;refine#[_,by unfold rN3;rfl,nE (rW (l:=T) (aJ (aH (cM (oL (cW rfl (cC er) rfl (DZ (cC er) xs)) rfl) oO (by grind[kY,eF,Q9,SW]) (λy hy=>#[_,rfl,aM (Lr rfl (cC em) rfl),λ_=>rfl]) rfl) rfl) (yt (l:=WC (Q9 c') x) (Lw xn))) rfl rfl R9 Tnd Tl) #[#[_,_,_,rfl],?_]];rw[oJ];rfl;subst e1 e2;rw[mu];exact sR (Ls rfl) (li cl (oQ λa=>oQ λb=>kH))
end
section
variable {ws:xae}{aF:xab}{ae:Nat}{R R':xaa}{qs:xac}
theorem D7 (h:p.2∣M0):vl (M0*k) p=vl M0 p*k:=by grind[vl,ee,eE,M0,Int.mul_ediv_assoc]
theorem Ly {s:xac}(h:∀p∈s,p.2∣M0):(s.map (vl (M0*k))).sum=(s.map (vl M0)).sum*k:=by induction s with| nil=>rw[kZ,oh,kZ,oh,km]| cons p s ih=>rw[be,bL,be,bL,ih λq hq=>h q (.tail _ hq),D7 (h p (.head _)),kW]
theorem Lz (h:∀x∈L,x.2.2∣M0):US (M0*k) L g=US M0 L g*k:=by unfold US;induction L with| nil=>simp_all| cons p s ih =>rw[be,bL,be,bL,ih λq hq=>h q (.tail _ hq),D7 (h p (.head _)),kW];lia
theorem D8 (d:TN ws aF ae R qs)(x:MixOk ws aF ae R' qs):TN ws aF ae R' qs:=by refine#[#[x.len,x.row,λM hM dM i s hs=>?_,x.ok,λM hM dM g q hq=>?_,x.even],d.len,d.ok,d.rows,d.few,d.h12];obtain⟨k,rfl⟩:=dM;show(s.map (vl (M0*k))).sum=ws.getD i 0*(M0*k);rw[Ly λp hp=>(x.ok s (aK hs) p hp).2.2.1,x.sum i s hs,ee];obtain⟨k,rfl⟩:=dM;obtain⟨l,e⟩:=x.ld g q hq;refine#[l,?_];show q.1*(M0*k)=q.2*US (M0*k) (R7 aF R') g;rw[Lz λy hy=>?_,<-ee,e,ee];obtain⟨z,hz,hy⟩:=ju.mp hy;exact(x.ok z.2 (bY hz).2 y.2 (bY hy).2).2.2.1
end
section
variable {α:Type}{f:α->D}{h h' h2:TH}{i j c n:Nat}{ρ:R4}{fa fb:RE}{l m:List (Q7×α)}
noncomputable def Yo (l m:List (Q7×α)):List (Q7×α):=m.foldl (λl p=>putS p.1 p.2 l) l
theorem LA:∀{m l:List (Q7 × α)},XZ (Sl l) (Tu f l) (Sl m) (Tu f m)=(Sl (Yo l m),Tu f (Yo l m)):=by intro m;induction m with| nil =>exact rfl| cons p m ih =>rintro l;show XZ (U0 (.inr p.1) (Sl l)) (Wr (.inr p.1) (f p.2) (Sl l) (Tu f l)) (Sl m) (Tu f m)=_;rw[DR,DS,ih];rfl
theorem LB:∀{m l:List (Q7 × α)},(∀x∈Rc m,x∈Rc l)->Rc (Yo l m)=Rc l:=by intro m;induction m with| nil =>rintro l _;exact rfl| cons p m ih =>rintro l h;show Rc (Yo (putS p.1 p.2 l) m)=_;have e:=oP (a:=p.2) (h p.1 (.head _));rw[ih λx hx=>by rw[e];exact h x (.tail _ hx),e]
theorem vw:Sk x (putS k a l)=if k=x then se a else Sk x l:=by induction l with| nil=>show Sk x [(k,a)]=_;rw[dH]| cons p l ih =>rw[qr];by_cases c:p.1=k;rw[QY c,dH,dH];simp_all;rw[QX c,dH,dH,ih];lia
theorem D9:∀{m l:List (Q7 × α)},(Rc m).Nodup->Sk x (Yo l m)=(Sk x m).or (Sk x l):=by intro m;induction m with| nil =>rintro l _;exact rfl| cons p m ih =>rintro l nd;have hP:=eG.mp nd;show Sk x (Yo (putS p.1 p.2 l) m)=_;rw[ih hP.2,vw,dH];by_cases e:p.1=x;rw[QY e,QY e,SK.mpr λz=>hP.1 (show p.1∈Rc m from e▸z)];rfl;simp_all
theorem LC {p:List Q7}{qs:List α}(z1:fa ρ h=.ok (.lst (p.map .str)) h')(z2:fb ρ h'=.ok (.lst (qs.map f)) h2)(nd:p.Nodup)(e:qs.length=p.length)(hl:p.length<=1000):rDz tj fa fb ρ h=.ok (.at h2.length) (h2++[.md (Sl (p.zip qs)) (Tu f (p.zip qs))]):=by(have k1:Sl (p.zip qs)=p.map .inr:=by show(p.zip qs).map (Sum.inr∘Prod.fst)=_;rw[<-cB,wM Β]);(have k2:Tu f (p.zip qs)=qs.map f:=by show(p.zip qs).map (f∘Prod.snd)=_;rw[<-cB,uy Β]);(have e1:RB dk (p.map D.str)=se (Sl (p.zip qs)):=by rw[k1];exact lr λx _=>rfl);have nk:=vr (by show((p.zip qs).map Prod.fst).Nodup;rw[wM Β];exact nd);unfold rDz;rw[z1];show R.bnd (fb ρ h') _=_;rw[z2];show Rz (RB dk (p.map D.str)) _=_;rw[e1];show RU (ZA (Sl (p.zip qs))&&(bZ (Sn (Sl (p.zip qs))) (Sn (qs.map f))&&bQ (Sn (Sl (p.zip qs))) 1000)) _=_;rw[nk,aV,aV,k1,bn,bn,e,gW,dz.mpr hl];show R.ok (D.at (hn h2)) (hp h2 (.md _ _))=_;rw[fM,fO,k2]
theorem qy (e:h[i]?=se (.md ks ds)):X7 h (.at i)=se (i,ks,ds)/\Yi (.at i) h=tj:=by grind[X7,aW,Yi,eK]
theorem LD (z1:fa ρ h=.ok (.at i) h)(e1:h[i]?=se (.md (Sl l) (Tu f l)))(z2:fb ρ h=.ok (.at j) h2)(e2:h2[i]?=se (.md (Sl l) (Tu f l)))(e3:h2[j]?=se (.md (Sl m) (Tu f m)))(ne:i≠j)(nd:(Rc l).Nodup)(hl:l.length+m.length<=1000):rUpd fa fb ρ h=.ok .non (h2.set i (.md (Sl (Yo l m)) (Tu f (Yo l m)))):=by unfold rUpd;rw[z1];show RU (Yi (.at i) h) _=_;rw[(qy e1).2];rw[z2];show Rz (X7 h2 (.at i)) _=_;rw[(qy e2).1];rw[(qy e3).1];show RU (! Nat.beq i j&&(ZA (Sl l)&&bQ (Sn (Sl l)+Sn (Sl m)) 1000)) _=_;rw[show bZ i j=ff from e9.mpr λz=>ne (mD z),vr nd,aV,aV,rU,rU,dz.mpr hl];show R.ok D.non (hs h2 i (.md (XZ (Sl l) (Tu f l) (Sl m) (Tu f m)).1 (XZ (Sl l) (Tu f l) (Sl m) (Tu f m)).2))=_;rw[LA,iV]
theorem vy (z:f' ρ h=.ok (.nx ρ') h2)(e1:ρ'[n]?=se (se (.at i)))(e2:h2[i]?=se (.md (Sl l) (Tu f l))):Zz n f' ρ h=.ok (.nx (ρ'.set n (se (VY f l)))) (h2.set i .no):=by unfold Zz;rw[z];show(match eg ρ' n with| some (se d)=>Rz (X7 h2 d) λp=>R.ok (Fl.nx (Yf ρ' n (se (.dic p.2.1 p.2.2)))) (hs h2 p.1 .no)| _=>.no)=_;grind[aW,Rz,X7,qy,Yf,VY,hs,eW,iV]
theorem LG (z1:fv ρ h=.ok y h')(z2:fa ρ h'=.ok (.at i) h')(z3:h'[i]?=se (.mi c ds))(hn:n<ds.length):X2 c n fa fv ρ h=.ok (.nx ρ) (h'.set i (.mi c (ds.set n y))):=by(have e:ZH c h' (.at i)=se (i,ds):=by grind[ZH,aW,bZ,gW]);unfold X2;rw[z1];show R.bnd (fa ρ h') _=_;rw[z2];show Rz (ZH c h' (.at i)) _=_;rw[e];show RU (bQ n (Sn ds)) _=_;rw[aV,dz.mpr (eI hn),cD.mpr hn];show R.ok (Fl.nx ρ) (hs h' i (.mi c (Yf ds n y)))=_;rw[iV,eW]
end
noncomputable def Yc (c:bG) (t:bx):xae:=(S4 (Q9 c) t).map λq=>q.2.1
noncomputable def UM (c:bG) (t:bx):xab:=(S4 (Q9 c) t).map λq=>UF (Q9 c) q.2.2
noncomputable def Uc (c:bG) (t:bx) (rw:List (Q7×Row)) (to:Option Q7):List (Option xac):=(S4 (Q9 c) t).map (TL (Q9 c) rw to)
noncomputable def V9 (c:bG) (bu:Row):xac:=(Q9 c).map λx=>(Sk x bu).getD (0,1)
noncomputable def TQ (c:bG) (qs:xac):Row:=Yo (c.map λp=>(p.1,((0,1):xag))) ((Q9 c).zip qs)
section
variable {h t:TH}{c c':bG}{tk bv:bx}{p:List Q7}{i k m:Nat}{o:TM}{x:Q7}{rw:List (Q7×Row)}{bu:Row}{q:Q7×(Int×List Q7)}{to:Option Q7}
theorem Ea {l:List Q7}:cd n (m+2) (.lst (l.map .str)):=λd hd=>by obtain⟨x,_,rfl⟩:=aU.mp hd;trivial
theorem yv:ct n (.mi 2 (Wb c tk rw bu)):=λd hd=>by rcases bj.mp hd with rfl | hd;exact oQ λ_=>trivial;rcases bj.mp hd with rfl | hd;(exact oQ λa d hd=>by rcases bj.mp hd with rfl | hd;trivial;rcases bj.mp hd with rfl | hd;exact Ea;cases hd);rcases bj.mp hd with rfl | hd;exact oQ λa=>oQ λb=>kH;rcases bj.mp hd with rfl | hd;exact oQ λb=>kH;rcases bj.mp hd with rfl | hd;trivial;cases hd
theorem Eb:ct n (.mi 1 (Ua c tk)):=λd hd=>by rcases bj.mp hd with rfl | hd;exact Ea;rcases bj.mp hd with rfl | hd;intro d hd;obtain⟨x,_,rfl⟩:=aU.mp hd;trivial;rcases bj.mp hd with rfl | hd;intro d hd;obtain⟨x,_,rfl⟩:=aU.mp hd;trivial;rcases bj.mp hd with rfl | hd;intro d hd;obtain⟨x,_,rfl⟩:=aU.mp hd;intro d hd;obtain⟨y,_,rfl⟩:=aU.mp hd;trivial;cases hd
theorem Ec:ct n (.md ks (Tu SA bu)):=λd hd=>by obtain⟨x,_,rfl⟩:=aU.mp hd;exact kH
theorem Ed (ndc:(Rc c).Nodup){qs:xac}:Rc (TQ c qs)=Rc c:=by unfold TQ;rw[LB];unfold Rc;rw[cB];rfl;intro x hx;have:=UH.subset hx;unfold Rc;rw[cB];obtain⟨y,hy,rfl⟩:=aU.mp this;exact aU.mpr #[y,(bi.mp hy).1,rfl]
theorem LH (e:h[i]?=se o):h.set i o=h:=i7 λk=>by by_cases c:i=k;subst c;rw[fK (aQ.mp e).1,e];rw[bN c]
theorem LI {f:α->D}(nd:(Rc l).Nodup):VV tj [.lst (l.map λp=>.tup [.str p.1,f p.2])] h=.ok (.at h.length) (h++[.md (Sl l) (Tu f l)]):=by rw[yt nd];show RX.R.ok (D.at (hn h)) (hp h _)=_;rw[fM,fO]
theorem LJ (z:fa ρ h=.ok d h):Q2 fa (Q2 (rLam n) Q6) ρ h=.ok [d,.at h.length] (h++[.mf n]):=by unfold Q2;rw[z];show RX.R.ok [d,.at (hn h)] (hp h (.mf n))=_;rw[fM,fO]
theorem sW (il:i<h.length)(z1:fv ρ (h.set i (.mi 2 ds)++t)=.ok y (h.set i (.mi 2 ds)++t'))(z2:fa ρ (h.set i (.mi 2 ds)++t')=.ok (.at i) (h.set i (.mi 2 ds)++t'))(k:(g ρ (h.set i (.mi 2 (ds.set n y))++t')).bnd (fin m)=r)(hn:n<ds.length:=by simp[Wb]):(Ra (X2 2 n fa fv) g ρ (h.set i (.mi 2 ds)++t)).bnd (fin m)=r:=by have e:=LG (c:=2) z1 z2 (by grind) hn;rw[show(h.set i (.mi 2 ds)++t').set i (.mi 2 (ds.set n y))=h.set i (.mi 2 (ds.set n y))++t' by simp_all] at e;exact sG e k
theorem LK (cl:Cl h)(eh:h[i]?=se (.mi 2 (Wb c tk rw bu)))(ndc:(Rc c').Nodup)(ndt:(Rc bv).Nodup)(lc:c'.length<=40)(lt:bv.length<=40)(ln:∀q∈bv,q.2.2.length<=40/\q.2.2.Nodup)(nt:∀q∈bv,Ye q.1)(ht:∀y,to=se y->Ye y)(rl:∀x r,Sk x rw=se r->r.length<=40)(A:ZQ (Yc c' bv) (UM c' bv))(h12:(Q9 c').length<=12)(rows:WX (Yc c' bv).length (Q9 c').length (UM c' bv))(F:Fit (Yc c' bv) (UM c' bv) (Q9 c').length (Uc c' bv rw to) (V9 c' bu)) :∃R qs,Sv [.at i,VY .bl c',VY tkD bv,Y6 to] h=.ok (.lst ((Z7 bu (TQ c' qs)).map ZL)) (h.set i (.mi 2 (Wb c' bv (SY (Q9 c') (S4 (Q9 c') bv) (VT (UM c' bv) (Uc c' bv rw to) R qs (V9 c' bu))) (TQ c' qs))))/\TN (Yc c' bv) (UM c' bv) (Q9 c').length R qs:=by have il:=(aQ.mp eh).1;have i3:=cl.app (Eb (c:=c') (tk:=bv));obtain⟨R,qs,s5,Dk⟩:=K6 i3 A h12 rows F.old;have Dm:=D8 Dk (F.mix R qs Dk);refine#[R,qs,?_,Dk];generalize VT (UM c' bv) (Uc c' bv rw to) R qs (V9 c' bu)=Rm at s5 Dm ⊢;(have e1:(h++[.mi 1 (Ua c' bv)])[i]?=se (.mi 2 (Wb c tk rw bu)):=by grind);(have g1:(h++[.mi 1 (Ua c' bv)])[h.length]?=se (.mi 1 (Ua c' bv)):=by simp);have ll:(S4 (Q9 c') bv).length<=40:=bW (eF _ _) lt;unfold Sv;(have ed:(Ua c' bv)[3]?=se (.lst ((UM c' bv).map Rq)):=by simp[Ua,Zg,UM]);refine a8 rfl (sA (aJ rfl (Lh cl ndc ndt lc lt λq hq=>(ln q hq).1)) ?_);refine sA (aJ (aH (bh rfl g1 rfl) rfl) dY) (sA (cA (rH (aH (aJ (aH (bh rfl g1 rfl) rfl) dY) rfl) (NAG.gl32 ll)) rE (by rw[kX];exact NAG.gl32 ll) (λk hk=>?_) (CV (l:=Uc c' bv rw to) (f:=optR) (d:=ng) (by simp[Uc]))) ?_);have hq:=aT (dy.mp hk);have mq:=(bi.mp (aK hq)).1;refine#[_,rfl,(cW rfl e1 rfl (Lm e1 g1 hq (nt _ mq) ht (ln _ mq).1 λr hr=>rl _ r hr)).trans ?_];simp[Uc,hq];refine sA (cA (eX (bh rfl g1 rfl)) c9 (NAG.gl33 h12) (λx hx=>#[_,rfl,vv (f:=SA) (z:=(0,1)) (bh rfl e1 rfl) rfl rfl]) (L:=(V9 c' bu).map SA) (by simp[V9])) (sA (aJ (aH (bh rfl g1 (by simp[Ua,worksD,Yc])) (aH (bh rfl g1 ed) rfl)) s5) ?_);(have nl0:Rc (c'.map λp=>(p.1,((0,1):xag)))=Rc c':=by simp[Rc]);refine sA (aJ (aH (cA rfl qv (NAG.gl32 lc) (λx hx=>#[_,rfl,rfl]) (L:=(c'.map λp=>(p.1,((0,1):xag))).map λp=>.tup [.str p.1,SA p.2]) (by simp[SA])) rfl) (LI (nl0▸ndc))) ?_;obtain⟨cU,s7,ql,ld⟩:=DK (i3.app (Ec (ks:=Sl (c'.map λp=>(p.1,((0,1):xag)))) (bu:=c'.map λp=>(p.1,(0,1))))) Dm.rat;cases LdB.uniq eJ ld Dm.ldb (ql.trans Dm.len.symm);generalize tS:(c'.map λp=>(p.1,((0,1):xag)))=l0 at s7 nl0 ⊢;(have ll0:l0.length=c'.length:=by rw[<-tS,bn]);(have eb:Yo l0 ((Q9 c').zip qs)=TQ c' qs:=by rw[<-tS];rfl);(have g2:(h++[.mi 1 (Ua c' bv)]++[.md (Sl l0) (Tu SA l0)])[h.length]?=se (.mi 1 (Ua c' bv)):=Β);refine sGe (h2:=h.set i (.mi 2 (Wb c tk rw bu))++[.mi 1 (Ua c' bv),.no,.md (Sl ((Q9 c').zip qs)) (Tu SA ((Q9 c').zip qs))]) (vy (f:=SA) (l:=Yo l0 ((Q9 c').zip qs)) (fZ (LD (f:=SA) (l:=l0) (m:=(Q9 c').zip qs) rfl (by simp) (LC (bh rfl g2 rfl) (aJ (aH (bh rfl g2 ed) rfl) s7) (kJ ndc) ql (by lia)) (by grind) (by grind) (by simp) (nl0▸ndc) (by grind))) rfl (by simp)) (by rw[LH eh,kr,fY _ [_] [_],oJ,fY];rfl) ?_;rw[eb];have nb:=Ed ndc (qs:=qs);(have lb:(TQ c' qs).length=c'.length:=by have:=congrArg pS nb;simpa [Rc] using this);(have hb:∀{ds t},(h.set i (.mi 2 ds)++t)[i]?=se (.mi 2 ds):=by grind);(have gr:∀{ds t},(h.set i (.mi 2 ds)++ .mi 1 (Ua c' bv)::t)[h.length]?=se (.mi 1 (Ua c' bv)):=Β);refine sA (cW rfl hb rfl (Lq hb (nb▸ndc) Β)) (sW il rfl rfl (sW il rfl rfl (sW il ((cW rfl gr (LJ rfl) (Lx (Cl.apps (Cl.apps (cl.set yv) ?_) ?_) (cC gr) (by simp) ndt ln lt)).trans (by rw[fY];rfl)) rfl (sW il rfl rfl (sW il rfl rfl (sR rfl ?_))))));simp only[bj,gM,or_false,forall_eq_or_imp,forall_eq];exact#[Eb,trivial,Ec];simp only[bj,gM,or_false,forall_eq];trivial;have tr:=li (t:=[.mi 1 (Ua c' bv),.no,.md (Sl ((Q9 c').zip qs)) (Tu SA ((Q9 c').zip qs))]++[.mf 0]) (v:=.lst ((Z7 bu (TQ c' qs)).map ZL)) (cl.set (i:=i) (yv (c:=c') (tk:=bv) (rw:=SY (Q9 c') (S4 (Q9 c') bv) Rm) (bu:=TQ c' qs))) (λd hd=>by obtain⟨x,_,rfl⟩:=aU.mp hd;intro d hd;simp only[bj,gM,or_false] at hd;rcases hd with rfl | rfl | rfl;trivial;exact kH;exact kH);rwa [eV] at tr
end
section
variable {h:TH}{c:bG}{t:bx}{p ns:List Q7}{R:xaa}{qs:xac}{q:Q7×(Int×List Q7)}{x:Q7}
structure CT (c:bG)(t:bx):Prop where
 ndc:(Rc c).Nodup
 ndt:(Rc t).Nodup
 lc:c.length<=12
 lt:t.length<=20
 nt:∀q∈t,Ye q.1
 pos:∀q∈t,1<=q.2.1
 bd:∀q∈t,Bd 300 q.2.1
 sub:∀q∈t,q.2.2.Sublist (Rc c)
theorem LM (nd:(Rc c).Nodup)(hy:y∈c):y.1∈Q9 c↔y.2=tj:=by constructor;intro z;obtain⟨w,hw,e⟩:=aU.mp z;obtain⟨w1,w2⟩:=bi.mp hw;have a:=eM nd (show(y.1,y.2)∈c from hy);have b:=eM nd (show(w.1,w.2)∈c from w1);simp_all;exactλz=>aU.mpr #[y,bi.mpr #[hy,z],rfl]
theorem yw (nd:(Rc c).Nodup):(Rc c).filter (λx=>decide (x∈Q9 c))=Q9 c:=by unfold Rc;rw[qX];congr 1;refine wK λy hy=>?_;show decide (y.1∈Q9 c)=y.2;rw[fJ,decide_eq_true_iff];exact LM nd hy
theorem LN (nd:p.Nodup):p.Pairwise λa b=>p.idxOf a<p.idxOf b:=by rw[qS];intro i j hi hj lt;rw[nd.idxOf_getElem,nd.idxOf_getElem];exact lt
theorem LO (nd:(Rc c).Nodup)(s:ns.Sublist (Rc c)):(UF (Q9 c) ns).Pairwise (· < ·):=by have s1:=s.filter λx=>decide (x∈Q9 c);rw[yw nd] at s1;unfold UF;rw[Ap];exact(LN (kJ nd)).sublist s1
theorem jR (hq:q∈S4 p t):q∈t/\UF p q.2.2≠[]:=by obtain⟨a,b⟩:=bi.mp hq;exact#[a,λz=>by rw[z] at b;exact absurd (Q0 b) (om 0)]
theorem CT.p12 (k:CT c t):(Q9 c).length<=12:=bW DW k.lc
theorem CT.rows (k:CT c t):WX (Yc c t).length (Q9 c).length (UM c t):=by refine#[by unfold UM Yc;rw[bn,bn],λr hr=>?_];obtain⟨q,hq,rfl⟩:=aU.mp hr;obtain⟨m,ne⟩:=jR hq;exact#[ne,LO k.ndc (k.sub q m),DY]
theorem CT.asks (k:CT c t):ZQ (Yc c t) (UM c t):=by have dl:(S4 (Q9 c) t).length<=20:=bW (eF _ _) k.lt;refine#[by unfold UM Yc;rw[bn,bn],by unfold Yc;rw[bn];exact dl,λr hr=>?_,λw hw=>?_,λw hw=>?_];have:=k.rows.2 r hr;exact bW (kD this.2.1 this.2.2) (bW k.p12 Γ);obtain⟨q,hq,rfl⟩:=aU.mp hw;exact k.pos q (jR hq).1;obtain⟨q,hq,rfl⟩:=aU.mp hw;exact k.bd q (jR hq).1
structure V3 (c:bG)(t:bx)(R:xaa)(qs:xac):Prop where
 ct:CT c t
 deal:TN (Yc c t) (UM c t) (Q9 c).length R qs
noncomputable def X1 (c:bG) (t:bx) (R:xaa):List (Q7×Row):=SY (Q9 c) (S4 (Q9 c) t) R
noncomputable def T4 (c:bG) (t:bx) (R:xaa) (qs:xac):List D:=Wb c t (X1 c t R) (TQ c qs)
theorem LP (l:Yh u)(n:0<=u.1)(z:¬0<u.1):u=(0,1):=by(have a:=by exact NAG.gl23 n z);have b:=l.2;rw[a,Int.gcd_zero_left] at b;have c1:=l.1;grind
theorem Ee {l:bx}(nd:(Rc l).Nodup){k:Nat}(hq:l[k]?=se q)(hs:R[k]?=se s):Sk q.1 (SY p l R)=se (WC p (q,s)):=by refine eM ?_ ?_;(have e:Rc (SY p l R)=((l.zip R).map Prod.fst).map Prod.fst:=by unfold Rc SY Vi;simp_all);rw[e];exact(UH.map Prod.fst).nodup nd;exact aU.mpr #[(q,s),aK (bP.mpr #[hq,hs]),rfl]
theorem LQ {l:bx}(h:x∉Rc l):Sk x (SY p l R)=none:=SK.mpr λz=>by obtain⟨w,hw,e⟩:=aU.mp z;obtain⟨y,hy,rfl⟩:=aU.mp hw;exact h (aU.mpr #[y.1,(bY hy).1,e])
theorem oR (nd:q.2.2.Nodup):(SW p q).Nodup:=jt.nodup nd
theorem XJ:(UF p q.2.2).length=(SW p q).length:=by unfold UF SW;rw[bn]
theorem vz (nd:(Rc t).Nodup):(Rc (S4 p t)).Nodup:=(jt.map _).nodup nd
theorem Ef:∀{ps:List Q7} {qs:xac} {k:Nat},ps.Nodup->ps[k]?=se x->Sk x (ps.zip qs)=qs[k]?| [],_,k,_,h=>by trivial| y::ps,[],k,_,_=>by rfl| y::ps,u::qs,0,_,h=>by cases h;rw[iB,dH,QY rfl];rfl| y::ps,u::qs,k+1,nd,h=>by have hP:=eG.mp nd;rw[iB,dH,QX λe:y=x=>hP.1 (e▸aK h),Ef hP.2 h];rfl
theorem LR:(Sk x (c.map λp=>(p.1,((0,1):xag)))).getD (0,1)=(0,1):=by cases e:Sk x (c.map λp=>(p.1,((0,1):xag)))with| none=>rfl| some u =>obtain⟨y,_,z⟩:=aU.mp (dQ e);cases z;rfl
theorem Eg (nd:(Q9 c).Nodup):(Rc ((Q9 c).zip qs)).Nodup:=UH.nodup nd
theorem vA (ndc:(Rc c).Nodup){k:Nat}(hx:(Q9 c)[k]?=se x)(hu:qs[k]?=se u):(Sk x (TQ c qs)).getD (0,1)=u:=by grind[TQ,D9,Eg,kJ,Ef]
theorem vB (ndc:(Rc c).Nodup)(hx:x∉Q9 c):(Sk x (TQ c qs)).getD (0,1)=(0,1):=by unfold TQ;rw[D9 (Eg (kJ ndc)),SK.mpr λz=>hx (UH.subset z)];exact LR
end
end NAY
namespace NAP
section
variable {ae m n:Nat}{D:Nat->Nat->Prop}{w x:Nat->Int}{s os:Nat->Nat->Int}{e r:Nat->Nat}{kp:Nat->Bool}
structure Em (ae m:Nat)(e r:Nat->Nat):Prop where
 up:∀h<ae,e h<m/\r (e h)=h
 dn:∀g<m,r g<ae->e (r g)=g
theorem Em.sum (E:Em ae m e r)(F:Nat->Int):upTo (λg=>[Δ,r g<ae,F (r g)]) m=upTo F ae:=by have:=xW (g:=F) r (λg=>decide (r g<ae)) (λi _ h=>Q0 h) (λi hi k hk a b z=>by rw[<-E.dn i hi (Q0 a),<-E.dn k hk (Q0 b),z]) λj hj _=>#[e j,(E.up j hj).1,QZ (by rwa [(E.up j hj).2]),(E.up j hj).2];simp_all
theorem Dl.emb (A:Dl ae n D w s x)(E:Em ae m e r):Dl m n (λi g=>r g<ae/\D i (r g)) w (λi g=>[Δ,r g<ae,s i (r g)]) (λg=>[Δ,r g<ae,x (r g)]):=by refine#[λi hi g hg=>?_,λi hi g hg z=>?_,λi hi=>(E.sum λh=>s i h).trans (A.sum i hi),λg hg=>?_,λi hi g hg z k hk #[k1,k2]=>?_];split;exact A.nn i hi _ (by assumption);simp_all;split at z;exact#[by assumption,A.off i hi _ (by assumption) z];simp_all;split;exact A.load _ (by assumption);grind[Sf];split at z;rename_i g1;rw[QY g1,QY k1];exact A.even i hi _ g1 z _ k1 k2;simp_all
theorem Yg.res (X:Yg m n (λi g=>r g<ae/\D i (r g)) w (λi g=>[Δ,r g<ae,s i (r g)]) (λi g=>[Δ,r g<ae,os i (r g)]) (λg=>[Δ,r g<ae,x (r g)]) kp)(E:Em ae m e r):Yg ae n D w s os x kp:=by have at_:=E.up;refine#[λi hi k=>(E.sum λh=>os i h).symm.trans (X.sum i hi k),λi hi k h hh z g hg dg=>?_,λh hh=>?_];have a:=at_ h hh;have b:=at_ g hg;have:=X.even i hi k (e h) a.1 Β (e g) b.1 Β;simp_all;have a:=at_ h hh;have:=X.load (e h) a.1;simp_all
end
end NAP
namespace NAY
open PySem NAL NAL.EX NAL.RX NAM
section
variable {p N L:List Q7}{x y:Q7}{s:xac}{l:Row}{i g:Nat}
noncomputable abbrev rn (N p:List Q7) (g:Nat):Nat:=p.idxOf (N.getD g "")
theorem Eh (np:p.Nodup)(h:i<p.length):p.idxOf (p.getD i "")=i:=Β
theorem vC (nN:N.Nodup)(np:p.Nodup)(sub:∀x∈p,x∈N):NAP.Em p.length N.length (λh=>N.idxOf (p.getD h "")) (rn N p):=by have m:∀{l:List Q7} {i},i<l.length->l.getD i ""∈l:=λ{l i} h=>aK (getD_at' h "");refine#[λh hh=>#[fV (sub _ (m hh)),?_],λg hg h=>?_];show p.idxOf (N.getD (N.idxOf (p.getD h "")) "")=h;rw[kK (sub _ (m hh)),Eh np hh];rw[kK (z9.mp h),Eh nN hg]
noncomputable def vN (r:Row) (y:Q7):Int:=vl M0 ((Sk y r).getD (0,1))
theorem yx (h:y∉Rc l):vN l y=0:=by unfold vN;rw[SK.mpr h];rfl
theorem Ei (hx:x∈p):p.idxOf x=p.idxOf y↔x=y:=by constructor;intro z;have hy:=z9.mp (z▸fV hx);rw[<-kK hx,z,kK hy];rintro rfl;rfl
theorem Ej (sub:∀x∈L,x∈p)(nL:L.Nodup):∀{s:xac},s.length=L.length->[Δ,p.idxOf y<p.length,US M0 ((L.map λx=>p.idxOf x).zip s) (p.idxOf y)]=vN (L.zip s) y:=by induction L with| nil=>intro s _;split<;>rfl| cons a L ih =>intro s hs;match s,hs with| u::s,hs =>have ih:=ih (λx hx=>sub x (.tail _ hx)) (eG.mp nL).2 (by exact kz hs);(have e:US M0 (((a::L).map λx=>p.idxOf x).zip (u::s)) (p.idxOf y)=(if p.idxOf a=p.idxOf y then vl M0 u else 0)+US M0 ((L.map λx=>p.idxOf x).zip s) (p.idxOf y):=by rfl);(have ev:vN ((a::L).zip (u::s)) y=if a=y then vl M0 u else vN (L.zip s) y:=by unfold vN;rw[iB,dH];by_cases z:a=y;rw[QY z,QY z];rfl;rw[QX z,QX z]);rw[e,ev];by_cases z:a=y;subst z;have v0:=yx (l:=L.zip s) λz=>(eG.mp nL).1 (UH.subset z);have lt:=fV (sub a (.head _));rw[QY lt] at ih ⊢;rw[QY rfl,QY rfl,ih,v0,uf];rw[QX z,<-ih,QX λk=>z ((Ei (sub a (.head _))).mp k),nY]
theorem LS (nn:∀z∈l,0<=z.2.1)(nd:(Rc l).Nodup):vN (l.filter λz=>decide (0<z.2.1)) y=vN l y:=by induction l with| nil=>rfl| cons z l ih =>have ih:=ih (λz hz=>nn z (.tail _ hz)) (eG.mp nd).2;rw[jH];by_cases pz:0<z.2.1;rw[QY (QZ pz)];unfold vN at ih ⊢;rw[dH,dH];by_cases e:z.1=y;rw[QY e,QY e];rw[QX e,QX e,ih];rw[QX (by simp_all),ih];by_cases e:z.1=y;subst e;rw[yx (eG.mp nd).1];unfold vN;rw[dH,QY rfl];have:=nn z (.head _);show 0=vl M0 z.2;unfold vl;rw[show z.2.1=0 by lia,km];unfold vN;rw[dH,QX e]
theorem LU {f:Q7->xag}:Sk y (L.zip (L.map f))=if y∈L then se (f y)else none:=by induction L with| nil=>rfl| cons a L ih =>rw[be,iB,dH,ih];by_cases z:a=y;simp_all;simp[z,Ne.symm z]
end
section
variable {c c':bG}{t t':bx}{p N:List Q7}{R:xaa}{qs:xac}{q:Q7×(Int×List Q7)}{x:Q7}{to:Option Q7}{s:xac}{i g j:Nat}{rw:List (Q7×Row)}
theorem yz (hq:(S4 (Q9 c) t)[i]?=se q):(UM c t).getD i []=(SW (Q9 c) q).map λx=>(Q9 c).idxOf x:=by unfold UM;rw[bR,bo,hq];rfl
theorem CT.qnd (K:CT c t)(hq:(S4 (Q9 c) t)[i]?=se q):q.2.2.Nodup:=(K.sub q (jR (aK hq)).1).nodup K.ndc
theorem mT:∀x∈SW p q,x∈p:=λx hx=>Q0 (bi.mp hx).2
theorem vD (hq:(S4 (Q9 c) t)[i]?=se q):(rn N (Q9 c) g<(Q9 c).length/\rn N (Q9 c) g∈(UM c t).getD i [])↔N.getD g ""∈SW (Q9 c) q:=by rw[yz hq];constructor;rintro⟨_,z⟩;obtain⟨x,hx,e⟩:=aU.mp z;rw[<-(Ei (mT x hx)).mp e];exact hx;intro z;exact#[fV (mT _ z),aU.mpr #[_,z,rfl]]
theorem oS (d:TN (Yc c t) (UM c t) ae R qs)(hq:(S4 (Q9 c) t)[i]?=se q):∃s,R[i]?=se s/\s.length=(SW (Q9 c) q).length/\∀u∈s,XW u:=by have hl:=(aQ.mp hq).1;(have il:i<R.length:=by rw[d.ev.len];simpa [UM] using hl);have e:=aT il;exact#[_,e,(d.ev.row i (UF (Q9 c) q.2.2) _ (by simp[UM,hq]) e).trans XJ,λu hu=>d.ev.ok _ (aK e) u hu]
theorem rX (K:CT c t)(hq:(S4 (Q9 c) t)[i]?=se q)(hs:R[i]?=se s)(sl:s.length=(SW (Q9 c) q).length)(so:∀u∈s,XW u):[Δ,rn N (Q9 c) g<(Q9 c).length,Zn (UM c t) R i (rn N (Q9 c) g)]=vN (WC (Q9 c) (q,s)) (N.getD g ""):=by unfold Zn;rw[yz hq,show R.getD i []=s by simp_all];have nd:=oR (p:=Q9 c) (K.qnd hq);exact(Ej mT nd sl).trans (LS (λz hz=>(so _ (bY hz).2).2.1) (UH.nodup nd)).symm
noncomputable abbrev ldV (c:bG) (t:bx) (R:xaa) (N:List Q7) (g:Nat):Int:=[Δ,rn N (Q9 c) g<(Q9 c).length,US M0 (R7 (UM c t) R) (rn N (Q9 c) g)]
theorem LV (K:CT c t)(d:TN (Yc c t) (UM c t) (Q9 c).length R qs):FV M0 ((Sk (N.getD g "") (TQ c qs)).getD (0,1)) (ldV c t R N g):=by unfold ldV;by_cases z:rn N (Q9 c) g<(Q9 c).length;have e:=aT (by rwa [d.len]);rw[QY z,vA K.ndc Β e];exact d.ev.load M0 eJ (iP _) _ _ e;rw[QX z,vB K.ndc λm=>z (fV m)];exact#[#[Γ,Γ],rfl]
theorem Ek (K:CT c' t')(hq:(S4 (Q9 c') t')[j]?=se q)(ho:TL (Q9 c') rw to q=se o):∃r,to≠se q.1/\Sk q.1 rw=se r/\(∀x∈Rc r,x∈SW (Q9 c') q)/\∀g,[Δ,rn N (Q9 c') g<(Q9 c').length,osF (UM c' t') (Uc c' t' rw to) j (rn N (Q9 c') g)]=vN r (N.getD g ""):=by(have e:(Uc c' t' rw to).getD j ng=TL (Q9 c') rw to q:=by simp[Uc,hq]);unfold TL at ho;by_cases z:to=se q.1;simp_all;rw[QX z] at ho;split at ho;cases ho;rename_i r hr;split at ho;cases ho;rename_i a;(have a:=by simpa using a);refine#[r,z,hr,a,λg=>?_];unfold osF;rw[yz hq,e];(have e2:TL (Q9 c') rw to q=se ((SW (Q9 c') q).map λx=>(Sk x r).getD (0,1)):=by unfold TL;simp_all);rw[e2];refine(Ej (s:=(SW (Q9 c') q).map λx=>(Sk x r).getD (0,1)) mT (oR (K.qnd hq)) (by simp)).trans ?_;unfold vN;rw[LU];by_cases m:N.getD g ""∈SW (Q9 c') q;simp_all;rw[QX m,SK.mpr λk=>m (a _ k)]
end
end NAY
namespace NAM
open PySem NAL NAL.EX
theorem El {qs ys:xac}(d:TN ws aF ae R qs)(O:Zv aF ae au ys)(Y:Nat->Int)(hY:∀h y,ys[h]?=se y->FV M0 y (Y h))(i:Nat)(hi:i<aF.length) :WM (aF.getD i []) (au.getD i ng) qs ys=tj↔(au.getD i ng).isSome=tj/\∃h<ae,0<osF aF au i h/\US M0 (R7 aF R) h=Y h:=by have e:=getD_at' (show i<au.length by have:=O.len;simp_all) ng;unfold osF;cases ho:au.getD i ng with| none=>simp[WM]| some o =>rw[ho] at e;have fo:=O.ok o (aK e);show((aF.getD i []).zip o).any _=tj↔_;rw[gL];(have same:∀h<ae,qs.getD h (0,1)=ys.getD h (0,1)↔US M0 (R7 aF R) h=Y h:=λh hh=>by have f1:=d.ev.load M0 eJ (iP _) h _ (getD_at' (show h<qs.length by rwa [d.len]) (0,1));have f2:=hY h _ (getD_at' (show h<ys.length by rwa [O.yl]) (0,1));constructor;intro z;rw[z] at f1;have c:=f2.1.1;exact zN (a:=(ys.getD h (0,1)).2) (by exact di c) (by rw[<-f1.2,<-f2.2]);intro z;rw[z] at f1;exact f1.uniq eJ f2);constructor;rintro⟨x,hx,z⟩;simp only[cI,decide_eq_true_eq] at z;have mz:=bY hx;have hl:=(d.rows.2 _ (aK (getD_at' hi ([])))).2.2 x.1 mz.1;refine#[rfl,x.1,hl,?_,(same x.1 hl).mp z.2];have:=DM (λy hy=>(fo y.2 (bY hy).2).vn) hx;have:=(fo x.2 mz.2).vp.mpr z.1;grind;rintro⟨_,h,hh,z,e2⟩;obtain⟨x,hx,rfl,pv⟩:=yp z;refine#[x,hx,?_];simp only[cI,decide_eq_true_eq];exact#[(fo x.2 (bY hx).2).vp.mp pv,(same x.1 hh).mpr e2]
theorem LW:XW (0,1):=#[#[Γ,Γ],Γ,#[M0,(we _).symm],by show(0:Int).natAbs<_;trivial]
theorem En:qb (0,1):=#[#[Γ,Γ],Γ,Γ,by show(0:Int).natAbs<_;trivial]
end NAM
namespace NAY
open PySem NAL NAL.EX NAL.RX NAM
section
variable {c c':bG}{t t':bx}{p:List Q7}{R:xaa}{qs:xac}{q:Q7×(Int×List Q7)}{x y a:Q7}{to:Option Q7}{s:xac}{k:Nat}{r:Row}
theorem jO {l:bx}(nd:(Rc l).Nodup)(hq:q∈l):l[(Rc l).idxOf q.1]?=se q:=by obtain⟨k,hk⟩:=bz hq;(have e:(Rc l)[k]?=se q.1:=by simp[Rc,hk]);have kl:=(aQ.mp e).1;have:=nd.idxOf_getElem k kl;rw[(aQ.mp e).2] at this;rw[this];exact hk
theorem yA (H:V3 c t R qs)(e:Sk a (X1 c t R)=se r):∃(k:Nat) (q:Q7×(Int×List Q7)) (s:xac),(S4 (Q9 c) t)[k]?=se q/\q.1=a/\R[k]?=se s/\r=WC (Q9 c) (q,s):=by obtain⟨⟨q,s⟩,hz,ez⟩:=aU.mp (dQ e);obtain⟨k,hk⟩:=bz hz;obtain⟨h1,h2⟩:=bP.mp hk;cases ez;exact#[k,q,s,h1,rfl,h2,rfl]
theorem Eo (H:V3 c t R qs)(hq:(S4 (Q9 c) t)[k]?=se q)(hs:R[k]?=se s):Sk q.1 (X1 c t R)=se (WC (Q9 c) (q,s)):=Ee (vz H.ct.ndt) hq hs
theorem rY (h:y∈Rc (WC p (q,s))):y∈SW p q:=by obtain⟨z,hz,rfl⟩:=aU.mp h;exact(bY (bi.mp hz).1).1
theorem rZ (so:∀u∈s,XW u)(nd:(SW p q).Nodup):0<vN (WC p (q,s)) y↔y∈Rc (WC p (q,s)):=by constructor;intro z;apply Classical.byContradiction;intro k;rw[yx k] at z;simp_all;intro h;obtain⟨z,hz,rfl⟩:=aU.mp h;obtain⟨z1,z2⟩:=bi.mp hz;unfold vN;have hP:(Rc (WC p (q,s))).Nodup:=(jt.map _).nodup (UH.nodup nd);rw[eM hP (show(z.1,z.2)∈WC p (q,s)from hz)];exact(so z.2 (bY z1).2).vp.mpr (Q0 z2)
theorem Ep (H:V3 c t R qs)(K:CT c' t'):Zv (UM c' t') (Q9 c').length (Uc c' t' (X1 c t R) to) (V9 c' (TQ c qs)):=by(have oo:∀{q o},TL (Q9 c') (X1 c t R) to q=se o->o.length=(SW (Q9 c') q).length/\∀u∈o,XW u:=λ{q o} ho=>by unfold TL at ho;split at ho;cases ho;split at ho;cases ho;rename_i r hr;split at ho;cases ho;cases ho;refine#[by simp,λu hu=>?_];obtain⟨x,_,rfl⟩:=aU.mp hu;obtain⟨k,q',s,h1,_,h3,rfl⟩:=yA H hr;obtain⟨s',e,_,so⟩:=oS H.deal h1;cases h3.symm.trans e;cases z:Sk x (WC (Q9 c) (q',s))with| none=>exact LW| some v=>exact so v (bY (bi.mp (dQ z)).1).2);refine#[by simp[Uc,UM],λi r o hr ho=>?_,λo ho u hu=>?_,by simp[V9],λy hy=>?_];simp only[UM,Uc,bo,jM] at hr ho;obtain⟨q,hq,rfl⟩:=hr;obtain⟨q',hU,e⟩:=ho;cases hq.symm.trans hU;exact(oo e).1.trans XJ.symm;obtain⟨q,_,e⟩:=aU.mp ho;exact(oo e).2 u hu;obtain⟨x,_,rfl⟩:=aU.mp hy;by_cases m:x∈Q9 c;have z:=fV m;(have il:(Q9 c).idxOf x<qs.length:=by rw[H.deal.len];exact z);have e:=aT il;rw[vA H.ct.ndc (by rw[getD_at' z "",kK m]) e];exact H.deal.ok _ (aK e);rw[vB H.ct.ndc m];exact En
end
section
variable {c:bG}{t t':bx}{q:Q7×(Int×List Q7)}{x:Q7}{k:Nat}{p p':List Q7}
theorem oT (h:x∈Q9 c):x∈Rc c:=(jt.map _).subset h
theorem ir:(UM c t).length=(S4 (Q9 c) t).length:=by simp[UM]
theorem Er (hq:q∈t)(hx:x∈SW p q):q∈S4 p t:=bi.mpr #[hq,QZ (by rw[XJ];exact wo hx)]
noncomputable def fN (p p':List Q7) (t t':bx) (k:Nat):Nat:=if(Rc (S4 p t)).getD k ""∈Rc (S4 p' t')then(Rc (S4 p' t')).idxOf ((Rc (S4 p t)).getD k "")else(S4 p' t').length+k
theorem Es (hq:(S4 p t)[k]?=se q):(Rc (S4 p t)).getD k ""=q.1:=by simp[Rc,hq]
theorem Et {l:bx}(h:q∈l):q.1∈Rc l:=aU.mpr #[q,h,rfl]
theorem r4 (nd:(Rc t').Nodup)(hq:(S4 p t)[k]?=se q)(hm:q'∈S4 p' t')(e:q'.1=q.1):(S4 p' t')[fN p p' t t' k]?=se q':=by unfold fN;rw[Es hq,<-e,QY (Et hm)];exact jO (vz nd) hm
theorem yB (nd:(Rc t').Nodup)(hq:(S4 p t)[k]?=se q)(h:fN p p' t t' k<(S4 p' t').length):∃q',(S4 p' t')[fN p p' t t' k]?=se q'/\q'.1=q.1:=by by_cases m:q.1∈Rc (S4 p' t');obtain⟨q',hU,e⟩:=aU.mp m;exact#[q',r4 nd hq hU e,e];unfold fN at h;rw[Es hq,QX m] at h;lia
theorem yC (nd:(Rc t).Nodup)(h1:(S4 p t)[k]?=se q)(h2:(S4 p t)[j]?=se q')(e:q.1=q'.1):k=j:=by(have b:(Rc (S4 p t))[j]?=se q.1:=by simp[Rc,h2,e]);exact NAL.Zq (vz nd) (by simp[Rc,h1]) b
theorem Eu (ndt:(Rc t).Nodup)(nd:(Rc t').Nodup):∀i<(UM c t).length,∀k<(UM c t).length,fN (Q9 c) p' t t' i=fN (Q9 c) p' t t' k->i=k:=λi hi k hk e=>by rw[ir] at hi hk;have h1:=aT hi;have h2:=aT hk;by_cases z:fN (Q9 c) p' t t' i<(S4 p' t').length;obtain⟨q1,a1,b1⟩:=yB nd h1 z;obtain⟨q2,a2,b2⟩:=yB nd h2 (e▸z);rw[e,a2] at a1;cases a1;exact yC ndt h1 h2 (b1.symm.trans b2);(have g:∀{i q},(S4 (Q9 c) t)[i]?=se q->¬fN (Q9 c) p' t t' i<(S4 p' t').length->fN (Q9 c) p' t t' i=(S4 p' t').length+i:=λ{i q} h z=>by unfold fN at z ⊢;by_cases m:(Rc (S4 (Q9 c) t)).getD i ""∈Rc (S4 p' t');rw[QY m] at z;have:=fV m;exact absurd this (by simpa [Rc] using z);rw[QX m]);have:=g h1 z;have:=g h2 (e▸z);lia
end
section
variable {c c':bG}{t t':bx}{R:xaa}{qs:xac}{q:Q7×(Int×List Q7)}{x:Q7}{to:Option Q7}{k:Nat}{p:List Q7}
theorem XT:x∈SW p (a,(w,ns))↔x∈ns/\x∈p:=by simp[SW]
theorem mU (hq:(S4 (Q9 c) t)[k]?=se q):(Yc c t).getD k 0=q.2.1:=by simp[Yc,hq]
theorem Ew (H:V3 c t R qs)(sub:∀x∈Q9 c',x∈Rc c')(nN:(Rc c').Nodup)(h:Nat)(y:xag)(hy:(V9 c' (TQ c qs))[h]?=se y):FV M0 y (ldV c t R (Rc c') ((Rc c').idxOf ((Q9 c').getD h ""))):=by have e:=LV (N:=Rc c') (g:=(Rc c').idxOf ((Q9 c').getD h "")) H.ct H.deal;simp only[V9,bo,jM] at hy;obtain⟨x,hx,rfl⟩:=hy;(have ex:(Q9 c').getD h ""=x:=by rw[bR,hx];rfl);rw[ex] at e ⊢;rw[kK (sub x (aK hx))] at e;exact e
theorem Ex (E:NAP.Em ae m e r){F X Y:Nat->Int}:(∃h<ae,0<F h/\X h=Y (e h))↔∃g<m,0<[Δ,r g<ae,F (r g)]/\[Δ,r g<ae,X (r g)]=Y g:=by constructor;rintro⟨h,hh,z,e⟩;have u:=E.up h hh;exact#[_,u.1,by rw[u.2,QY hh];exact z,by rw[u.2,QY hh];exact e];rintro⟨g,hg,z,e⟩;split at z;rename_i l;rw[QY l] at e;exact#[_,l,z,by rw[E.dn g hg l];exact e];trivial
theorem vE (H:V3 c t R qs)(K:CT c' t')(cn:∀x∈Rc c,x∈Rc c')(hp:∀x∈Q9 c',x∈Rc c->x∈Q9 c) (ht:∀a w ns,(a,(w,ns))∈t->∃w',(a,(w',ns))∈t'/\w<=w'/\(w=w'↔to≠se a)):Fit (Yc c' t') (UM c' t') (Q9 c').length (Uc c' t' (X1 c t R) to) (V9 c' (TQ c qs)):=by have O:=Ep (to:=to) H K;have nN:=K.ndc;have np:=kJ H.ct.ndc;have np':=kJ K.ndc;have EA:=vC nN np λx hx=>cn x (oT hx);have EB:=vC nN np' λx hx=>oT hx;have sub:∀{q x},q∈t->x∈q.2.2->x∈Rc c:=λ{q x} hq hx=>(H.ct.sub q hq).subset hx;refine#[O,λR1 q1 d=>DO d O (NAP.Yg.res ?_ EB)];refine((rQ H.deal).emb EA).mix_up ((rQ d).emb EB) (f:=fN (Q9 c) (Q9 c') t t') (pl:=λg=>decide ((Rc c').getD g ""∈Q9 c')) #[λi hi=>?_,Eu H.ct.ndt K.ndt] (λj hj z=>?_) (λk hk a b=>?_) (λj hj=>(El d O _ (Ew H (λx=>oT) nN) j hj).trans (and_congr_right λ_=>Ex EB));rintro⟨g,hg,pg,z⟩;have hq:=aT (ir▸hi);generalize(S4 (Q9 c) t)[i]'(ir▸hi)=q at hq;obtain⟨s,hs,sl,so⟩:=oS H.deal hq;have qt:=(jR (aK hq)).1;rw[rX H.ct hq hs sl so,rZ so (oR (H.ct.qnd hq))] at z;obtain⟨w',m',le,_⟩:=ht q.1 q.2.1 q.2.2 qt;have dm:=rY z;have e:=r4 K.ndt hq (Er m' (XT.mpr #[(bi.mp dm).1,Q0 pg])) rfl;refine#[by rw[ir];exact(aQ.mp e).1,?_,λg hg=>?_];rw[mU hq,mU e];exact lY le (cy eJ);rw[vD e,vD hq];have sb:=sub (x:=(Rc c').getD g "") qt;simp only[SW,bi,decide_eq_true_eq];simp_all;obtain⟨o,ho⟩:=uE.mp z;have hq:=aT (ir▸hj);generalize(S4 (Q9 c') t')[j]'(ir▸hj)=q' at hq;rw[show(Uc c' t' (X1 c t R) to).getD j ng=TL (Q9 c') (X1 c t R) to q' by simp[Uc,hq]] at ho;obtain⟨r,_,hr,sb,os⟩:=Ek K hq ho;obtain⟨k,q,s,h1,h2,h3,rfl⟩:=yA H hr;obtain⟨s',e',sl,so⟩:=oS H.deal h1;cases h3.symm.trans e';refine#[k,by rw[ir];exact(aQ.mp h1).1,yC K.ndt (r4 K.ndt h1 (aK hq) h2.symm) hq rfl,λg hg=>#[(os g).trans (rX H.ct h1 h3 sl so).symm,λz=>?_]];rw[os g,rZ so (oR (H.ct.qnd h1))] at z;exact QZ (mT _ (sb _ z));have hq:=aT (ir▸hk);generalize(S4 (Q9 c) t)[k]'(ir▸hk)=q at hq;obtain⟨s,hs,sl,so⟩:=oS H.deal hq;have qt:=(jR (aK hq)).1;obtain⟨q',hU,e⟩:=yB K.ndt hq (ir▸a);obtain⟨w',m',le,iff⟩:=ht q.1 q.2.1 q.2.2 qt;have l1:=eM K.ndt (jR (aK hU)).1;have eq':q'=(q.1,(w',q.2.2)):=Prod.ext e (dX (l1.symm.trans ((congrArg (Sk · t') e).trans (eM K.ndt m'))));rw[show(Uc c' t' (X1 c t R) to).getD (fN (Q9 c) (Q9 c') t t' k) ng=TL (Q9 c') (X1 c t R) to q' by simp[Uc,hU]] at b;rw[mU hq,mU hU];by_cases z:to=se q.1;refine .inl λy=>?_;have:=DP y;rw[eq'] at this;exact iff.mp this z;right;unfold TL at b;rw[e,QX z,Eo H hq hs] at b;(have b:∃x∈Rc (WC (Q9 c) (q,s)),x∉SW (Q9 c') q':=by by_cases y:((Rc (WC (Q9 c) (q,s))).any λx=>decide (x∉SW (Q9 c') q'))=tj;simpa using y;dsimp only at b;rw[QX y] at b;cases b);obtain⟨x,hx,nx⟩:=b;have dx:=rY hx;have xN:=cn x (oT (mT x dx));refine#[(Rc c').idxOf x,fV xN,?_,?_];rw[rX H.ct hq hs sl so,rZ so (oR (H.ct.qnd hq)),kK xN];exact hx;rw[kK xN];refine Q1 λm=>nx ?_;rw[eq'];exact XT.mpr #[(bi.mp dx).1,m]
theorem yD (H:V3 c t R qs)(K:CT c' t')(cn:∀x∈Rc c,x∈Rc c')(hp:∀x∈Q9 c,x∈Q9 c') (ht:∀a w ns,(a,(w,ns))∈t'->∃w',(a,(w',ns))∈t/\w<=w'/\(w=w'↔to≠se a)):Fit (Yc c' t') (UM c' t') (Q9 c').length (Uc c' t' (X1 c t R) to) (V9 c' (TQ c qs)):=by have O:=Ep (to:=to) H K;have nN:=K.ndc;have EB:=vC nN (kJ K.ndc) λx hx=>oT hx;refine#[O,λR1 q1 d=>DO d O (NAP.Yg.res ?_ EB)];(have go:∀{i g},i<(UM c' t').length->(Rc c').getD g ""∈Q9 c->0<[Δ,rn (Rc c') (Q9 c') g<(Q9 c').length,Zn (UM c' t') R1 i (rn (Rc c') (Q9 c') g)]->∃q w',(S4 (Q9 c') t')[i]?=se q/\q.2.1<=w'/\(q.2.1=w'↔to≠se q.1)/\(S4 (Q9 c) t)[fN (Q9 c') (Q9 c) t' t i]?=se (q.1,(w',q.2.2)):=λ{i g} hi pg z=>by have hq:=aT (ir▸hi);generalize(S4 (Q9 c') t')[i]'(ir▸hi)=q at hq;obtain⟨s,hs,sl,so⟩:=oS d hq;rw[rX K hq hs sl so,rZ so (oR (K.qnd hq))] at z;obtain⟨w',m',le,iff⟩:=ht q.1 q.2.1 q.2.2 (jR (aK hq)).1;exact#[q,w',hq,le,iff,r4 H.ct.ndt hq (Er m' (XT.mpr #[(bi.mp (rY z)).1,pg])) rfl]);refine((rQ d).emb EB).mix_down ((rQ H.deal).emb (vC nN (kJ H.ct.ndc) λx hx=>cn x (oT hx))) (f:=fN (Q9 c') (Q9 c) t' t) (pl:=λg=>decide ((Rc c').getD g ""∈Q9 c)) #[λi hi=>?_,Eu K.ndt H.ct.ndt] (λj hj z=>?_) (λi hi b=>?_) (λj hj=>(El d O _ (Ew H (λx=>oT) nN) j hj).trans (and_congr_right λ_=>Ex EB));rintro⟨g,hg,pg,z⟩;obtain⟨q,w',hq,le,_,e⟩:=go hi (Q0 pg) z;refine#[by rw[ir];exact(aQ.mp e).1,?_,λg hg=>?_];rw[mU hq,mU e];exact lY le (cy eJ);rw[vD e,vD hq];simp only[SW,bi,decide_eq_true_eq];simp_all;obtain⟨o,ho⟩:=uE.mp z;have hq:=aT (ir▸hj);generalize(S4 (Q9 c') t')[j]'(ir▸hj)=q' at hq;rw[show(Uc c' t' (X1 c t R) to).getD j ng=TL (Q9 c') (X1 c t R) to q' by simp[Uc,hq]] at ho;obtain⟨r,_,hr,sb,os⟩:=Ek K hq ho;obtain⟨k,q,s,h1,h2,h3,rfl⟩:=yA H hr;obtain⟨s',e',sl,so⟩:=oS H.deal h1;cases h3.symm.trans e';have e:=r4 H.ct.ndt hq (aK h1) h2;cases yC H.ct.ndt h1 e rfl;refine#[by rw[ir];exact(aQ.mp e).1,λg hg=>#[(os g).trans (rX H.ct h1 h3 sl so).symm,λz=>?_]];rw[os g,rZ so (oR (H.ct.qnd h1))] at z;exact QZ (mT _ (rY z));rintro⟨g,hg,pg,z⟩;obtain⟨q,w',hq,le,iff,e⟩:=go hi (Q0 pg) z;obtain⟨s,hs,sl,so⟩:=oS H.deal e;rw[show(Uc c' t' (X1 c t R) to).getD i ng=TL (Q9 c') (X1 c t R) to q by simp[Uc,hq]] at b;rw[mU hq,mU e];intro y;unfold TL at b;rw[QX (iff.mp (DP y)),Eo H e hs] at b;dsimp only at b;rw[QX] at b;cases b;simp only[gL,decide_eq_true_eq,not_exists,not_and,Classical.not_not];intro x hx;have:=rY hx;exact XT.mpr #[(bi.mp this).1,hp x (mT x this)]
end
section
variable {h:TH}{c c':bG}{t t':bx}{ns:List Q7}{R:xaa}{qs:xac}{q:Q7×(Int×List Q7)}{x ch:Q7}{to:Option Q7}{w:Int}{i:Nat}
theorem yE (cl:Cl h)(H:V3 c t R qs)(eh:h[i]?=se (.mi 2 (T4 c t R qs)))(K:CT c' t')(ht:∀y,to=se y->Ye y)(F:Fit (Yc c' t') (UM c' t') (Q9 c').length (Uc c' t' (X1 c t R) to) (V9 c' (TQ c qs))) :∃R' cU,Sv [.at i,VY .bl c',VY tkD t',Y6 to] h=.ok (.lst ((Z7 (TQ c qs) (TQ c' cU)).map ZL)) (h.set i (.mi 2 (T4 c' t' R' cU)))/\V3 c' t' R' cU:=by(have nl:∀c t,CT c t->∀q∈t,q.2.2.length<=40/\q.2.2.Nodup:=λc t K q hq=>by have s:=K.sub q hq;have a:=s.length_le;have b:=K.lc;unfold Rc at a;rw[bn] at a;exact#[by lia,s.nodup K.ndc]);obtain⟨R1,q1,e,d⟩:=LK cl eh K.ndc K.ndt (by have:=K.lc;lia) (by have:=K.lt;lia) (nl c' t' K) K.nt ht (λx r hr=>by obtain⟨y,hy,e⟩:=aU.mp (dQ hr);cases e;refine bW (eF _ _) ?_;have:=(nl c t H.ct y.1 (jR (bY hy).1).1).1;grind[eF,Q9,SW]) K.asks K.p12 K.rows F;exact#[_,q1,e,K,D8 d (F.mix R1 q1 d)]
noncomputable def Tf (ch:Q7) (w:Int) (q:Q7×(Int×List Q7)):Q7×(Int×List Q7):=if q.1=ch then(q.1,(w,q.2.2))else q
theorem LX (nd:(Rc t).Nodup)(e:Sk ch t=se (w,ns)):putS ch (w',ns) t=t.map (Tf ch w'):=by induction t with| nil=>cases e| cons y t ih =>have hP:=eG.mp nd;rw[qr,be];rw[dH] at e;by_cases z:y.1=ch;(have:t.map (Tf ch w')=t:=by refine(cz λq hq=>?_).trans (wQ _);unfold Tf;grind);rw[this];unfold Tf;simp_all;rw[QX z] at e ⊢;rw[ih hP.2 e];unfold Tf;rw[QX z]
theorem Y7:(Tf ch w' q).1=q.1/\(Tf ch w' q).2.2=q.2.2:=by unfold Tf;lia
theorem LY (H:V3 c t R qs)(K:CT (c++[(x,tj)]) t):Fit (Yc (c++[(x,tj)]) t) (UM (c++[(x,tj)]) t) (Q9 (c++[(x,tj)])).length (Uc (c++[(x,tj)]) t (X1 c t R) ng) (V9 (c++[(x,tj)]) (TQ c qs)):=by(have nx:=λz=>by have:=K.ndc;simp only[Rc,cV,kq] at this;exact this.2.2 x z x (by simp) rfl);refine vE H K (λy hy=>by simp only[Rc,cV] at hy ⊢;exact c7 _ hy) (λy hy hc=>?_) λa w ns h=>#[w,h,dw _,by simp];(have e:Q9 (c++[(x,tj)])=Q9 c++[x]:=by unfold Q9 Rc;rw[mn,cV];rfl);rw[e] at hy;rcases c8.mp hy with z | z;exact z;exact absurd (cT.mp z▸hc) nx
theorem LZ (H:V3 c t R qs)(K:CT c (t++[(ch,(w,ns))]))(nw:ch∉Rc t):Fit (Yc c (t++[(ch,(w,ns))])) (UM c (t++[(ch,(w,ns))])) (Q9 c).length (Uc c (t++[(ch,(w,ns))]) (X1 c t R) (se ch)) (V9 c (TQ c qs)) :=vE H K (λ_ h=>h) (λ_ h _=>h) λa v ms h=>#[v,c7 _ h,dw _,by simp only[true_iff];intro e;cases e;exact nw (Et h)]
theorem L0 (H:V3 c t R qs)(K:CT c (UR ch t)):Fit (Yc c (UR ch t)) (UM c (UR ch t)) (Q9 c).length (Uc c (UR ch t) (X1 c t R) (se ch)) (V9 c (TQ c qs)) :=yD H K (λ_ h=>h) (λ_ h=>h) λa v ms h=>by obtain⟨h1,h2⟩:=bi.mp h;exact#[v,h1,dw _,λ_ e=>Q0 h2 (dX e).symm,λ_=>rfl]
theorem L1 (H:V3 c t R qs)(K:CT c (t.map (Tf ch w')))(e:Sk ch t=se (w,ns))(ne:w'≠w):Fit (Yc c (t.map (Tf ch w'))) (UM c (t.map (Tf ch w'))) (Q9 c).length (Uc c (t.map (Tf ch w')) (X1 c t R) (se ch)) (V9 c (TQ c qs)):=by have wk:∀{v ms},(ch,(v,ms))∈t->v=w:=λh=>congrArg Prod.fst (dX ((eM H.ct.ndt h).symm.trans e));by_cases le:w<=w';refine vE H K (λ_ h=>h) (λ_ h _=>h) λa v ms h=>?_;by_cases z:a=ch;subst z;exact#[w',aU.mpr #[_,h,by simp[Tf]],by rw[wk h];exact le,by simp[wk h,Ne.symm ne]];exact#[v,aU.mpr #[_,h,by simp[Tf,z]],dw _,by simp[Ne.symm z]];refine yD H K (λ_ h=>h) (λ_ h=>h) λa v ms h=>?_;obtain⟨⟨b,u,ns'⟩,hb,eb⟩:=aU.mp h;unfold Tf at eb;by_cases z:b=ch;subst z;rw[QY rfl] at eb;cases eb;exact#[u,hb,by rw[wk hb];lia,by simp[wk hb,ne]];rw[QX z] at eb;cases eb;exact#[v,hb,dw _,by simp[Ne.symm z]]
theorem vF (nd:(Rc c).Nodup):x∈Q9 c↔Sk x c=se tj:=by constructor;intro h;obtain⟨y,hy,rfl⟩:=aU.mp h;grind[eM];intro h;exact aU.mpr #[_,bi.mpr #[dQ h,rfl],rfl]
theorem L3 (H:V3 c t R qs)(K:CT (putS x b c) t)(e:Sk x c=se (! b)):Fit (Yc (putS x b c) t) (UM (putS x b c) t) (Q9 (putS x b c)).length (Uc (putS x b c) t (X1 c t R) ng) (V9 (putS x b c) (TQ c qs)):=by have en:Rc (putS x b c)=Rc c:=oP (aU.mpr #[_,dQ e,rfl]);have hl:∀{y},Sk y (putS x b c)=if x=y then se b else Sk y c:=vw;cases b with| false =>refine vE H K (λ_ h=>en▸h) (λy hy _=>?_) λa w ns h=>#[w,h,dw _,by simp];rw[vF K.ndc,hl] at hy;rw[vF H.ct.ndc];lia| true =>refine yD H K (λ_ h=>en▸h) (λy hy=>?_) λa w ns h=>#[w,h,dw _,by simp];rw[vF H.ct.ndc] at hy;rw[vF K.ndc,hl];simp_all
end
structure Yk (x:Q7):Prop where
 l1:1<=x.cps.toList.length
 l12:x.cps.toList.length<=12
 az:∀c∈x.cps.toList,97<=c/\c<=122
theorem Yk.ok (h:Yk x):Ye x:=by show(bT tj (λc _ r=>bH c 1114112&&r) x.cps.toList)=tj;rw[Co,iQ];intro c hc;have:=(h.az c hc).2;lia
section
variable {h h':TH}{c:bG}{t:bx}{R:xaa}{qs:xac}{x ch:Q7}{i:Nat}{ρ:R4}{fa fb fc:RE}{fg:RG}{nx:Nx}
theorem Ey {l:List γ}(hx:∀i,i<=l.length->nx h i=se ((l.map g)[i]?))(hs:∀a∈l,∃ ρ1,fg (g a) ρ=se ρ1/\fa ρ1 h=.ok (v a) h) :∀m i,i<=l.length->l.length<i+m->Y3 nx fg Si fa ρ m i h=.ok ((l.drop i).map v) h| 0,i,h1,h2=>absurd h2 (by simp[*])| m+1,i,h1,h2=>by rw[qe,hx i h1,bo];by_cases lt:i<l.length;obtain⟨ρ1,q1,q3⟩:=hs l[i] (jI lt);rw[aT lt,ui lt];show Rz (fg (g l[i]) ρ) _=_;rw[q1];show RX.R.bnd (fa ρ1 h).nox _=_;rw[q3];show RX.R.bnd (Y3 nx fg Si fa ρ m (i+1) h) _=_;rw[Ey hx hs m (i+1) lt (NAG.gl13 h2)];rfl;simp_all
theorem L4 {l:List γ}(he:fi ρ h=.ok nx h')(hx:∀i,i<=l.length->nx h' i=se ((l.map g)[i]?))(hl:l.length<1000)(hs:∀a∈l,∃ ρ1,fg (g a) (bf n ng++Zf ρ fr)=se ρ1/\fa ρ1 h'=.ok (v a) h') :UJ N b fi n fr fg Si fa ρ h=mk b (l.map v) h':=by show Wq b fi n fr fg Si fa ρ h=_;unfold Wq;rw[he];show RX.R.bnd (Y3 nx fg Si fa _ 1000 0 h') _=_;rw[Ey hx hs 1000 0 (iT _) (by assumption)];rfl
theorem L5 (i:Nat)(hi:i<=x.cps.toList.length):nStr x h i=se ((x.cps.toList.map λc=>D.str #[#[[c]]])[i]?):=by show(bif bQ i (Sn x.cps.toList)then se (Uz (eg x.cps.toList i) λc=>D.str #[#[[c]]])else ng)=_;rw[aV,dz.mpr hi,aW,bo];cases x.cps.toList[i]?<;>rfl
theorem Ez (z1:fa ρ h=.ok a h)(z2:fb ρ h=.ok b h)(z3:g a b h=.ok (.bl tj) h)(z4:fc ρ h=.ok u h)(z5:g' b u h=r):Yv g g' fa fb fc ρ h=r:=by grind[Yv,RX.R.bnd]
theorem EC (z1:fa ρ h=.ok (.bl tj) h)(z2:fb ρ h=r):TP fa fb ρ h=r:=by unfold TP;rwa [z1]
theorem ED (mZ:a<=b):gLe (.str #[#[[a]]]) (.str #[#[[b]]]) h=.ok (.bl tj) h:=by show RX.R.ok (D.bl (! nLt [b] [a])) h=_;(have:nLt [b] [a]=ff:=by show(bH b a||(bZ b a&&ff))=ff;rw[zM,v5];exact e9.mpr λz=>by have:=cD.mp z;exact NAG.gl0 this mZ);rw[this];rfl
theorem L6 (k:Yk x):Xa [.str x] h=.ok (.bl tj) h:=by have l12:=k.l12;have l1:=k.l1;(have le:R3 [.str x] h=.ok (.int x.cps.toList.length) h:=by show RU (bQ (Sn x.cps.toList) 16777216) (RX.R.ok (D.int (.ofNat (Sn x.cps.toList))) h)=_;rw[aV,dz.mpr (by lia)];rfl);(have a3:Yj ZM [.lst (x.cps.toList.map λ_=>D.bl tj)] h=.ok (.bl tj) h:=by have e1:RB dBl (x.cps.toList.map λ_=>D.bl tj)=se (x.cps.toList.map λ_=>tj):=lr λ_ _=>rfl;show Rz (RB dBl (x.cps.toList.map λ_=>D.bl tj)) _=_;rw[e1];(have:∀l:xaf,ZM (l.map λ_=>tj)=tj:=λl=>by induction l with| nil=>rfl| cons a l ih=>show(tj&&ZM (l.map λ_=>tj))=tj;rw[ih];rfl);show RX.R.ok (D.bl (ZM (x.cps.toList.map λ_=>tj))) h=_;rw[this]);exact mL rfl (jc (EC rfl (EC (Ez rfl (aJ rfl le) (by grind[le_int,QZ]) rfl (by grind[le_int,QZ])) (aJ (aH (L4 rfl (λi hi=>L5 i hi) (NAG.gl33 l12) λc hc=>#[[se (.str #[#[[c]]])],rfl,Ez rfl rfl (ED (k.az c hc).1) rfl (ED (k.az c hc).2)]) rfl) a3)))) rfl
theorem EE (k:Yk x):VA [.str x] h=.ok .non h:=by refine xU (ρ':=[se (.str x)]) rfl ?_ (bF rfl);refine(kF ?_).trans rfl;unfold V6;rw[show Rj (RW Xa (Q2 (rV 0) Q6)) (Vn [.str x] 0) h=_ from aM (aJ rfl (L6 k))];rfl
section
variable (eh:h[i]?=se (.mi 2 (T4 c t R qs)))
include eh
theorem yF (hx:x∈Rc c):SQ [.at i,.str x] h=.ok .non h:=by have a1:=aM (aG (o:=Xj tj) (fa:=rV 1) (fb:=RL 2 0 (rV 0)) (ρ:=[se (.at i),se (.str x)]) rfl (bh rfl eh rfl) ZC);rw[QZ hx] at a1;exact xU rfl ((kF a1).trans rfl) (bF rfl)
theorem yG (hx:ch∈Rc t):Sw [.at i,.str ch] h=.ok .non h:=by have a1:=aM (aG (o:=Xj tj) (fa:=rV 1) (fb:=RL 2 1 (rV 0)) (ρ:=[se (.at i),se (.str ch)]) rfl (bh rfl eh rfl) ZC);rw[QZ hx] at a1;exact xU rfl ((kF a1).trans rfl) (bF rfl)
theorem YA (z1:ρ[0]?=se (se (.at i)))(z3:fA ρ h=.ok xs h)(z4:ev (.at i::xs) h=r):Rv 2 ev (rV 0) fA ρ h=r:=by refine cW ?_ eh z3 z4;grind[rV,aW]
theorem L7:VL [.at i] h=.ok (.lst ((Rc c).map .str)) h:=mL rfl (jc (aJ (aH (bh rfl eh rfl) rfl) yr)) rfl
theorem EF:SZ [.at i] h=.ok (.lst ((Rc t).map .str)) h:=mL rfl (jc (aJ (aH (bh rfl eh rfl) rfl) yr)) rfl
end
end
section
variable {h:TH}{c c':bG}{t t':bx}{ns:List Q7}{R:xaa}{qs:xac}{q:Q7×(Int×List Q7)}{x ch:Q7}{w:Int}{i:Nat}{ρ:R4}{fa fb:RE}{b:Bool}
noncomputable def Zh (a b:Row):D:=.lst ((Z7 a b).map ZL)
theorem L8 {a b:Row}:cd n 9 (Zh a b):=λd hd=>by obtain⟨x,_,rfl⟩:=aU.mp hd;intro d hd;rcases bj.mp hd with rfl | hd;trivial;rcases bj.mp hd with rfl | hd;exact kH;rcases bj.mp hd with rfl | hd;exact kH;cases hd
theorem yH:ct n (.mi 2 (T4 c t R qs)):=yv
def iX (ev:RX.R D)(h:TH)(i:Nat)(c:bG)(qs:xac)(c':bG)(t':bx):Prop:=∃R' cU,ev=.ok (Zh (TQ c qs) (TQ c' cU)) (h.set i (.mi 2 (T4 c' t' R' cU)))/\V3 c' t' R' cU
theorem yI {a b:Row}(cl:Cl h)(il:i<h.length):trunc h.length (Zh a b) ((h++[o]).set i (.mi 2 (T4 c' t' R' q')))=.ok (Zh a b) (h.set i (.mi 2 (T4 c' t' R' q'))):=by have:=li (h:=h.set i (.mi 2 (T4 c' t' R' q'))) (t:=[o]) (v:=Zh a b) (cl.set yH) L8;simp_all
theorem yJ:mkD tj ks ds h=.ok (.at h.length) (h++[.md ks ds]):=by show RX.R.ok (D.at (hn h)) (hp h (.md ks ds))=_;rw[fM,fO]
variable (cl:Cl h)(H:V3 c t R qs)(eh:h[i]?=se (.mi 2 (T4 c t R qs)))
include cl H eh
theorem EG (K:CT (putS x b c) t)(F:Fit (Yc (putS x b c) t) (UM (putS x b c) t) (Q9 (putS x b c)).length (Uc (putS x b c) t (X1 c t R) ng) (V9 (putS x b c) (TQ c qs))):iX (Tp [.at i,.str x,.bl b] h) h i c qs (putS x b c) t:=by have lc:=H.ct.lc;have e2:(h++[.no])[i]?=se (.mi 2 (T4 c t R qs)):=cC eh;obtain⟨R',cU,a4,H'⟩:=yE (cl.app (o:=TM.no) trivial) H e2 K (λy e=>by cases e) F;exact#[R',cU,a8 rfl (sA (aJ (aH (bh rfl eh rfl) rfl) (ZK.trans yJ)) (sGe (vy (rW rfl rfl rfl R9 H.ct.ndc (by lia)) rfl (by simp)) Β (sR (cW rfl e2 (aH rfl (aH (bh rfl e2 rfl) rfl)) a4) (yI cl (aQ.mp eh).1)))),H']
theorem EH (okc:Ye ch)(K:CT c (putS ch (w,ns) t))(F:Fit (Yc c (putS ch (w,ns) t)) (UM c (putS ch (w,ns) t)) (Q9 c).length (Uc c (putS ch (w,ns) t) (X1 c t R) (se ch)) (V9 c (TQ c qs))):iX (To [.at i,.str ch,.int w,.lst (ns.map .str)] h) h i c qs c (putS ch (w,ns) t):=by have lt:=H.ct.lt;have e2:(h++[.no])[i]?=se (.mi 2 (T4 c t R qs)):=cC eh;obtain⟨R',cU,a4,H'⟩:=yE (cl.app (o:=TM.no) trivial) H e2 K (λy e=>by lia) F;exact#[R',cU,a8 rfl (sA (aJ (aH (bh rfl eh rfl) rfl) (ZK.trans yJ)) (sGe (vy (rW (a:=(w,ns)) rfl rfl rfl R9 H.ct.ndt (NAG.gl15 lt)) rfl (by simp)) Β (sR (cW rfl e2 (aH (bh rfl e2 rfl) rfl) a4) (yI cl (aQ.mp eh).1)))),H']
theorem EI:CT c (UR ch t):=by have K:=H.ct;have s:(UR ch t).Sublist t:=jt;exact#[K.ndc,(s.map _).nodup K.ndt,K.lc,bW s.length_le K.lt,λq hq=>K.nt q (s.subset hq),λq hq=>K.pos q (s.subset hq),λq hq=>K.bd q (s.subset hq),λq hq=>K.sub q (s.subset hq)]
theorem yK (z1:fa ρ g=.ok (.at j) g)(z2:fb ρ g=.ok (.str ch) g)(e:g[j]?=se (.md (Sl l) (Tu f l)))(hk:Sk ch l=se a):Y2 fa fb ρ g=.ok (f a) (g.set j (.md (Sl (UR ch l)) (Tu f (UR ch l)))):=by unfold Y2;rw[z1];show RU (Yi (.at j) g) _=_;rw[(qy e).2];rw[z2];show Rz (X7 g (.at j)) _=_;rw[(qy e).1];show Rz (lk (.inr ch) (Sl l) (Tu f l)) _=_;rw[rS,hk];show RX.R.ok (f a) (hs g j (.md (Vo (.inr ch) (Sl l)) (UW (.inr ch) (Sl l) (Tu f l))))=_;rw[iV,K7,K8]
theorem L9 (hc:Sk ch t=se (w,ns)):iX (Wl [.at i,.str ch] h) h i c qs c (UR ch t):=by have e2:(h++[.no])[i]?=se (.mi 2 (T4 c t R qs)):=cC eh;obtain⟨R',cU,a4,H'⟩:=yE (cl.app (o:=TM.no) trivial) H e2 (EI cl H eh) (λy e=>by cases e;exact H.ct.nt _ (dQ hc)) (L0 H (EI cl H eh));exact#[R',cU,a8 rfl (sD (YA eh rfl rfl (yG eh (aU.mpr #[_,dQ hc,rfl]))) (sA (aJ (aH (bh rfl eh rfl) rfl) (ZK.trans yJ)) (sGe (vy (fZ (yK cl H eh rfl rfl R9 hc)) rfl (by simp)) Β (sR (cW rfl e2 (aH (bh rfl e2 rfl) rfl) a4) (yI cl (aQ.mp eh).1))))),H']
end
section
variable {h:TH}{c c':bG}{t t':bx}{ns:List Q7}{R:xaa}{qs:xac}{q:Q7×(Int×List Q7)}{x ch:Q7}{w:Int}{i:Nat}{ρ:R4}{fa:RE}{b:Bool}
theorem Ma:∀(ks acc:List Q7),(acc++ks).Nodup->ks.foldl (λacc k=>if k∈acc then acc else acc++[k]) acc=acc++ks:=by intro ks;induction ks with| nil =>rintro acc _;simp_all| cons k ks ih =>rintro acc nd;rw[pO,QX λz=>(kq.mp nd).2.2 k z k (.head _) rfl,ih (acc ++ [k]) (by simp_all),fY];rfl
theorem Mb (z:fa ρ h=.ok (.lst (ns.map .str)) h)(nd:ns.Nodup)(hl:ns.length<=1000):rLs fa ρ h=.ok (.int ns.length) h:=by(have e1:=by have:=lr (f:=dStr) (g:=D.str) (l:=ns) λ_ _=>rfl;rwa [uz] at this);unfold rLs;rw[z];show Rz (RB dStr (ns.map D.str)) _=_;rw[e1];show RU (! RQ (.lst (ns.map D.str))&&bQ (Sn ns) 1000) (RX.R.ok (D.int (.ofNat (Sn (Zo ns [])))) h)=_;rw[aV,dz.mpr hl,Cy,Ma ns [] nd,aV];rfl
theorem EJ (K:CT c t)(hx:x∉Rc c)(l12:c.length+1<=12):CT (c++[(x,b)]) t:=by(have e:Rc (c++[(x,b)])=Rc c++[x]:=by unfold Rc;rw[cV];rfl);refine#[by rw[e];exact kq.mpr #[K.ndc,by simp,λa ha b hb z=>hx Β],K.ndt,by rwa [dW],K.lt,K.nt,K.pos,K.bd,λq hq=>by rw[e];exact(K.sub q hq).trans (Aa _ _)]
theorem EK (K:CT c t)(k:Ye ch)(nw:ch∉Rc t)(w1:1<=w)(bd:Bd 300 w)(lt:t.length+1<=20)(s:ns.Sublist (Rc c)):CT c (t++[(ch,(w,ns))]):=by(have e:Rc (t++[(ch,(w,ns))])=Rc t++[ch]:=by unfold Rc;rw[cV];rfl);(have m:∀{P:Q7×(Int×List Q7)->Prop},(∀q∈t,P q)->P (ch,(w,ns))->∀q∈t++[(ch,(w,ns))],P q:=λa b q hq=>(c8.mp hq).elim (a q) λz=>by rwa [cT.mp z]);exact#[K.ndc,by rw[e];exact kq.mpr #[K.ndt,by simp,λa ha b hb z=>nw (by rw[cT.mp hb] at z;exact z▸ha)],K.lc,by rwa [dW],m K.nt k,m K.pos w1,m K.bd bd,m K.sub s]
theorem EL (K:CT c t)(w1:1<=w')(bd:Bd 300 w'):CT c (t.map (Tf ch w')):=by(have e:Rc (t.map (Tf ch w'))=Rc t:=by grind[Rc,cB,cz,Y7]);(have m:∀{P:Q7×(Int×List Q7)->Prop},(∀q∈t,P (Tf ch w' q))->∀q∈t.map (Tf ch w'),P q:=λa q hq=>by grind);(have wk:∀q,(Tf ch w' q).2.1=w'\/(Tf ch w' q).2.1=q.2.1:=λq=>by unfold Tf;lia);exact#[K.ndc,by rw[e];exact K.ndt,K.lc,by rw[bn];exact K.lt,m λq hq=>by rw[Y7.1];exact K.nt q hq,m λq hq=>(wk q).elim (λz=>Β) λz=>by rw[z];exact K.pos q hq,m λq hq=>(wk q).elim (λz=>Β) λz=>by rw[z];exact K.bd q hq,m λq hq=>by rw[Y7.2];exact K.sub q hq]
variable (cl:Cl h)(H:V3 c t R qs)(eh:h[i]?=se (.mi 2 (T4 c t R qs)))
include cl H eh
theorem iG {a b:Row}:trunc h.length (Zh a b) (h.set i (.mi 2 (T4 c' t' R' q')))=.ok (Zh a b) (h.set i (.mi 2 (T4 c' t' R' q'))):=bF (by rw[eV])
theorem Mc (k:Yk x)(hx:x∉Rc c)(l12:c.length+1<=12):iX (Wj [.at i,.str x] h) h i c qs (c++[(x,tj)]) t:=by have e:=qu (a:=tj) hx;obtain⟨R',cU,a3,H'⟩:=EG cl H eh (by rw[e];exact EJ H.ct hx l12) (by rw[e];exact LY H (EJ H.ct hx l12));rw[e] at a3 H';exact#[R',cU,a8 rfl (sD (aJ rfl (EE k)) (sF (aM (aG rfl (bh rfl eh rfl) (ZC.trans Β))) (sF (aM (aG (aJ (aH (bh rfl eh rfl) rfl) DT) rfl (ge_int.trans (by grind)))) (sR (YA eh rfl rfl a3) (iG cl H eh))))),H']
theorem EM (e:Sk x c=se (! b)):iX (U4 [.at i,.str x,.bl b] h) h i c qs (putS x b c) t:=by have mx:x∈Rc c:=aU.mpr #[_,dQ e,rfl];(have K:CT (putS x b c) t:=by have K:=H.ct;have en:Rc (putS x b c)=Rc c:=oP mx;(have el:=by have:=congrArg pS en;unfold Rc at this;rwa [bn,bn] at this);exact#[by rw[en];exact K.ndc,K.ndt,by rw[el];exact K.lc,K.lt,K.nt,K.pos,K.bd,λq hq=>by rw[en];exact K.sub q hq]);obtain⟨R',cU,a3,H'⟩:=EG cl H eh K (L3 H K e);exact#[R',cU,a8 rfl (sD (YA eh rfl rfl (yF eh mx)) (sF (aM (aG (kI (bh rfl eh rfl) rfl e) rfl (show _=RX.R.ok (D.bl ff) h by cases b<;>rfl))) (sR (YA eh rfl rfl a3) (iG cl H eh)))),H']
theorem Md (e:Sk x c=se tj):iX (Wn [.at i,.str x] h) h i c qs (putS x ff c) t:=by obtain⟨R',cU,a3,H'⟩:=EM (b:=ff) cl H eh e;exact#[R',cU,rF rfl (jc (YA eh rfl rfl a3)) (iG cl H eh),H']
theorem Me (e:Sk x c=se ff):iX (Wm [.at i,.str x] h) h i c qs (putS x tj c) t:=by obtain⟨R',cU,a3,H'⟩:=EM (b:=tj) cl H eh e;exact#[R',cU,rF rfl (jc (YA eh rfl rfl a3)) (iG cl H eh),H']
theorem EN {d sg:Int}(e:Sk ch t=se (w,ns))(d1:1<=d)(w1:1<=w+sg*d)(bd:Bd 300 (w+sg*d))(bd1:Bd 4096 sg)(tX:Bd 4096 d)(ne:w+sg*d≠w):iX (U5 [.at i,.str ch,.int d,.int sg] h) h i c qs c (t.map (Tf ch (w+sg*d))):=by have ep:=LX (w':=w+sg*d) H.ct.ndt e;obtain⟨R',cU,a3,H'⟩:=EH cl H eh (H.ct.nt _ (dQ e)) (by rw[ep];exact EL H.ct w1 bd) (by rw[ep];exact L1 H (EL H.ct w1 bd) e ne);rw[ep] at a3 H';exact#[R',cU,a8 rfl (sD (YA eh rfl rfl (yG eh (aU.mpr #[_,dQ e,rfl]))) (sA (kI (bh rfl eh rfl) rfl e) (sA (aG rfl (aG rfl rfl (iq bd1 tX)) add_int) (sF ((vf (aM (aG rfl rfl (lt_int.trans (by rw[Q1 Β]))))).trans (aM (aG rfl rfl (lt_int.trans Β)))) (sR (YA eh rfl rfl a3) (iG cl H eh)))))),H']
end
noncomputable def Zw (c:bG) (t:bx) (R:xaa) (ch:Q7):Row:=(Sk ch (X1 c t R)).getD []
noncomputable def YN (c:bG) (qs:xac) (x:Q7):xag:=(Sk x (TQ c qs)).getD (0,1)
noncomputable def Yb (a b:xag):Bool:=decide (a.1*b.2<b.1*a.2)
noncomputable def V2 (c:bG) (qs:xac) (lv:xag):List Q7:=(Rc c).filter λx=>Yb lv (YN c qs x)
noncomputable def VE (c:bG) (t:bx) (R:xaa) (ns:List Q7):List Q7:=(Rc t).filter λch=>(Zw c t R ch).any λp=>decide (p.1∈ns)
noncomputable def shD (r:Row):D:=.lst (r.map λp=>.tup [.str p.1,SA p.2])
section
variable {h h':TH}{c:bG}{t:bx}{p ns:List Q7}{R:xaa}{qs:xac}{x ch:Q7}{w:Int}{i j:Nat}{ρ:R4}{fa:RE}{b:Bool}
theorem Mf {a b:xag}(a1:Bd 4096 a.1)(a2:Bd 4096 a.2)(b1:Bd 4096 b.1)(b2:Bd 4096 b.2):XA [SA a,SA b] h=.ok (.bl (Yb a b)) h:=a8 rfl (sR (aG (aG rfl rfl (iq a1 b2)) (aG rfl rfl (iq b1 a2)) lt_int) (bF rfl))
theorem qz {ks:List Q7}(e:h[j]?=se (.ml (ks.map .str))):Xj neg (.str k) (.at j) h=.ok (.bl (neg^^decide (k∈ks))) h:=by(have e1:eK h (.at j)=none:=by unfold eK;dsimp only;rw[aW,e]);(have e2:eS h (.at j)=se (ks.map .str):=by unfold eS;dsimp only;rw[aW,e]);unfold Xj;rw[e1];show Rz (eS h (.at j)) _=_;rw[e2];exact yu
theorem yL (l:qb u):Bd 4096 u.1/\Bd 4096 u.2:=by refine#[l.2.2.2.le Γ,?_];have a:=l.1.1;have b:=l.2.2.1;show u.2.natAbs<2^4096;lia
theorem r5 (H:V3 c t R qs):qb (YN c qs x):=by unfold YN;by_cases z:x∈Q9 c;obtain⟨k,hk⟩:=bz z;have hu:=getD_at' (show k<qs.length by rw[H.deal.len];exact(aQ.mp hk).1) (0,1);rw[vA H.ct.ndc hk hu];exact H.deal.ok _ (aK hu);rw[vB H.ct.ndc z];exact En
theorem vG (H:V3 c t R qs):(Zw c t R ch).length<=40:=by unfold Zw;cases e:Sk ch (X1 c t R)with| none=>simp_all| some r =>obtain⟨y,hy,e⟩:=aU.mp (dQ e);cases e;refine bW (eF _ _) ?_;have a:=(H.ct.sub y.1 (jR (bY hy).1).1).length_le;have b:=H.ct.lc;grind[Rc,bn,eF,Q9,SW]
section
variable (H:V3 c t R qs)(eh:h[i]?=se (.mi 2 (T4 c t R qs)))
include H eh
theorem r6 (hx:x∈Rc c):TF [.at i,.str x] h=.ok (SA (YN c qs x)) h:=by cases e:Sk x (TQ c qs)with| none=>exact absurd (by rwa [Ed H.ct.ndc]) (SK.mp e)| some u =>unfold YN;rw[e];exact a8 rfl (sD (YA eh rfl rfl (yF eh hx)) (sR (kI (bh rfl eh rfl) rfl e) (bF rfl)))
theorem yM (hx:ch∈Rc t):Uu [.at i,.str ch] h=.ok (shD (Zw c t R ch)) h:=a8 rfl (sD (YA eh rfl rfl (yG eh hx)) (sR (Lb (vv (bh rfl eh rfl) rfl rfl) (bW (vG H) Γ)) (bF rfl)))
omit H eh in
theorem Mg {f:RS}{n k:Nat}{ds:List D}{r:RX.R D}(hn:ds.length=n)(z:(f (Vn ds k) h).bnd finK=r):Sy tj n k f ds h=r:=by
 subst z;unfold Sy;rw[aV,hn,show bZ n n=tj from gW n]
 cases f (Vn ds k) h with
 | ok x h'=>cases x<;>rfl
 | _=>rfl
omit H eh in
theorem cMt {γ:Type}{l:List γ}{g:γ->D}{p:γ->Bool}{v:γ->D}{L:List D}{fi:RI}{fg:RG}{fT:RT}{nx:NAL.RX.Nx}{n:Nat}{fr:xaf}{N:List Q7}(he:fi ρ h=.ok nx h)(hx:∀i,nx h i=se ((l.map g)[i]?))(hl:l.length<1000)(hs:∀a∈l,∃ ρ1,fg (g a) (bf n ng++Zf ρ fr)=se ρ1/\fT ρ1 h=.ok (p a) h/\(p a=tj->fa ρ1 h=.ok (v a) h))(e:(l.filter p).map v=L):UJ N tj fi n fr fg fT fa ρ h=.ok (.at h.length) (h++[.ml L]):=by rw[rD he hx hl hs,e];show RX.R.ok (D.at (hn h)) (hp h (.ml _))=_;rw[fM,fO]
theorem Mh (ej:h[j]?=se (.ml (ns.map .str))):WQ [.at i,.at j] h=.ok (.at h.length) (h++[.ml ((VE c t R ns).map .str)]):=by have tl:=H.ct.lt;refine mM rfl (sR (cMt (eX (YA eh rfl rfl (EF eh))) c9 (by simp[Rc];exact NAG.gl59 tl) (λch hc=>#[_,rfl,aM (aJ (aH (cA (eX (cW rfl eh rfl (yM H eh hc))) c9 (by grind[vG]) (λp hp=>#[_,rfl,aG rfl rfl (qz ej)]) (L:=((Zw c t R ch).map λp=>decide (p.1∈ns)).map .bl) (by simp)) rfl) (Xb.trans Β)),λ_=>rfl]) rfl) rfl)
omit H eh in
theorem yN {fA:RA}{h1 h2:TH}{a:D}{as:List D}(z1:fa ρ h=.ok a h1)(z2:fA ρ h1=.ok as h2):Q2 fa fA ρ h=.ok (a::as) h2:=by unfold Q2;rw[z1];show RX.R.bnd (fA ρ h1) _=_;rw[z2];rfl
theorem yO (b1:Bd 4096 lv.1)(b2:Bd 4096 lv.2):Wd [.at i,SA lv] h=if V2 c qs lv=[]then .ok (.tup [.str "yes"]) (h++[.ml []])else .ok (.tup [.str "no",.at h.length,.at (h.length+1)]) (h++[.ml ((V2 c qs lv).map .str),.ml ((VE c t R (V2 c qs lv)).map .str)]):=by have cl:=H.ct.lc;refine Mg rfl (sA (cMt (eX (YA eh rfl rfl (L7 eh))) c9 (by simp[Rc];exact NAG.gl33 cl) (λx hx=>#[_,rfl,aM (aJ (aH rfl (aH (cW rfl eh rfl (r6 H eh hx)) rfl)) (Mf b1 b2 (yL (r5 H)).1 (yL (r5 H)).2)),λ_=>rfl]) (show _=(V2 c qs lv).map D.str from rfl)) (sB (aM (aG (aJ rfl (jQ R9)) rfl eq_int)) (λz=>?_) λz=>?_));(have z:=by simpa using z);rw[QY z,z];exact sR rfl rfl;rw[QX (by simpa using z)];have a3:=Mh H (cC eh) (R9 (t:=[.ml ((V2 c qs lv).map .str)]));rw[dW,fY] at a3;exact sR (gP (yN rfl (yN rfl (yN (aJ rfl a3) rfl))) rfl) rfl
end
variable (cl:Cl h)(H:V3 c t R qs)(eh:h[i]?=se (.mi 2 (T4 c t R qs)))
include cl H eh
theorem EO:Bd 4096 1/\Bd 4096 (-1):=#[iR (show(1:Int).natAbs<2^1 by decide) (mE Γ Γ),iR (show(-1).natAbs<2^1 by decide) (mE Γ Γ)]
theorem Mi (e:Sk ch t=se (w,ns))(d1:1<=d)(bd:Bd 300 (w+d))(tX:Bd 4096 d):iX (Wi [.at i,.str ch,.int d] h) h i c qs c (t.map (Tf ch (w+d))):=by have w1:=H.ct.pos _ (dQ e);have g:=EN cl H eh e d1 (by lia) Β (EO cl H eh).1 tX (by lia);rw[we] at g;obtain⟨R',cU,a3,H'⟩:=g;exact#[R',cU,rF rfl (jc (YA eh rfl rfl a3)) (iG cl H eh),H']
theorem Mj (e:Sk ch t=se (w,ns))(d1:1<=d)(w1:1<=w-d)(bd:Bd 300 (w-d))(tX:Bd 4096 d):iX (VM [.at i,.str ch,.int d] h) h i c qs c (t.map (Tf ch (w-d))):=by(have ew:w+-1*d=w-d:=by lia);have g:=EN cl H eh e d1 (by rwa [ew]) (by rwa [ew]) (EO cl H eh).2 tX (by lia);rw[ew] at g;obtain⟨R',cU,a3,H'⟩:=g;exact#[R',cU,rF rfl (jc (YA eh rfl rfl a3)) (iG cl H eh),H']
theorem Ml (k:Yk ch)(nw:ch∉Rc t)(w1:1<=w)(bd:Bd 300 w)(ne:ns≠[])(inn:∀y∈ns,y∈Rc c)(nd:ns.Nodup)(nl:ns.length<=40)(lt:t.length+1<=20):iX (WU [.at i,.str ch,.int w,.lst (ns.map .str)] h) h i c qs c (t++[(ch,(w,(Rc c).filter λy=>decide (y∈ns)))]):=by have cl':=H.ct.lc;have ep:=qu (a:=(w,(Rc c).filter λy=>decide (y∈ns))) nw;obtain⟨R',cU,a3,H'⟩:=EH cl H eh k.ok (by rw[ep];exact EK H.ct k.ok nw w1 bd lt jt) (by rw[ep];exact LZ H (EK H.ct k.ok nw w1 bd lt jt) nw);rw[ep] at a3 H';refine#[R',cU,a8 rfl (sD (aJ rfl (EE k)) (sF (aM (aG rfl (bh rfl eh rfl) (ZC.trans (by rw[Q1 nw];rfl)))) (sF (aM (aG rfl rfl (lt_int.trans (by rw[Q1 Β])))) (sF (aM (aG (aJ rfl dY) rfl (eq_int.trans Β))) (sL (fq (λ_ ρ g=>(∃z,ρ=[se (.at i),se (.str ch),se (.int w),se (.lst (ns.map .str)),z])/\g=h) (eX rfl) (λi _ _ _=>c9 i) (NAG.gl32 nl) #[#[_,rfl],rfl] ?_) ?_))))),H'];rintro k y ρ g hy ⟨⟨z,rfl⟩,rfl⟩;exact#[_,rfl,nE (fZ (YA eh rfl rfl (yF eh (inn y (aK hy))))) #[#[_,rfl],rfl]];rintro ρ g ⟨⟨z,rfl⟩,rfl⟩;exact sF (aM (aG (Mb rfl nd (NAG.gl31 nl)) (aJ rfl dY) (lt_int.trans Β))) (sF (aM (aG (aJ (aH (bh rfl eh rfl) rfl) DT) rfl (ge_int.trans (by grind)))) (sR (YA eh rfl (aH rfl (aH rfl (aH (cM (D2 (bh rfl eh rfl)) qv (NAG.gl33 cl') (λx hx=>#[_,rfl,aM (aG rfl rfl yu),λ_=>rfl]) (by simp[Rc,qX,Function.comp_def])) rfl))) a3) (iG cl H eh)))
end
section
variable {c:bG}{t:bx}{R:xaa}{qs:xac}{q:Q7×(Int×List Q7)}{x y ch:Q7}{ns:List Q7}{lv:xag}{k:Nat}{s:xac}
theorem yP (H:V3 c t R qs)(hx:x∈Q9 c):qs[(Q9 c).idxOf x]?=se (YN c qs x):=by have l:=fV hx;(have e:(Q9 c)[(Q9 c).idxOf x]?=se x:=by rw[aT l,uu]);have hu:=getD_at' (show(Q9 c).idxOf x<qs.length by rw[H.deal.len];exact l) (0,1);rw[hu];unfold YN;rw[vA H.ct.ndc e hu]
theorem EP (H:V3 c t R qs)(hq:(S4 (Q9 c) t)[k]?=se q):∃s,R[k]?=se s/\s.length=(SW (Q9 c) q).length/\(∀u∈s,XW u)/\(s.map (vl M0)).sum=q.2.1*M0/\Zw c t R q.1=WC (Q9 c) (q,s):=by have hs:=getD_at' (show k<R.length by rw[H.deal.ev.len];unfold UM;rw[bn];exact(aQ.mp hq).1) [];have sl:=H.deal.ev.row k _ _ (by unfold UM;rw[bo,hq];rfl) hs;rw[XJ] at sl;refine#[_,hs,sl,H.deal.ev.ok _ (aK hs),?_,?_];rw[H.deal.ev.sum M0 eJ (iP _) k _ hs];unfold Yc;rw[bR,bo,hq];rfl;unfold Zw X1;rw[Ee (vz H.ct.ndt) hq hs];rfl
theorem Mm (H:V3 c t R qs)(hq:(S4 (Q9 c) t)[k]?=se q)(hs:R[k]?=se s)(hu:(x,u)∈(SW (Q9 c) q).zip s)(pos:0<u.1)(hy:y∈SW (Q9 c) q):(YN c qs x).1*(YN c qs y).2<=(YN c qs y).1*(YN c qs x).2:=by(have hr:(UM c t)[k]?=se (UF (Q9 c) q.2.2):=by unfold UM;rw[bo,hq];rfl);obtain⟨m,hm⟩:=bz hu;obtain⟨m1,m2⟩:=bP.mp hm;have er:UF (Q9 c) q.2.2=(SW (Q9 c) q).map λy=>(Q9 c).idxOf y:=rfl;exact H.deal.ev.even k _ s hr hs m u ((Q9 c).idxOf x) m2 (by rw[er,bo,m1];rfl) pos ((Q9 c).idxOf y) (aU.mpr #[y,hy,rfl]) _ _ (yP H (Q0 (bi.mp (aK m1)).2)) (yP H (Q0 (bi.mp hy).2))
theorem Mn (ha:1<=a.2)(hb:1<=b.2)(hd:1<=d.2)(h1:Yb a b=tj)(h2:b.1*d.2<=d.1*b.2):Yb a d=tj:=by refine QZ ?_;have e1:=nX (Q0 h1) (by assumption);have e2:=lY h2 (by exact cy ha);refine pE ?_ (by exact cy hb);lia
theorem EQ (H:V3 c t R qs)(hc:(Zw c t R ch).any λp=>decide (p.1∈ns)):∃(k:Nat) (q:Q7×(Int×List Q7)),(S4 (Q9 c) t)[k]?=se q/\q.1=ch:=by obtain⟨p,hp,_⟩:=gL.mp hc;by_cases z:ch∈Rc (S4 (Q9 c) t);obtain⟨q,hq,e⟩:=aU.mp z;obtain⟨k,hk⟩:=bz hq;exact#[k,q,hk,e];unfold Zw X1 at hp;rw[LQ z] at hp;cases hp
theorem ES (H:V3 c t R qs)(l1:1<=lv.2)(hq:(S4 (Q9 c) t)[k]?=se q)(hc:(Zw c t R q.1).any (λp=>decide (p.1∈V2 c qs lv))=tj)(hy:y∈SW (Q9 c) q):Yb lv (YN c qs y)=tj:=by obtain⟨s,hs,sl,so,_,es⟩:=EP H hq;rw[es] at hc;obtain⟨p,hp,z⟩:=gL.mp hc;obtain⟨p1,p2⟩:=bi.mp hp;exact Mn l1 (r5 H).1.1 (r5 H).1.1 (bi.mp (Q0 z)).2 (Mm H hq hs p1 (Q0 p2) hy)
noncomputable def X0 (P:Nat->Bool) (L:List (Nat×(xag))):Int:=(L.map λx=>[Δ,P x.1,vl M0 x.2]).sum
theorem Mo:X0 P (L++L')=X0 P L+X0 P L':=by unfold X0;simp_all
theorem Mp {v:Int}:∀{n:Nat},i<n->(((aR n).filter P).map λj=>[Δ,i=j,v]).sum=[Δ,P i,v]:=by intro n;induction n with| zero=>simp_all| succ n ih =>rw[og,mn,cV,jJ];(have ng:∀m,m<=i->(((aR m).filter P).map λj=>if i=j then v else 0).sum=0:=by intro m;induction m with| zero=>intro _;rfl| succ m ihm =>intro hm;rw[og,mn,cV,jJ,ihm (by exact eI hm)];grind);grind
theorem Mq {l:xaf}{f g:Nat->Int}:(l.map λj=>f j+g j).sum=(l.map f).sum+(l.map g).sum:=by induction l with| nil=>rfl| cons a l ih=>rw[be,bL,ih,be,bL,be,bL];lia
theorem Mr:∀{L:List (Nat×(xag))},(∀x∈L,x.1<n)->(((aR n).filter P).map λj=>US M0 L j).sum=X0 P L:=by intro L;induction L with| nil =>(rintro _;unfold US X0;induction ((aR n).filter P) with| nil=>rfl| cons a l ih=>simp_all)| cons x L ih =>rintro h;rw[show(λj=>US M0 (x::L) j)=λj=>(if x.1=j then vl M0 x.2 else 0)+US M0 L j from funext λj=>by rfl,Mq,Mp (h x (.head _)),ih λy hy=>h y (.tail _ hy)];rfl
theorem Ms:∀{Z:List (List Nat×xac)},X0 P (Z.flatMap λx=>x.1.zip x.2)=(Z.map λx=>X0 P (x.1.zip x.2)).sum:=by intro Z;induction Z with| nil =>exact rfl| cons x Z ih =>rw[Ao,Mo,ih,be,bL]
noncomputable def abP (c:bG) (qs:xac) (lv:xag) (i:Nat):Bool:=Yb lv (YN c qs ((Q9 c).getD i ""))
noncomputable def YQ (c:bG) (t:bx) (R:xaa) (ns:List Q7) (ch:Q7):Bool:=(Zw c t R ch).any λp=>decide (p.1∈ns)
noncomputable def wkT (t:bx) (ch:Q7):Int:=((Sk ch t).map λp=>p.1).getD 0
theorem Mt {l:List α}{f:α->Int}(h:∀a∈l,f a=0):(l.map f).sum=0:=by induction l with| nil=>rfl| cons a l ih=>simp_all
theorem yo (H:V3 c t R qs)(l1:1<=lv.2)(hq:(S4 (Q9 c) t)[k]?=se q)(hs:R[k]?=se s):X0 (abP c qs lv) ((UF (Q9 c) q.2.2).zip s)=[Δ,YQ c t R (V2 c qs lv) q.1,q.2.1*M0]:=by obtain⟨s',kQ,sl,so,ss,es⟩:=EP H hq;rw[hs] at kQ;cases kQ;have er:UF (Q9 c) q.2.2=(SW (Q9 c) q).map λy=>(Q9 c).idxOf y:=rfl;have din:∀y∈SW (Q9 c) q,y∈Q9 c:=λy hy=>Q0 (bi.mp hy).2;(have e1:X0 (abP c qs lv) ((UF (Q9 c) q.2.2).zip s)=(((SW (Q9 c) q).zip s).map λx=>[Δ,Yb lv (YN c qs x.1),vl M0 x.2]).sum:=by unfold X0;rw[er,qV,cB];congr 1;refine cz λx hx=>?_;show[Δ,abP c qs lv ((Q9 c).idxOf x.1)=tj,vl M0 x.2]=_;unfold abP;rw[kK (din x.1 (bY hx).1)]);rw[e1];by_cases z:YQ c t R (V2 c qs lv) q.1=tj;rw[QY z,<-ss];(have e2:(((SW (Q9 c) q).zip s).map λx=>[Δ,Yb lv (YN c qs x.1),vl M0 x.2])=((SW (Q9 c) q).zip s).map λx=>vl M0 x.2:=cz λx hx=>by rw[QY (ES H l1 hq z (bY (b:=x.2) hx).1)]);rw[e2];congr 1;show((SW (Q9 c) q).zip s).map (vl M0∘Prod.snd)=_;rw[<-cB,uy Β];rw[QX z];refine Mt λx hx=>?_;by_cases b:Yb lv (YN c qs x.1)=tj;rw[QY b];have xd:=bY hx;have fo:=so x.2 xd.2;have np:¬0<x.2.1:=λpos=>z (by unfold YQ;rw[es,gL];(have xn:x.1∈Rc c:=by(have:x.1∈(Rc c).filter λy=>decide (y∈Q9 c):=by rw[yw H.ct.ndc];exact din x.1 xd.1);exact(bi.mp this).1);exact#[x,bi.mpr #[hx,QZ pos],QZ (bi.mpr #[xn,b])]);rw[LP fo.1 fo.2.1 np];exact km _;rw[QX b]
theorem Mu (H:V3 c t R qs)(l0:0<=lv.1):V2 c qs lv=(Q9 c).filter λx=>Yb lv (YN c qs x):=by rw[<-yw H.ct.ndc,Al];refine wK λx _=>?_;by_cases z:x∈Q9 c;simp_all;unfold Yb YN;rw[vB H.ct.ndc z];simp_all
theorem Mv:Q9 c=(aR (Q9 c).length).map λi=>(Q9 c).getD i "":=i7 λi=>by rw[bo];by_cases h:i<(Q9 c).length;rw[ko h,getD_at' h ""];rfl;rw[fh Β,fh Β];rfl
theorem ET {a:Int}:∀{l:xaf},l≠[]->(∀j∈l,a<f j)->a*l.length<(l.map f).sum| [],h,_=>absurd rfl h| [j],_,h=>by simp[*]| j::k::l,_,h=>by have i:=ET (by simp) λm hm=>h m (.tail _ hm);have:=h j (.head _);rw[be,bL,fm];lia
theorem Mw (H:V3 c t R qs)(l0:0<=lv.1)(l1:1<=lv.2)(ne:V2 c qs lv≠[]):lv.1*((V2 c qs lv).length)<((VE c t R (V2 c qs lv)).map (wkT t)).sum*lv.2:=by
 obtain⟨J,hJ⟩:∃J,J=(aR (Q9 c).length).filter (abP c qs lv):=#[_,rfl];have eA:V2 c qs lv=J.map λi=>(Q9 c).getD i "":=by
  rw[Mu H l0,hJ]
  conv=>lhs;rw[Mv]
  rw[qX];rfl
 have lJ:(V2 c qs lv).length=J.length:=by rw[eA,bn]
 have nJ:J≠[]:=λz=>ne (by rw[eA,z];rfl)
 have each:∀j∈J,lv.1*M0<US M0 (R7 (UM c t) R) j*lv.2:=λj hj=>by
  rw[hJ] at hj;obtain⟨h1,h2⟩:=bi.mp hj;have h1:=dy.mp h1;have xm:=aK (getD_at' h1 "")
  have ij:(Q9 c).idxOf ((Q9 c).getD j "")=j:=by
   have e:(Q9 c).getD j ""=(Q9 c)[j]:=by rw[bR,aT h1];rfl
   rw[e,(kJ H.ct.ndc).idxOf_getElem]
  have lo:=yP H xm;rw[ij] at lo;obtain⟨lw,e⟩:=H.deal.ldb j _ lo;have b:=Q0 (show decide _=tj from h2)
  have u1:=lw.1;refine pE ?_ (by exact cy u1)
  obtain⟨u,hu⟩:∃u,u=YN c qs ((Q9 c).getD j ""):=#[_,rfl];rw[<-hu] at e b u1 ⊢
  obtain⟨g,hg⟩:∃g,g=US M0 (R7 (UM c t) R) j:=#[_,rfl];rw[<-hg] at e ⊢
  calc lv.1*M0*u.2=lv.1*u.2*M0:=by rw[ee,eE M0,<-ee]
   _<u.1*lv.2*M0:=nX b eJ
   _=u.1*M0*lv.2:=by rw[ee,eE lv.2,<-ee]
   _=u.2*g*lv.2:=by rw[e]
   _=g*lv.2*u.2:=by rw[eE u.2,ee,eE u.2,<-ee]
 have s1:=ET nJ each;have pull:∀l:xaf,(l.map λj=>US M0 (R7 (UM c t) R) j*lv.2).sum=(l.map λj=>US M0 (R7 (UM c t) R) j).sum*lv.2:=λl=>by
  induction l with
  | nil=>rw[kZ,oh,kZ,oh,km]
  | cons a l ih=>rw[be,bL,ih,be,bL,kW]
 have inn:∀x∈R7 (UM c t) R,x.1<(Q9 c).length:=λx hx=>by obtain⟨z,hz,hx⟩:=ju.mp hx;exact(H.deal.rows.2 z.1 (bY hz).1).2.2 x.1 (bY hx).1
 have s2:=Mr (P:=abP c qs lv) inn;rw[<-hJ] at s2;have s3:X0 (abP c qs lv) (R7 (UM c t) R)=(((S4 (Q9 c) t).filter λq=>YQ c t R (V2 c qs lv) q.1).map λq=>q.2.1).sum*M0:=by
  have l2:R.length=(S4 (Q9 c) t).length:=by rw[H.deal.ev.len];unfold UM;rw[bn]
  unfold R7;rw[Ms];unfold UM;rw[qV,cB];have e1:((S4 (Q9 c) t).zip R).map ((λx=>X0 (abP c qs lv) (x.1.zip x.2))∘Prod.map (λq=>UF (Q9 c) q.2.2) id)=((S4 (Q9 c) t).zip R).map ((λq=>[Δ,YQ c t R (V2 c qs lv) q.1,q.2.1*M0])∘Prod.fst):=cz λz hz=>by obtain⟨k,hk⟩:=bz hz;obtain⟨k1,k2⟩:=bP.mp hk;exact yo H l1 k1 k2
  rw[e1,<-cB,wM Β]
  induction S4 (Q9 c) t with
  | nil=>rw[kZ,oh,Aw,kZ,oh,km]
  | cons q l ih =>
   rw[be,bL,ih]
   by_cases z:YQ c t R (V2 c qs lv) q.1=tj
   .rw[QY z,um (p:=λq:Q7×(Int×List Q7)=>YQ c t R (V2 c qs lv) q.1) z,be,bL,kW]
   .rw[QX z,uk (p:=λq:Q7×(Int×List Q7)=>YQ c t R (V2 c qs lv) q.1) z,nY]
 have s4:((VE c t R (V2 c qs lv)).map (wkT t)).sum=(((S4 (Q9 c) t).filter λq=>YQ c t R (V2 c qs lv) q.1).map λq=>q.2.1).sum:=by
  have e1:VE c t R (V2 c qs lv)=(t.filter λq=>YQ c t R (V2 c qs lv) q.1).map Prod.fst:=by unfold VE Rc;rw[qX];rfl
  have e2:t.filter (λq=>YQ c t R (V2 c qs lv) q.1)=(S4 (Q9 c) t).filter λq=>YQ c t R (V2 c qs lv) q.1:=by
   unfold S4;rw[Al];refine wK λq hq=>?_;cases z:YQ c t R (V2 c qs lv) q.1 with
   | false=>rfl
   | true =>
    obtain⟨k,y,hy,e⟩:=EQ H z;have my:=aK hy;have a:=eM H.ct.ndt (show(y.1,y.2)∈t from(jR my).1)
    have b:=eM H.ct.ndt (show(q.1,q.2)∈t from hq)
    rw[e,b] at a;have eq:=Prod.ext e.symm (dX a);rw[eq];exact((bi.mp my).2).symm
  rw[e1,cB,<-e2];congr 1;refine cz λq hq=>?_;show((Sk q.1 t).map λp=>p.1).getD 0=_;rw[eM H.ct.ndt (show(q.1,q.2)∈t from(bi.mp hq).1)];rfl
 rw[lJ,s4];rw[pull,s2,s3] at s1;refine pE ?_ (cy eJ)
 calc lv.1*J.length*M0=lv.1*M0*J.length:=by rw[ee,eE J.length,<-ee]
  _<_:=s1
  _=_:=by rw[ee,eE M0,<-ee]
end
end NAY
set_option maxHeartbeats 4000000
namespace NAM
open PySem PySem.Spec PyProof.Rows NAL NAL.EX NAL.RX
noncomputable def top (i:Nat):SD:=PySem.Challenge.pw_evenyoke_k61_whole_limits.main.body.getD i (.Pass #[0,0,0,0])
noncomputable def lamOf (q:Q7) (st:SD):Lam:=match st with| .Assign _ (.Call _ [_,.Lambda ps b sc _] _ _) _=>#[q,ps,b,sc]| _=>#[q,default,.Constant .none 0 #[0,0,0,0],default]
noncomputable def lamS:Lam:=lamOf ((PyProof.Rows.envOfC "House.settle" (RF (XN (top 46) 15)) 0 0 (.ref 0)).qual++"<lambda>") ((SS (XN (top 46) 15)).getD 10 (.Pass #[0,0,0,0]))
noncomputable abbrev gC (K:bw) (CP CR CH T:Q5) (XC:Nat->Q5):CT where
 K:=K
 cl:=λc=>match c with
  | 0=>CP
  | 1=>CR
  | _=>CH
 nm:=λc=>match c with
  | 0=>["many_gives","tie_ends","sent","spare","ties_at"]
  | 1=>["present","dealt","works","doers"]
  | _=>["crew","tasks","rows","burdens","piece_rows"]
 xc:=XC
 fa:=λ_=>0
 lm:=λ_=>lamS
 tb:=λ_=>T
 nl:=1
abbrev Wy:RS:=(Rn (Rp UO (rV 2) (Rp gPow [Α,10] [Α,12])) (rN 2))
def SL:=Sy ff 2 2 (Ra (RN (Rj (Rp (TK ff) (Rp Ti (rV 0) [Α,2]) [Α,0])) (Ra (Rn (Rp UO (RW Zs (Q2 (rV 0) Q6)) [Α,2]) (rN 2)) (Ra (S8 (rIr (Q2 (rV 1) Q6)) (rN 3) Wy) (Rr (rV 2)))) Rw) (Ra (Rn (Rp Ti (Rp (UP ff) (rV 0) (Rp (Uq ff) [Α,7919] (rV 1))) [Α,2147483629]) (rN 2)) (Ra (Rn (Rp Ti (Rp (UP ff) (Rp (UP ff) (Rp (Uq ff) (rV 2) (rV 2)) (Rp (Uq ff) [Α,16807] (rV 2))) (rV 1)) [Α,2147483629]) (rN 2)) (Rr (Rp Ti (Rp (Uq ff) (rV 2) (rV 2)) [Α,2147483587])))))
def U3:=Sy ff 2 4 (Ra (Rn (rC (.str "abcdefghijklmnopqrstuvwxyz")) (rN 2)) (Ra (Rn (RW SL (Q2 (rV 0) (Q2 [Α,0] Q6))) (rN 3)) (Ra (Rn (rSl ff (rV 2) (Z1 (Rp Ti (rV 3) [Α,26])) (Z1 (Rp (UP ff) (Rp Ti (rV 3) [Α,26]) (Rp Ti (Rp UO (rV 3) [Α,26]) [Α,6])))) (rN 4)) (Ra (Rn (Rp Ti (Rp UO (rV 3) [Α,156]) (Rp (UP ff) (RW R3 (Q2 (rV 4) Q6)) [Α,1])) (rN 5)) (Rr (UJ ["_law_k","_law_base","_law_at","_law_letters"] ff (rIr (Q2 (rV 1) Q6)) 1 [4,5,2] (rN 0) Si (Rp (UP ff) (Rp (UP ff) (rSl ff (rV 1) rO0 (Z1 (rV 2))) (Rk (rV 3) (rV 0))) (rSl ff (rV 1) (Z1 (rV 2)) rO0))))))))
def Us:=Sy ff 2 0 (Ra (RN (Rj (Rp YY (rV 1) (RW R3 (Q2 (rV 0) Q6)))) (Rr (Rk (rV 0) (rV 1))) Rw) (Rr [Α,0]))
def XS:=Sy ff 1 0 (Ra (X2 2 0 (rV 0) (WG ff)) (Ra (X2 2 1 (rV 0) (WG ff)) (Ra (X2 2 2 (rV 0) (WG ff)) (Ra (X2 2 3 (rV 0) (WG ff)) (X2 2 4 (rV 0) (rC .non))))))
abbrev Vw:RS:=(RN (Rj (Rp (Xj tj) (rV 2) (rV 1))) (Rr (rV 2)) Rw)
def TU:=Sy ff 2 1 (Ra (S8 (Td (rV 0)) (rN 2) Vw) (Rr (rC .non)))
abbrev VG:RS:=(Ra (RN (Rj (Rp (TK ff) (Rp Ti (rV 0) [Α,2]) [Α,1])) (V1 (Wu (rV 2) (Q2 (rV 3) Q6))) Rw) (Rn (Rp UO (rV 0) [Α,2]) (rN 0)))
def WR:=Sy ff 2 2 (Ra (Rn (Sj tj Q6) (rN 2)) (Ra (S8 (Td (rV 1)) (rN 3) VG) (Ra (RN (Rj (Rp (TK ff) (rV 2) (Sj ff Q6))) (Rn (Sj tj (Q2 (Rk (rV 1) (Rp Ti (rV 0) (RW R3 (Q2 (rV 1) Q6)))) Q6)) (rN 2)) Rw) (Rr (rV 2)))))
def VB:=Sy ff 1 1 (Ra (Rn (RW SL (Q2 (rV 0) (Q2 [Α,3] Q6))) (rN 1)) (Ra (RN (Rj (Rp (TK ff) (Rp Ti (rV 1) [Α,4]) [Α,0])) (Rr (Rp (UP ff) [Α,1] (Rp Ti (rV 0) (Rp X3 (Rp gPow [Α,10] [Α,60]) [Α,1])))) Rw) (Ra (RN (Rj (Rp (TK ff) (Rp Ti (rV 1) [Α,4]) [Α,1])) (Rr (Rp (UP ff) [Α,1] (Rp Ti (Rp UO (rV 1) [Α,4]) [Α,1000]))) Rw) (Rr (Rp (UP ff) [Α,1] (Rp Ti (Rp UO (rV 1) [Α,4]) [Α,5]))))))
def XD:=Sy ff 3 2 (Ra (Rn (RW TU (Q2 (Rk (rV 2) [Α,1]) (Q2 (Rk (rV 1) [Α,2]) Q6))) (rN 3)) (Ra (Rn (RW SL (Q2 (rV 0) (Q2 [Α,2] Q6))) (rN 4)) (Rr (TZ (Q2 (rC (.str "put")) (Q2 (rV 3) (Q2 (RW VB (Q2 (rV 0) Q6)) (Q2 (Zy ff (RW WR (Q2 (rV 4) (Q2 (Rk (rV 1) [Α,0]) Q6))) (Rp X3 [Α,1] (Rp (Uq ff) [Α,2] (Rp Ti (Rp UO (rV 4) [Α,1024]) [Α,2])))) Q6))))))))
def VC:=Sy ff 3 6 (Ra (Rn (Rp Ti (RW SL (Q2 (rV 0) (Q2 [Α,0] Q6))) [Α,8]) (rN 3)) (Ra (Rn (RW SL (Q2 (rV 0) (Q2 [Α,1] Q6))) (rN 4)) (Ra (Rn (Y9 (Rp (TK ff) (rV 3) [Α,7]) (TP (Rp (TK ff) (Rp Ti (rV 3) [Α,3]) [Α,0]) (Rp YY (RW R3 (Q2 (Rk (rV 1) [Α,0]) Q6)) [Α,3]))) (rN 5)) (Ra (RN (Za (Rj (Rp (TK ff) (Rk (rV 1) [Α,0]) (Sj ff Q6))) (WJ (Rj (rV 5)) (Rj (Rp YY (RW R3 (Q2 (Rk (rV 1) [Α,0]) Q6)) (RW R3 (Q2 (Rk (rV 2) [Α,0]) Q6)))))) (Rr (TZ (Q2 (rC (.str "hire")) (Q2 (RW TU (Q2 (Rk (rV 2) [Α,0]) (Q2 (Rk (rV 1) [Α,0]) Q6))) Q6)))) Rw) (Ra (Rn (Rk (Rk (rV 1) [Α,0]) (Rp Ti (rV 4) (RW R3 (Q2 (Rk (rV 1) [Α,0]) Q6)))) (rN 6)) (Ra (RN (Za (Rj (Rp (TK ff) (rV 3) [Α,5])) (Za (Rj (Rp (TK ff) (rV 3) [Α,6])) (WJ (Rj (Rp YO (rV 3) [Α,1])) (Rj (Rp gEqE (Rk (rV 1) [Α,2]) (WG ff)))))) (Rr (TZ (Q2 (Rk (Sj ff (Q2 (rC (.str "away")) (Q2 (rC (.str "back")) Q6))) (RW gInt (Q2 (Rp (Xj ff) (rV 6) (Rk (rV 1) [Α,1])) Q6))) (Q2 (rV 6) Q6)))) Rw) (Ra (RN (WJ (Rj (Rp YY (rV 3) [Α,2])) (Rj (Rp YY (RW R3 (Q2 (Rk (rV 1) [Α,2]) Q6)) (RW R3 (Q2 (Rk (rV 2) [Α,1]) Q6))))) (Rr (RW XD (Q2 (rV 0) (Q2 (rV 1) (Q2 (rV 2) Q6))))) Rw) (Ra (Rn (Rk (ZT ff (Rk (rV 1) [Α,2])) (Rp Ti (Rp UO (rV 4) [Α,7]) (RW R3 (Q2 (Rk (rV 1) [Α,2]) Q6)))) (rN 7)) (Ra (Rn (Rk (Rk (Rk (rV 1) [Α,2]) (rV 7)) [Α,0]) (rN 8)) (Ra (RN (Rj (Rp (TK ff) (rV 3) [Α,2])) (Rr (TZ (Q2 (rC (.str "drop")) (Q2 (rV 7) Q6)))) Rw) (Ra (RN (WJ (Rj (Rp (TK ff) (rV 3) [Α,3])) (Rj (Rp YO (rV 8) [Α,1]))) (Rr (TZ (Q2 (rC (.str "fewer")) (Q2 (rV 7) (Q2 (Rp (UP ff) [Α,1] (Rp Ti (Rp UO (rV 4) [Α,49]) (RW gMin (Q2 (Rp X3 (rV 8) [Α,1]) (Q2 [Α,4] Q6))))) Q6))))) Rw) (Rr (TZ (Q2 (rC (.str "more")) (Q2 (rV 7) (Q2 (RW VB (Q2 (rV 0) Q6)) Q6))))))))))))))))
def VX:=Sy ff 2 0 (Ra (RN (Rj (Rp (TK ff) (Rk (rV 1) [Α,0]) (rC (.str "hire")))) (Rr (Rv 2 Wj (rV 0) (Q2 (Rk (rV 1) [Α,1]) Q6))) Rw) (Ra (RN (Rj (Rp (TK ff) (Rk (rV 1) [Α,0]) (rC (.str "put")))) (Rr (Rv 2 WU (rV 0) (Q2 (Rk (rV 1) [Α,1]) (Q2 (Rk (rV 1) [Α,2]) (Q2 (Rk (rV 1) [Α,3]) Q6))))) Rw) (Ra (RN (Rj (Rp (TK ff) (Rk (rV 1) [Α,0]) (rC (.str "drop")))) (Rr (Rv 2 Wl (rV 0) (Q2 (Rk (rV 1) [Α,1]) Q6))) Rw) (Ra (RN (Rj (Rp (TK ff) (Rk (rV 1) [Α,0]) (rC (.str "more")))) (Rr (Rv 2 Wi (rV 0) (Q2 (Rk (rV 1) [Α,1]) (Q2 (Rk (rV 1) [Α,2]) Q6)))) Rw) (Ra (RN (Rj (Rp (TK ff) (Rk (rV 1) [Α,0]) (rC (.str "fewer")))) (Rr (Rv 2 VM (rV 0) (Q2 (Rk (rV 1) [Α,1]) (Q2 (Rk (rV 1) [Α,2]) Q6)))) Rw) (Ra (RN (Rj (Rp (TK ff) (Rk (rV 1) [Α,0]) (rC (.str "away")))) (Rr (Rv 2 Wn (rV 0) (Q2 (Rk (rV 1) [Α,1]) Q6))) Rw) (Rr (Rv 2 Wm (rV 0) (Q2 (Rk (rV 1) [Α,1]) Q6)))))))))
def We:=Sy tj 2 0 (Ra (RN (Rj (Rp (TK ff) (Rk (rV 1) [Α,0]) (rC (.str "hire")))) (V1 (Wu (Rk (rV 0) [Α,0]) (Q2 (Rk (rV 1) [Α,1]) Q6))) Rw) (Ra (RN (Rj (Rp (TK ff) (Rk (rV 1) [Α,0]) (rC (.str "put")))) (WE (Sj tj (Q2 (Rk (rV 1) [Α,2]) (Q2 (RW (Ws ff) (Q2 (Rk (rV 1) [Α,3]) Q6)) Q6))) (Rk (rV 0) [Α,2]) (Rk (rV 1) [Α,1])) Rw) (Ra (RN (Rj (Rp (TK ff) (Rk (rV 1) [Α,0]) (rC (.str "drop")))) (V1 (Y2 (Rk (rV 0) [Α,2]) (Rk (rV 1) [Α,1]))) Rw) (Ra (RN (Rj (Rp (TK ff) (Rk (rV 1) [Α,0]) (rC (.str "more")))) (WE (Rp (UP tj) (Rk (Rk (Rk (rV 0) [Α,2]) (Rk (rV 1) [Α,1])) [Α,0]) (Rk (rV 1) [Α,2])) (Rk (Rk (rV 0) [Α,2]) (Rk (rV 1) [Α,1])) [Α,0]) Rw) (Ra (RN (Rj (Rp (TK ff) (Rk (rV 1) [Α,0]) (rC (.str "fewer")))) (WE (Rp X3 (Rk (Rk (Rk (rV 0) [Α,2]) (Rk (rV 1) [Α,1])) [Α,0]) (Rk (rV 1) [Α,2])) (Rk (Rk (rV 0) [Α,2]) (Rk (rV 1) [Α,1])) [Α,0]) Rw) (Ra (RN (Rj (Rp (TK ff) (Rk (rV 1) [Α,0]) (rC (.str "away")))) (WE (rC (.bl tj)) (Rk (rV 0) [Α,1]) (Rk (rV 1) [Α,1])) Rw) (RN (Rj (Rp (TK ff) (Rk (rV 1) [Α,0]) (rC (.str "back")))) (V1 (Y2 (Rk (rV 0) [Α,1]) (Rk (rV 1) [Α,1]))) Rw)))))))
def Wh:=Sy ff 2 0 (Rr (Rp YY (Rp (Uq ff) (Rk (rV 0) [Α,0]) (Rk (rV 1) [Α,1])) (Rp (Uq ff) (Rk (rV 1) [Α,0]) (Rk (rV 0) [Α,1]))))
abbrev Vb:RS:=(RN (Rj (Rp (TK tj) (UJ ["_law_hand","_law_share","_law_names_here"] ff (Td (Rv 2 Uu (rV 0) (Q2 (rV 5) Q6))) 2 [2] (WH 0 1) (Rj (Rp (Xj ff) (rV 0) (rV 2))) (rV 0)) (Sj ff Q6))) (V1 (Wu (rV 4) (Q2 (rV 5) Q6))) Rw)
abbrev Yn:RS:=(RN (WJ (Rj (Rp (Xj tj) (rV 6) (rV 2))) (Rj (Rp (Xj tj) (rV 6) (Rk (rV 1) [Α,1])))) (Rr (rC (.bl ff))) Rw)
abbrev Wz:RS:=(Ra (RN (Rj (Rp (Xj tj) (rV 5) (rV 4))) (Rr (rC (.bl ff))) Rw) (S8 (Td (Rk (Rk (Rk (rV 1) [Α,2]) (rV 5)) [Α,1])) (rN 6) Yn))
def Wg:=Sy ff 4 3 (Ra (RN (Za (V6 (Rj (Xr 4 (rV 2)))) (V6 (Rj (Xr 4 (rV 3))))) (Rr (rC (.bl ff))) Rw) (Ra (Rn (Sj tj Q6) (rN 4)) (Ra (S8 (Td (Rv 2 SZ (rV 0) Q6)) (rN 5) Vb) (Ra (S8 (Td (rV 3)) (rN 5) Wz) (Rr (Rp (TK ff) (rV 3) (rV 4)))))))
def SN:=Sy ff 3 5 (Ra (Rn (UJ ["_law_name","_law_level_here","_law_house"] ff (Td (Rk (rV 1) [Α,0])) 1 [2,0] (rN 0) (Rj (RW Wh (Q2 (rV 1) (Q2 (Rv 2 TF (rV 2) (Q2 (rV 0) Q6)) Q6)))) (rV 0)) (rN 3)) (Ra (Rn (RW Wd (Q2 (rV 0) (Q2 (rV 2) Q6))) (rN 4)) (Ra (RN (Rj (Rp (TK ff) (rV 3) (Sj ff Q6))) (Rr (TP (Xr 5 (rV 4)) (Rp (TK ff) (rV 4) (TZ (Q2 (rC (.str "yes")) Q6))))) Rw) (Ra (RN (Za (V6 (Rj (Xr 5 (rV 4)))) (Za (Rj (Rp (TK tj) (RW R3 (Q2 (rV 4) Q6)) [Α,3])) (Za (Rj (Rp (TK tj) (Rk (rV 4) [Α,0]) (rC (.str "no")))) (Rj (Rp (TK tj) (Rk (rV 4) [Α,1]) (rV 3)))))) (Rr (rC (.bl ff))) Rw) (Ra (RN (V6 (Rj (RW Wg (Q2 (rV 0) (Q2 (rV 1) (Q2 (Rk (rV 4) [Α,1]) (Q2 (Rk (rV 4) [Α,2]) Q6))))))) (Rr (rC (.bl ff))) Rw) (Ra (Rn (RW gSum (Q2 (UJ ["_law_chore","_law_note"] ff (Td (Rk (rV 4) [Α,2])) 1 [1] (rN 0) Si (Rk (Rk (Rk (rV 1) [Α,2]) (rV 0)) [Α,0])) Q6)) (rN 5)) (Ra (RN (Rj (Rp gLe (Rp (Uq ff) (rV 5) (Rk (rV 2) [Α,1])) (Rp (Uq ff) (Rk (rV 2) [Α,0]) (RW R3 (Q2 (rV 3) Q6))))) (Rr (rC (.bl ff))) Rw) (Ra (Rn (RW (Ws ff) (Q2 (Rk (rV 4) [Α,2]) Q6)) (rN 6)) (Ra (V1 (rClr (Rk (rV 4) [Α,1]))) (Ra (V1 (Wu (Rk (rV 4) [Α,2]) (Q2 (rC (.str "a")) Q6))) (Ra (Rn (RW Wd (Q2 (rV 0) (Q2 (rV 2) Q6))) (rN 7)) (Rr (TP (Rp (TK ff) (RW R3 (Q2 (rV 7) Q6)) [Α,3]) (TP (Rp (TK ff) (Rk (rV 7) [Α,1]) (rV 3)) (Rp (TK ff) (Rk (rV 7) [Α,2]) (rV 6))))))))))))))))
abbrev VQ:RT:=(Rj (Rp YO (rV 2) [Α,0]))
abbrev UA:RS:=(rPar 2 3 (Q2 (Rp Ti (rV 3) (rV 2)) (Q2 (rV 2) Q6)))
def Vm:=Sy ff 2 2 (Ra (Rn (RW Zs (Q2 (rV 0) Q6)) (rN 2)) (Ra (Rn (RW Zs (Q2 (rV 1) Q6)) (rN 3)) (Ra (UE ng VQ UA) (Rr (rV 3)))))
def VJ:=Sy ff 2 1 (Ra (Rn (RW Vm (Q2 (rV 0) (Q2 (rV 1) Q6))) (rN 2)) (Ra (RN (Rj (Rp YY (rV 1) [Α,0])) (Rn (rUn YH (rV 2)) (rN 2)) Rw) (Rr (TZ (Q2 (Rp UO (rV 0) (rV 2)) (Q2 (Rp UO (rV 1) (rV 2)) Q6))))))
def Wf:=Sy ff 3 1 (Ra (Rn (RW SL (Q2 (rV 0) (Q2 [Α,4] Q6))) (rN 3)) (Ra (RN (Rj (Rp (TK ff) (Rp Ti (rV 3) [Α,3]) [Α,0])) (Rr (TZ (Q2 [Α,0] (Q2 [Α,1] Q6)))) Rw) (Ra (RN (WJ (Rj (Rp (TK ff) (Rp Ti (rV 3) [Α,3]) [Α,1])) (Rj (Rp (TK tj) (Rk (rV 2) [Α,0]) (Sj ff Q6)))) (Rr (Rv 2 TF (rV 1) (Q2 (Rk (Rk (rV 2) [Α,0]) (Rp Ti (Rp UO (rV 3) [Α,3]) (RW R3 (Q2 (Rk (rV 2) [Α,0]) Q6)))) Q6))) Rw) (Rr (RW VJ (Q2 (Rp Ti (Rp UO (rV 3) [Α,3]) [Α,1000]) (Q2 (Rp (UP ff) [Α,1] (Rp Ti (Rp UO (rV 3) [Α,3000]) [Α,40])) Q6)))))))
abbrev ZR:RS:=(Ra (Rn (RW VC (Q2 (rV 4) (Q2 (rV 3) (Q2 (rV 1) Q6)))) (rN 5)) (Ra (V1 (RW VX (Q2 (rV 2) (Q2 (rV 5) Q6)))) (Ra (V1 (RW We (Q2 (rV 3) (Q2 (rV 5) Q6)))) (RN (V6 (Rj (RW SN (Q2 (rV 2) (Q2 (rV 3) (Q2 (RW Wf (Q2 (rV 4) (Q2 (rV 2) (Q2 (rV 3) Q6)))) Q6)))))) (Rr (rC (.bl ff))) Rw))))
abbrev z_law_1:RS:=(RN (V6 (Rj (RW SN (Q2 (rV 2) (Q2 (rV 3) (Q2 (Rv 2 TF (rV 2) (Q2 (rV 6) Q6)) Q6)))))) (Rr (rC (.bl ff))) Rw)
def e_law:=Sy ff 1 6 (Ra (Rn (Sj ff (Q2 (RW U3 (Q2 (RW Us (Q2 (rV 0) (Q2 [Α,0] Q6))) (Q2 [Α,4] Q6))) (Q2 (RW U3 (Q2 (RW Us (Q2 (rV 0) (Q2 [Α,1] Q6))) (Q2 [Α,4] Q6))) Q6))) (rN 1)) (Ra (Rn (RW (XQ 2 XS) Q6) (rN 2)) (Ra (Rn (Sj ff (Q2 (Sj tj Q6) (Q2 (WG tj) (Q2 (WG tj) Q6)))) (rN 3)) (Ra (S8 (Td (rSl ff (rV 0) (Z1 [Α,2]) (Z1 [Α,12]))) (rN 4) ZR) (Ra (S8 (Td (Rk (rV 3) [Α,0])) (rN 6) z_law_1) (Rr (RW SN (Q2 (rV 2) (Q2 (rV 3) (Q2 (TZ (Q2 [Α,0] (Q2 [Α,1] Q6))) Q6))))))))))
end NAM
set_option maxHeartbeats 1000000
namespace NAY
open PySem NAL NAL.EX NAL.RX NAM
section
variable {h:TH}{ns:xae}{i:Nat}
noncomputable def fin0 (x:Fl) (h:TH):RX.R D:=match x with| .nx _=>.no| .rt v=>.ok v h
theorem sV {κ:Fl->TH->RX.R D}(z:fT ρ h=.ok tj h1)(y:(f ρ h1).bnd fin0=.ok d h2)(k:κ (.rt d) h2=r):(Ra (RN fT f Rw) g ρ h).bnd κ=r:=by cases e:f ρ h1 with| ok x h' =>(rw[e] at y;cases x with| nx _=>cases y| rt v=>cases y;rwa [xR ((iW z).trans e)])| _=>rw[e] at y;cases y
theorem EU (a1:Bd 4096 a.1)(a2:Bd 4096 a.2)(b1:Bd 4096 b.1)(b2:Bd 4096 b.2):Wh [SA a,SA b] h=.ok (.bl (Yb a b)) h:=a8 rfl (sR (aG (aG rfl rfl (iq a1 b2)) (aG rfl rfl (iq b1 a2)) lt_int) (bF rfl))
theorem EV {k:Nat}(e:h[i]?=se (.mr ns)):Us [.at i,.int k] h=.ok (.int (ns.getD k 0)) h:=by(have e2:eS h (.at i)=se (ns.map .int):=by unfold eS;dsimp only;rw[aW,e]);(have gl:R3 [.at i] h=.ok (.int ns.length) h:=by unfold R3 eK;dsimp only;rw[aW,e];rw[e2];show RX.R.ok (D.int (.ofNat (Sn (ns.map D.int)))) _=_;rw[aV,bn];rfl);refine a8 rfl (sB (aM (aG rfl (aJ rfl gl) lt_int)) (λz=>?_) λz=>?_);refine sR (aG rfl rfl ?_) (bF rfl);unfold Yi eK;dsimp only;rw[aW,e];show Rz (eS h (.at i)) _=_;rw[e2];show Rz (ZG (ns.map D.int) k) _=_;rw[Vj,bo,getD_at' (by simpa using z) 0];rfl;rw[bR,fh (by simpa using z)];exact sR rfl (bF rfl)
theorem gX (h:x.natAbs<2^64):Bd 4096 x:=iR h (mE Γ Γ)
theorem qB {k:Nat}(hk:k<=9):∃m:Int,0<=m/\SL [.int c,.int k] h=.ok (.int m) h:=by by_cases z:c%2=0;obtain⟨ρ2,h2,lp,⟨m,y,m0,rfl⟩,rfl⟩:=fq (f:=Wy) (fg:=rN 3) (fi:=rIr (Q2 (rV 1) Q6)) (ρ:=[se (.int c),se (.int k),se (.int ((if c<0 then-c else c).fdiv 2)),ng]) (λ_ ρ g=>(∃m y,0<=m/\ρ=[se (.int c),se (.int k),se (.int m),y])/\g=h) (rH rfl (NAG.gl68 hk)) (λi _ _ _=>rE i) (by rw[kX];exact NAG.gl68 hk) #[#[_,_,zU (by split<;>lia) Γ,rfl],rfl] (by rintro i a ρ g _ ⟨⟨m,y,m0,rfl⟩,rfl⟩;exact#[_,rfl,nE (jb (aG rfl rfl (fP Γ Γ)) rfl) #[#[_,_,zU m0 Γ,rfl],rfl]]);exact#[m,m0,a8 rfl (sV (aM (aG (aG rfl rfl (mod_int Γ)) rfl (eq_int.trans (by rw[QZ z];rfl)))) (sA (aG (aJ rfl rM) rfl (fP Γ Γ)) (sG lp (sR rfl rfl))) (bF rfl))];obtain⟨n,hn⟩:∃n,n=(c+7919*k)%2147483629:=#[_,rfl];obtain⟨l,hl⟩:∃l,l=(n*n+16807*n+k)%2147483629:=#[_,rfl];exact#[l*l%2147483587,jG _ Γ,a8 rfl (sF (aM (aG (aG rfl rfl (mod_int Γ)) rfl (eq_int.trans (by rw[Q1 z];rfl)))) (sA (aG (aG rfl (aG rfl rfl (iq (gX Β) (gX (by lia)))) add_int) rfl ((mod_int Γ).trans (by rw[<-hn]))) (sA (aG (aG (aG (aG rfl rfl (iq (gX (by lia)) (gX (by lia)))) (aG rfl rfl (iq (gX Β) (gX (by lia)))) add_int) rfl add_int) rfl ((mod_int Γ).trans (by rw[<-hl]))) (sR (aG (aG rfl rfl (iq (gX (by lia)) (gX (by lia)))) rfl (mod_int Γ)) (bF rfl)))))]
theorem EW:∃w:Int,1<=w/\w<=10^60/\VB [.int c] h=.ok (.int w) h:=by obtain⟨m,m0,q⟩:=qB (c:=c) (k:=3) Γ;obtain⟨big,hb⟩:∃b:Int,b=10^60-1:=#[_,rfl];(have b0:0<big:=by rw[hb];decide);(have p1:gPow (.int 10) (.int 60) h=.ok (.int (big+1)) h:=by rw[hb];rfl);(have e1:big+1-1=big:=by simp[p1]);have r1:=jG c (show big≠0 by exact di b0);have D4:UO (.int m) (.int 4) h=.ok (.int (m.fdiv 4)) h:=fP Γ Γ;by_cases z:m%4=0;exact#[1+c%big,NAG.gl64 r1,by lia,a8 rfl (sA (aJ (aH rfl (aH rfl rfl)) q) (sT (aM (aG (aG rfl rfl (mod_int Γ)) rfl (vg z))) (sR (aG rfl (aG rfl (aG (aG rfl rfl p1) rfl rfl) (mod_int (by rw[e1];exact b0))) (by rw[e1];rfl)) (bF rfl))))];by_cases y:m%4=1;exact#[1+m.fdiv 4%1000,by lia,by lia,a8 rfl (sA (aJ (aH rfl (aH rfl rfl)) q) (sF (aM (aG (aG rfl rfl (mod_int Γ)) rfl (qh z))) (sT (aM (aG (aG rfl rfl (mod_int Γ)) rfl (vg y))) (sR (aG rfl (aG (aG rfl rfl D4) rfl (mod_int Γ)) rfl) (bF rfl)))))];exact#[1+m.fdiv 4%5,by lia,by lia,a8 rfl (sA (aJ (aH rfl (aH rfl rfl)) q) (sF (aM (aG (aG rfl rfl (mod_int Γ)) rfl (qh z))) (sF (aM (aG (aG rfl rfl (mod_int Γ)) rfl (qh y))) (sR (aG rfl (aG (aG rfl rfl D4) rfl (mod_int Γ)) rfl) (bF rfl)))))]
end
section
variable {γ:Type}{h h2:TH}{l:List γ}{g:γ->D}{fi:RI}{fg:RG}{fs:RS}{nx:Nx}{ρ:R4}{v:D}
theorem EY (Inv:R4->Prop)(hx:∀i,nx h i=se ((l.map g)[i]?))(ha:l[k]?=se a)(ps:∀i b ρ,i<k->l[i]?=se b->Inv ρ->∃ ρ1 ρ2,fg (g b) ρ=se ρ1/\fs ρ1 h=.ok (.nx ρ2) h/\Inv ρ2)(lst:∀ ρ,Inv ρ->∃ ρ1,fg (g a) ρ=se ρ1/\fs ρ1 h=.ok (.rt v) h2) :∀m i ρ,i<=k->k<i+m->Inv ρ->rGo nx fg fs m i ρ h=.ok (.rt v) h2| 0,i,ρ,h1,h3,_=>absurd h3 (by simp[*])| m+1,i,ρ,h1,h3,I=>by rw[xP,hx i,bo];by_cases e:i=k;grind[Rz,RX.R.bnd];(have il:i<l.length:=by grind);have e1:=aT il;obtain⟨ρ1,ρ2,q1,q2,I2⟩:=ps i _ ρ (by lia) e1 I;rw[e1];show Rz (fg (g l[i]) ρ) _=_;rw[q1];show RX.R.bnd (fs ρ1 h) _=_;rw[q2];exact EY Inv hx ha ps lst m (i+1) ρ2 (by lia) (NAG.gl13 h3) I2
theorem Mx (Inv:R4->Prop)(he:fi ρ h=.ok nx h)(hx:∀i,nx h i=se ((l.map g)[i]?))(ha:l[k]?=se a)(hk:k<1000)(h0:Inv ρ)(ps:∀i b ρ,i<k->l[i]?=se b->Inv ρ->∃ ρ1 ρ2,fg (g b) ρ=se ρ1/\fs ρ1 h=.ok (.nx ρ2) h/\Inv ρ2)(lst:∀ ρ,Inv ρ->∃ ρ1,fg (g a) ρ=se ρ1/\fs ρ1 h=.ok (.rt v) h2):S8 fi fg fs ρ h=.ok (.rt v) h2:=by unfold S8;rw[he];exact EY Inv hx ha ps lst 1000 0 ρ (iT _) (by assumption) h0
end
section
variable {h:TH}{ns:List Q7}{P:Q7->Bool}{d:D}
theorem EZ (iz:∀x∈ns,Xj tj (.str x) d h=.ok (.bl (P x)) h)(hl:ns.length<1000)(hx:ns.find? P=se x):TU [.lst (ns.map .str),d] h=.ok (.str x) h:=by obtain⟨px,as,bs,e,np⟩:=List.find?_eq_some_iff_append.mp hx;(have hk:ns[as.length]?=se x:=Β);have il:=(aQ.mp hk).1;(have bd:∀y∈ns,Vw [se (.lst (ns.map .str)),se d,se (.str y)] h=if P y then .ok (.rt (.str y)) h else .ok (.nx [se (.lst (ns.map .str)),se d,se (.str y)]) h:=λy hy=>by have t:=aM (aG (fa:=rV 2) (fb:=rV 1) (ρ:=[se (.lst (ns.map .str)),se d,se (.str y)]) rfl rfl (iz y hy));cases hp:P y with| false=>rw[hp] at t;exact(kF t).trans rfl| true=>rw[hp] at t;exact(iW t).trans rfl);(have f:=Mx (fg:=rN 2) (fi:=Td (rV 0)) (ρ:=[se (.lst (ns.map .str)),se d,ng]) (fun ρ=>∃z,ρ=[se (.lst (ns.map .str)),se d,z]) rfl c9 hk (by exact uC il hl) #[_,rfl] (λi b ρ hi hb #[z,e1]=>by subst e1;(have ba:=by rw[e,iA hi] at hb;exact aK hb);(have nb:=by have:=np b ba;simpa using this);exact#[_,_,rfl,(bd b (aK hb)).trans (by rw[nb];rfl),#[_,rfl]]) fun ρ #[z,e1]=>by subst e1;exact#[_,rfl,(bd x (aK hk)).trans (by rw[px];rfl)]);exact mL rfl (xR f) rfl
end
section
variable {h:TH}{a b:Int}
theorem Mz:Vm [.int a,.int b] h=.ok (.int (bK a b)) h:=by obtain⟨ρ2,h2,q2,rfl,l,rfl⟩:=mN (fT:=VQ) (fs:=UA) (λm ρ h1=>h=h1/\∃l g,ρ=[se (.int a),se (.int b),se (.int l),se (.int g)]/\0<=g/\0<=l/\bK g l=bK a b/\m=l.toNat) (fun ρ h1=>h=h1/\∃l,ρ=[se (.int a),se (.int b),se (.int l),se (.int (bK a b))]) (λm ρ h1 I=>by obtain⟨rfl,l,g,rfl,hg,hl,e,rfl⟩:=I;by_cases c:0<l;have:=kT g c;refine#[tj,h,aM (aG rfl rfl (mO c)),λ_=>nE (h1:=h) ?_ #[(g%l).toNat,NAG.gl24 c this,rfl,g%l,l,rfl,hl,jG _ (by exact di c),by rw[BO hg c,e],rfl],λz=>(nomatch z)];unfold UA rPar;rw[aH (aG rfl rfl (mod_int c)) rfl];rfl;(have e0:=by exact NAG.gl23 hl c);subst e0;exact#[ff,h,aM (aG rfl rfl (mP c)),λz=>(nomatch z),λ_=>#[rfl,0,by rw[<-e,BQ hg]]]) #[rfl,_,_,rfl,uT b,uT a,by rw[l9,BP a b],rfl];exact a8 rfl (sA (aJ (aH rfl rfl) rM) (sA (aJ (aH rfl rfl) rM) (sG q2 (sR rfl (bF rfl)))))
theorem MA (a0:0<=a)(b1:1<=b)(a9:a<1000)(b9:b<=40):∃u:xag,VJ [.int a,.int b] h=.ok (SA u) h/\0<=u.1/\1<=u.2/\Bd 4096 u.1/\Bd 4096 u.2:=by obtain⟨g,hg⟩:∃g:Int,g=(bK a b):=#[_,rfl];have q:=Mz (h:=h) (a:=a) (b:=b);rw[<-hg] at q;have gd:=hg▸zR ..;(have g0:1<=g:=by(have:bK a b≠0:=λz=>Β);lia);have gb:=zV (by assumption) gd;(have lg:g.natAbs.log2<9000:=by have:g.natAbs.log2<6:=(Nat.log2_lt (by lia)).mpr (by lia);lia);have d1:=fP (h:=h) (x:=a) (by exact di g0) lg;have d2:=fP (h:=h) (x:=b) (by exact di g0) lg;have e1:a.fdiv g=a/g:=v7 _ Β;have e2:b.fdiv g=b/g:=v7 _ Β;have n1:0<=a/g:=wa a0 Β;have n2:a/g<=a:=v9 _ a0;have n3:1<=b/g:=(zO (by assumption)).mpr Β;have n4:b/g<=b:=v9 _ (by exact cy b1);exact#[(a.fdiv g,b.fdiv g),a8 rfl (sA (aJ (aH rfl (aH rfl rfl)) q) (sF (aM (aG rfl rfl (qk (by lia)))) (sR (gP (aH (aG rfl rfl d1) (aH (aG rfl rfl d2) rfl)) rfl) (bF rfl)))),by rwa [e1],by rwa [e2],gX (by lia),gX (by lia)]
end
section
variable {h:TH}{ns:List Q7}{a:Nat}
theorem mV (e:h[a]?=se (.ml l)):eS h (.at a)=se l/\eK h (.at a)=none:=by constructor;unfold eS;dsimp only;rw[aW,e];unfold eK;dsimp only;rw[aW,e]
theorem MB (al:a<h.length)(e:h[a]?=se (.ml (ns.map .str)))(hl:ns.length<=20):∃(n:Int) (y:Option D) (acc:List Q7),S8 (Td (rV 1)) (rN 3) VG [se (.int m),se (.at a),se (.at h.length),ng] (h++[.ml []])=.ok (.nx [se (.int n),se (.at a),se (.at h.length),y]) (h++[.ml (acc.map .str)])/\acc.Sublist ns:=by(have ga:∀o:TM,(h++[o])[a]?=se (.ml (ns.map .str)):=λo=>by rwa [iA al]);(obtain⟨ρ2,h2,lp,n,y,acc,e1,e2,s⟩:=CL (fs:=VG) (fg:=rN 3) (l:=ns) (g:=D.str) (nx:=VS (.at a)) (fi:=Td (rV 1)) (h:=h++[.ml []]) (h':=h++[.ml []]) (ρ:=[se (.int m),se (.at a),se (.at h.length),ng]) (λi ρ g=>∃(n:Int) (y:Option D) (acc:List Q7),ρ=[se (.int n),se (.at a),se (.at h.length),y]/\g=h++[.ml (acc.map .str)]/\acc.Sublist (ns.take i)) (by show Rz (eS (h++[.ml []]) (.at a)) _=_;rw[(mV (ga _)).1];rfl) (λi ρ g #[n,y,acc,_,e2,_]=>by rw[e2];show Uz (eS (h++[.ml (acc.map .str)]) (.at a)) _=_;rw[(mV (ga _)).1];show se (eg (ns.map D.str) i)=_;rw[aW]) (NAG.gl59 hl) #[m,ng,[],rfl,rfl,List.nil_sublist _] λi x ρ g hx #[n,y,acc,e1,e2,s]=>by subst e1 e2;(have tk:ns.take (i+1)=ns.take i++[x]:=by rw[pP,hx];rfl);have sl:=s.length_le;have tl:=Ah i ns;have t1:=aM (aG (o:=TK ff) (fa:=Rp Ti (rV 0) [Α,2]) (fb:=[Α,1]) (ρ:=[se (.int n),se (.at a),se (.at h.length),se (.str x)]) (d:=.int (n%2)) (e:=.int 1) (h:=h++[.ml (acc.map .str)]) (h':=h++[.ml (acc.map .str)]) (h2:=h++[.ml (acc.map .str)]) (Jt (h':=h++[.ml (acc.map .str)]) rfl rfl Γ) rfl eq_int);rw[lX] at t1;have dv:∀g:TH,Rn (Rp UO (rV 0) [Α,2]) (rN 0) [se (.int n),se (.at a),se (.at h.length),se (.str x)] g=.ok (.nx [se (.int (n.fdiv 2)),se (.at a),se (.at h.length),se (.str x)]) g:=λg=>jb (aG (d:=.int n) (e:=.int 2) (h':=g) (h2:=g) rfl rfl (fP Γ Γ)) rfl;by_cases z:n%2=1;rw[QZ z] at t1;have ap:=lj (h:=h++[.ml (acc.map .str)]) (fa:=rV 2) (fA:=Q2 (rV 3) Q6) (ρ:=[se (.int n),se (.at a),se (.at h.length),se (.str x)]) (i:=h.length) (l:=acc.map .str) (y:=.str x) rfl R9 rfl (by rw[bn];lia);rw[oJ] at ap;refine#[_,_,_,rfl,ua (oF ((iW t1).trans (fZ ap))) (dv _),n.fdiv 2,_,acc++[x],rfl,by rw[cV];rfl,by rw[tk];exact s.append_right [x]];rw[Q1 z] at t1;exact#[_,_,_,rfl,ua (oF ((kF t1).trans rfl)) (dv _),n.fdiv 2,_,acc,rfl,rfl,by rw[tk];exact s.trans (Aa _ _)]);rw[mu] at s;exact#[n,y,acc,by rw[lp,e1,e2],s]
end
section
variable {h:TH}{ns l l':List Q7}{a i:Nat}{neg:Bool}
theorem E0 (ok:∀x∈l,Ye x):UQ 60 (.lst (l.map .str))=tj:=by show Zt 59 (l.map .str)=tj;induction l with| nil=>rfl| cons x l ih =>rw[be,xK,ih λy hy=>ok y (.tail _ hy),v3];exact ok x (.head _)
theorem E1:∀{l l':List Q7},ZI (dEq 59) (l.map .str) (l'.map .str)=se (decide (l=l'))| [],[]=>rfl| [],_::_=>rfl| _::_,[]=>rfl| x::l,y::l'=>by show(match se (sEq x y)with| some tj=>ZI (dEq 59) (l.map .str) (l'.map .str)| some ff=>se ff| none=>ng)=_;rw[mK,E1];by_cases e:x=y;all_goals simp_all
theorem kL (f1:fz h 0 9 d=se (.lst (l.map .str)))(f2:fz h 0 9 e=se (.lst (l'.map .str)))(o1:∀x∈l,Ye x)(o2:∀x∈l',Ye x):TK neg d e h=.ok (.bl (neg^^decide (l=l'))) h:=by unfold TK;rw[f1];rw[f2];show RU (UQ 60 (.lst (l.map .str))&&UQ 60 (.lst (l'.map .str))) (Rz (ZI (dEq 59) (l.map .str) (l'.map .str)) _)=_;rw[E0 o1,E0 o2,E1];rfl
theorem kM:fz h 0 9 (.lst (l.map .str))=se (.lst (l.map .str)):=iF 9 λd hd=>ZV (λ_=>by trivial) d hd
theorem mW (e:h[i]?=se (.ml (l.map .str))):fz h 0 9 (.at i)=se (.lst (l.map .str)):=vb (iT _) e (ZV λ_=>by trivial)
theorem mX {l:List γ}{k:Nat}(z1:fa ρ h=.ok (.at i) h)(e:h[i]?=se (.ml (l.map g)))(z2:fb ρ h=.ok (.int k) h)(hk:l[k]?=se x):Rk fa fb ρ h=.ok (g x) h:=aG z1 z2 (by unfold Yi;rw[(mV e).2];show Rz (eS h (.at i)) _=_;rw[(mV e).1];grind[Rz,ZG,Vj,bo])
theorem MC (cl:Cl h)(e:h[a]?=se (.ml (ns.map .str)))(hl:ns.length<=20)(ne:ns≠[])(ok:∀x∈ns,Ye x):∃fs:List Q7,WR [.int m,.at a] h=.ok (.lst (fs.map .str)) h/\fs≠[]/\fs.Sublist ns:=by obtain⟨n,y,acc,lp,sb⟩:=MB (aQ.mp e).1 e hl;have eq:=kL (neg:=ff) (h:=h++[.ml (acc.map .str)]) (mW R9) (kM (l:=[])) (λx hx=>ok x (sb.subset hx)) (λx hx=>by cases hx);by_cases z:acc=[];subst z;(have nl:0<(ns.length:Int):=by have:=fj.mpr ne;simp_all);(have kl:(n%ns.length).toNat<ns.length:=by have:=kT n nl;simp_all);refine#[[ns[(n%ns.length).toNat]],a8 rfl (sA XM (sG lp (sG ((iW (aM (aG rfl rfl eq))).trans (jb ((kG (aH (mX rfl (cC e) (aG rfl (aJ rfl (jQ (cC e))) (by rw[bn,mod_int nl];exact congrArg (λx=>RX.R.ok (D.int x) _) (by have:=jG n (show(ns.length:Int)≠0 by exact di nl);exact NAG.gl29 this))) (aT kl)) rfl) rfl).trans (by show RX.R.ok (D.at (hn _)) (hp _ _)=_;rw[fM,fO])) rfl)) (sR rfl ?_)))),by simp,List.singleton_sublist.mpr (jI kl)];rw[fY];exact oH cl (by simp) (by simp) (ZV λ_=>by trivial);refine#[acc,a8 rfl (sA XM (sG lp (sF (aM (aG rfl rfl (eq.trans (by rw[Q1 z];rfl)))) (sR rfl ((λz=>oH cl (bE _) z (ZV λ_=>by trivial)) R9))))),z,sb]
end
section
variable {h:TH}{c:bG}{t:bx}{j:Nat}{neg:Bool}{k:Q7}{α:Type}{f:α->D}{l:List (Q7×α)}{w0 w1:List Q7}
theorem vH (e:h[j]?=se (.md (Sl l) (Tu f l))):Xj neg (.str k) (.at j) h=.ok (.bl (neg^^decide (k∈Rc l))) h:=by have z:=ZC (neg:=neg) (k:=k) (f:=f) (l:=l) (h:=h);unfold Xj at z ⊢;rw[show eK h (.at j)=eK h (VY f l)by unfold eK VY;dsimp only;rw[aW,e]];exact z
structure UX (h:TH)(c:bG)(t:bx)(aw:List (Q7×Bool))(nt:List (Q7×Nat)):Prop where
 n0:h[2]?=se (.ml ((Rc c).map .str))
 n1:h[3]?=se (.md (Sl aw) (Tu D.bl aw))
 n2:h[4]?=se (.md (Sl nt) (Tu D.at nt))
 awi:∀x,x∈Rc aw↔Sk x c=se ff
 an:(Rc aw).Nodup
 nm:Rc nt=Rc t
 nd:(nt.map Prod.snd).Nodup
 at_:∀q∈nt,4<q.2/\∃(w:Int) (ns xs:List Q7),Sk q.1 t=se (w,ns)/\h[q.2]?=se (.ml [.int w,.lst (xs.map .str)])/\xs.length<1000/\∀x∈xs,x∈ns
noncomputable abbrev TJ:D:=.lst [.at 2,.at 3,.at 4]
noncomputable abbrev XY (w0 w1:List Q7):D:=.lst [.lst (w0.map .str),.lst (w1.map .str)]
variable {aw:List (Q7×Bool)}{nt:List (Q7×Nat)}{cell:Int}
theorem MD (hl:t.length<w1.length)(nd:w1.Nodup):∃x,w1.find? (λx=>decide (x∉Rc t))=se x:=by cases e:w1.find? (λx=>decide (x∉Rc t))with| some x=>simp_all| none =>(have:=nd.length_le_of_subset λx hx=>by simpa using Am.mp e x hx);grind[Rc]
theorem ME {l:List D}(z1:fa ρ h=.ok (.lst l) h)(z2:fb ρ h=.ok (.int 1) h):Zy ff fa fb ρ h=.ok (.lst l) h:=by unfold Zy;rw[z1];show RX.R.bnd (fb ρ h) _=_;rw[z2];rfl
theorem MF {l:List D}(z1:fa ρ h=.ok (.lst l) h)(z2:fb ρ h=.ok (.int (-1)) h):Zy ff fa fb ρ h=.ok (.lst l.reverse) h:=by unfold Zy;rw[z1];show RX.R.bnd (fb ρ h) _=_;rw[z2];show RX.R.ok (D.lst (erv l)) h=_;rw[CD]
theorem MG (cl:Cl h)(N:UX h c t aw nt)(ok:∀x∈Rc c,Ye x)(lc:c.length<=20)(ne:c≠[])(hl:t.length<w1.length)(l1:w1.length<1000)(nd:w1.Nodup)(ndc:(Rc c).Nodup):∃(ch:Q7) (w:Int) (xs:List Q7),XD [.int cell,TJ,XY w0 w1] h=.ok (.tup [.str "put",.str ch,.int w,.lst (xs.map .str)]) h/\ch∈w1/\ch∉Rc t/\1<=w/\w<=10^60/\xs≠[]/\xs.Nodup/\∀x∈xs,x∈Rc c:=by obtain⟨ch,hf⟩:=MD hl nd;obtain⟨m,m0,qm⟩:=qB (k:=2) Γ;obtain⟨w,w1',w2,qw⟩:=EW;obtain⟨fs,qf,fn,sb⟩:=MC cl N.n0 (by simpa [Rc] using lc) (by simpa [Rc] using ne) ok;have pf:=Az hf;have qi:=EZ (λx hx=>(vH N.n2).trans (by rw[N.nm];simp)) l1 hf;have r2:=Int.emod_two_eq (m.fdiv 1024);(obtain⟨xs,qx,xn,xd,xi⟩:∃xs:List Q7,(∀{fa fb:RE} {ρ:R4},fa ρ h=.ok (.lst (fs.map .str)) h->fb ρ h=.ok (.int (1-2*(m.fdiv 1024%2))) h->Zy ff fa fb ρ h=.ok (.lst (xs.map .str)) h)/\xs≠[]/\xs.Nodup/\∀x∈xs,x∈Rc c:=by rcases r2 with r | r;exact#[fs,λa b=>ME a (b.trans (by rw[r];rfl)),fn,sb.nodup ndc,λx hx=>sb.subset hx];exact#[fs.reverse,λa b=>(MF a (b.trans (by rw[r];rfl))).trans (by rw[List.map_reverse]),Β,((List.reverse_perm _).nodup_iff.mpr (sb.nodup ndc)),λx hx=>sb.subset Β]);refine#[ch,w,xs,a8 rfl (sA (aJ rfl qi) (sA (aJ rfl qm) (sR (gP (aH rfl (aH rfl (aH (aJ rfl qw) (aH (qx (aJ rfl qf) (aG rfl (aG rfl (aG (aG rfl rfl (fP Γ Γ)) rfl (mod_int Γ)) (iq (gX Γ) (gX (by lia)))) sub_int)) rfl)))) rfl) (bF rfl)))),zY hf,Β,w1',w2,xn,xd,xi]
end
section
variable {h:TH}{cell:Int}
noncomputable abbrev az:Q7:="abcdefghijklmnopqrstuvwxyz"
noncomputable abbrev bsN (a b:Int):Q7:=Xt az (se a) (se (a+b))
def jn (x y:Q7):Q7:=#[#[Ze x.cps.toList y.cps.toList]]
def nmN (B:Q7) (p:Int) (k:Nat):Q7:=jn (jn (Xt B ng (se p)) #[#[[97+k]]]) (Xt B (se p) ng)
noncomputable def okB (x:Q7):Bool:=bQ 1 x.cps.toList.length&&bQ x.cps.toList.length 12&&x.cps.toList.all λc=>bQ 97 c&&bQ c 122
noncomputable def sm (x:Q7):Bool:=bQ x.length 16777216
def chk (a b p:Nat):Bool:=sm (bsN a b)&&bQ (bsN a b).cps.toList.length 5&&sm (Xt (bsN a b) ng (se p))&&sm (Xt (bsN a b) (se p) ng)&&(aR 4).all (λk=>okB (nmN (bsN a b) p k))&&decide (((aR 4).map (nmN (bsN a b) p)).map (·.cps.toList)).Nodup
theorem E2:∀a<26,∀b<6,∀p<6,chk a b p=tj:=by decide +kernel
theorem E3 (e:okB x=tj):Yk x:=by simp only[okB,cI,dz,iQ] at e;exact#[e.1.1,e.1.2,e.2]
theorem E4 (e:(jn x y).cps.toList.length<=100):UP ff (.str x) (.str y) h=.ok (.str (jn x y)) h:=by show RU (bQ _ _) _=_;rw[show bQ (Sn x.cps.toList+Sn y.cps.toList) 16777216=tj by rw[dz,aV,aV];have:(Ze x.cps.toList y.cps.toList).length<=100:=e;rw[gN,dW] at this;lia];rfl
theorem yQ (z1:fa ρ h=.ok (.str z) h)(z2:fl ρ h=.ok lo h)(z3:fu ρ h=.ok up h)(z4:sm (Xt z lo up)=tj):rSl ff fa fl fu ρ h=.ok (.str (Xt z lo up)) h:=by unfold rSl;rw[z1];show RX.R.bnd (fl ρ h) _=_;rw[z2];show RX.R.bnd (fu ρ h) _=_;rw[z3];show RU (sm _) _=_;rw[z4];rfl
theorem MH (hk:k<4)(z1:fa ρ h=.ok (.str az) h)(z2:fb ρ h=.ok (.int k) h):Rk fa fb ρ h=.ok (.str #[#[[97+k]]]) h:=aG z1 z2 (by match k,hk with| 0,_=>rfl| 1,_=>rfl| 2,_=>rfl| 3,_=>rfl)
theorem E5:∃ns:List Q7,U3 [.int cell,.int 4] h=.ok (.lst (ns.map .str)) h/\ns.length=4/\ns.Nodup/\∀x∈ns,Yk x:=by obtain⟨m,m0,qm⟩:=qB (c:=cell) (k:=0) Γ;obtain⟨a,ha⟩:=l6 (jG m (b:=26) Γ);obtain⟨b,hb⟩:=l6 (jG (m.fdiv 26) (b:=6) Γ);have la:=kT m (b:=26) Γ;have lb:=kT (m.fdiv 26) (b:=6) Γ;obtain⟨n,hn⟩:∃n,n=(bsN a b).cps.toList.length:=#[_,rfl];obtain⟨p,hp⟩:=l6 (jG (m.fdiv 156) (b:=n+1) (by lia));have lp:=kT (m.fdiv 156) (b:=n+1) (by simp);have C0:=E2 a (NAG.gl103 ha) b (NAG.gl102 hb) 0 Γ;simp only[chk,cI,dz,iQ,decide_eq_true_eq,<-hn] at C0;have C:=E2 a (NAG.gl103 ha) b (NAG.gl102 hb) p (by lia);simp only[chk,cI,dz,iQ,decide_eq_true_eq] at C;obtain⟨⟨⟨⟨⟨c1,c2⟩,c3⟩,c4⟩,c5⟩,c6⟩:=C;have g1:Ti (.int m) (.int 26) h=.ok (.int a) h:=(mod_int Γ).trans (by rw[ha]);(have g4:R3 [.str (bsN a b)] h=.ok (.int n) h:=by show RU (bQ (Sn (bsN a b).cps.toList) _) (RX.R.ok (D.int (.ofNat (Sn (bsN a b).cps.toList))) h)=_;rw[aV,<-hn,show bQ n 16777216=tj by rw[dz];lia];rfl);have j2:∀k∈aR 4,(nmN (bsN a b) p k).cps.toList.length<=100:=λk hk=>bW (E3 (c5 k hk)).l12 Γ;have j1:=λk hk=>bW (by show _<=(Ze _ _).length;rw[gN,dW];exact ku _ _) (j2 k hk);refine#[(aR 4).map (nmN (bsN a b) p),a8 rfl (sA rfl (sA (aJ rfl qm) (sA (yQ rfl (qq (aG rfl rfl g1)) (qq (aG (aG rfl rfl g1) (aG (aG rfl rfl (fP Γ Γ)) rfl ((mod_int Γ).trans (by rw[hb]))) add_int)) c1) (sA (aG (aG rfl rfl (fP Γ Γ)) (aG (aJ rfl g4) rfl add_int) ((mod_int (by simp)).trans (by rw[hp]))) (sR (cA (rH rfl Γ) rE Γ (λk hk=>#[_,rfl,aG (aG (yQ rfl rfl (qq rfl) c3) (MH (dy.mp hk) rfl rfl) (E4 (j1 k hk))) (yQ rfl (qq rfl) rfl c4) (E4 (j2 k hk))]) (by rfl)) (bF rfl)))))),by rfl,c6.of_map _ λ_ _ z e=>z (by rw[e]),λx hx=>?_];obtain⟨k,hk,rfl⟩:=aU.mp hx;exact E3 (c5 k hk)
end
section
variable {h:TH}{c:bG}{t:bx}{i:Nat}{a b:Bool}{w0 w1:List Q7}{aw:List (Q7×Bool)}{nt:List (Q7×Nat)}{cell:Int}{ρ:R4}{fT fU:RT}{fa fb:RE}{l:List Q7}{k:Q7}
theorem jz (x:fT ρ h=.ok a h)(y:fU ρ h=.ok b h):Za fT fU ρ h=.ok (a||b) h:=by unfold Za;rw[x];cases a;exact y;rfl
theorem jD (x:fT ρ h=.ok a h)(y:fU ρ h=.ok b h):WJ fT fU ρ h=.ok (a&&b) h:=by unfold WJ;rw[x];cases a;rfl;exact y
theorem E6 (x:fa ρ h=.ok (.bl a) h)(y:fb ρ h=.ok (.bl b) h):Y9 fa fb ρ h=.ok (.bl (a||b)) h:=by unfold Y9;rw[x];cases a;exact y;rfl
theorem r8 (x:fa ρ h=.ok (.bl a) h)(y:fb ρ h=.ok (.bl b) h):TP fa fb ρ h=.ok (.bl (a&&b)) h:=by unfold TP;rw[x];cases a;rfl;exact y
theorem MI {f:α->D}{l:List (Q7×α)}(e:h[i]?=se (.md (Sl l) (Tu f l))):R3 [.at i] h=.ok (.int l.length) h:=by unfold R3;dsimp only;rw[show eK h (.at i)=se (Sl l,Tu f l)by unfold eK;dsimp only;rw[aW,e]];show RX.R.ok (D.int (.ofNat (Sn (Sl l)))) h=_;rw[aV];simp[Sl]
inductive Dd where
 | hire (n:Q7)
 | put (ch:Q7) (w:Int) (xs:List Q7)
 | drop (ch:Q7)
 | more (ch:Q7) (w:Int)
 | fewer (ch:Q7) (k:Int)
 | away (n:Q7)
 | back (n:Q7)
noncomputable def Dd.d:Dd->D| hire n=>.tup [.str "hire",.str n]| put ch w xs=>.tup [.str "put",.str ch,.int w,.lst (xs.map .str)]| drop ch=>.tup [.str "drop",.str ch]| more ch w=>.tup [.str "more",.str ch,.int w]| fewer ch k=>.tup [.str "fewer",.str ch,.int k]| away n=>.tup [.str "away",.str n]| back n=>.tup [.str "back",.str n]
def May (c:bG)(t:bx)(w0 w1:List Q7):Dd->Prop| .hire n=>n∈w0/\n∉Rc c| .put ch w xs=>ch∈w1/\ch∉Rc t/\1<=w/\w<=10^60/\xs≠[]/\xs.Nodup/\∀x∈xs,x∈Rc c| .drop ch=>ch∈Rc t| .more ch w=>ch∈Rc t/\1<=w/\w<=10^60| .fewer ch k=>∃w ns,Sk ch t=se (w,ns)/\1<=k/\k<w| .away n=>Sk n c=se tj| .back n=>Sk n c=se ff
theorem MJ {f:α->D}{l:List (Q7×α)}(z:fa ρ h=.ok (.at i) h)(e:h[i]?=se (.md (Sl l) (Tu f l))):ZT ff fa ρ h=.ok (.lst ((Rc l).map .str)) h:=by unfold ZT;rw[z];show Rz (eK h (.at i)) _=_;rw[show eK h (.at i)=se (Sl l,Tu f l)by unfold eK;dsimp only;rw[aW,e]];exact yr
theorem MK {f:α->D}{l:List (Q7×α)}(e:h[i]?=se (.md (Sl l) (Tu f l))):gEqE (.at i) (.dic [] []) h=.ok (.bl (decide (l=[]))) h:=by unfold gEqE;rw[show eK h (.at i)=se (Sl l,Tu f l)by unfold eK;dsimp only;rw[aW,e]];cases l<;>rfl
theorem oU {f:α->D}{l:List (Q7×α)}{x:α}(z1:fa ρ h=.ok (.at i) h)(e:h[i]?=se (.md (Sl l) (Tu f l)))(z2:fb ρ h=.ok (.str k) h)(z3:Sk k l=se x):Rk fa fb ρ h=.ok (f x) h:=aG z1 z2 (by(have q:eK h (.at i)=se (Sl l,Tu f l):=by unfold eK;dsimp only;rw[aW,e]);rw[show Yi (.at i) h=tj by unfold Yi;rw[q]];unfold gDg;rw[q];show Rz (lk (.inr k) (Sl l) (Tu f l)) _=_;rw[rS,z3];rfl)
theorem sTb {κ:Fl->TH->RX.R D}(z:fT ρ h=.ok b h1)(hb:b=tj)(y:(Rr fa ρ h1).bnd κ=r):(Ra (RN fT (Rr fa) f) g ρ h).bnd κ=r:=by subst hb;exact sT z y
theorem sFb {κ:Fl->TH->RX.R D}(z:fT ρ h=.ok b h1)(hb:b=ff)(y:(g ρ h1).bnd κ=r):(Ra (RN fT f Rw) g ρ h).bnd κ=r:=by subst hb;exact sF z y
theorem ML {w l:List Q7}(hl:l.length<w.length)(nd:w.Nodup):∃x,w.find? (λx=>decide (x∉l))=se x:=by cases e:w.find? (λx=>decide (x∉l))with| some x=>simp_all| none =>(have:=nd.length_le_of_subset λx hx=>by simpa using Am.mp e x hx);exact(NAG.gl0 hl this).elim
theorem yR (n:Int)(ne:l≠[]):∃(k:Nat) (x:Q7),n%l.length=k/\l[k]?=se x:=by(have p:(0:Int)<l.length:=by have:=fj.mpr ne;simp_all);obtain⟨k,hk⟩:=l6 (jG n (by exact di p));have:=kT n p;exact#[k,_,hk,aT Β]
theorem vI {A B M:Dd->Prop}(f:∀d,A d->B d)(z:∃d,A d/\M d):∃d,B d/\M d:=z.imp λd z=>#[f d z.1,z.2]
theorem MM (cl:Cl h)(N:UX h c t aw nt)(ok:∀x∈Rc c,Ye x)(ndc:(Rc c).Nodup)(ndt:(Rc t).Nodup)(l0:w0.length=4)(l1:w1.length=4)(n0:w0.Nodup)(n1:w1.Nodup)(s0:∀x∈Rc c,x∈w0)(s1:∀x∈Rc t,x∈w1):∃d:Dd,VC [.int cell,TJ,XY w0 w1] h=.ok d.d h/\May c t w0 w1 d:=by obtain⟨m,m0,qm⟩:=qB (c:=cell) (k:=0) Γ;obtain⟨m',m0',qm'⟩:=qB (c:=cell) (k:=1) Γ;obtain⟨w,hw⟩:∃w,w=m%8:=#[_,rfl];have g0:Ti (.int m) (.int 8) h=.ok (.int w) h:=(mod_int Γ).trans (by rw[hw]);(have lc:=by simpa [Rc,l0] using ndc.length_le_of_subset s0);(have lt:=by simpa [Rc,l1] using ndt.length_le_of_subset s1);have gl:R3 [.at 2] h=.ok (.int c.length) h:=(jQ N.n0).trans (by simp[Rc]);have gw:R3 [.lst (w0.map .str)] h=.ok (.int w0.length) h:=dY;have gv:R3 [.lst (w1.map .str)] h=.ok (.int w1.length) h:=dY;(have nl:=by simpa [Rc] using congrArg pS N.nm);have gt:=(MI N.n2).trans (by rw[nl]);have ge:TK ff (.at 2) (.lst []) h=.ok (.bl (decide (Rc c=[]))) h:=(kL (l':=[]) (mW N.n0) rfl ok (by trivial)).trans (by simp);have gE:=MK N.n2;obtain⟨few,hf⟩:∃f:Bool,f=((ff^^decide (w=7))||((ff^^decide (w%3=0))&&decide ((c.length:Int)<3))):=#[_,rfl];unfold VC;by_cases B1:(decide (Rc c=[])||(few&&decide ((c.length:Int)<w0.length)))=tj;(have hl:(Rc c).length<w0.length:=by rcases Bool.or_eq_true_iff.mp B1 with z | z;rw[Q0 z,l0];decide;have:=Q0 (nW.mp z).2;simp only[Rc,bn];simpa using this);obtain⟨x,hx⟩:=ML hl n0;have pf:=Az hx;have qi:=EZ (P:=λx=>decide (x∉Rc c)) (λx hx=>(qz N.n0).trans (by simp)) Β hx;exact#[.hire x,a8 rfl (sA (aG (aJ rfl qm) rfl g0) (sA (aJ rfl qm') (sA ((E6 (aG rfl rfl eq_int) (r8 (aG (aG rfl rfl (mod_int Γ)) rfl eq_int) (aG (aJ rfl gl) rfl lt_int))).trans (by rw[<-hf])) (sTb (jz (aM (aG rfl rfl ge)) (jD (aM rfl) (aM (aG (aJ rfl gl) (aJ rfl gw) lt_int)))) B1 (sR (gP (aH rfl (aH (aJ rfl qi) rfl)) rfl) (bF rfl)))))),zY hx,Β];have nc:Rc c≠[]:=λz=>B1 (by rw[QZ z];rfl);obtain⟨k1,x,ek,hx⟩:=yR m' nc;have xc:x∈Rc c:=aK hx;(have cp:(0:Int)<c.length:=by have:=fj.mpr nc;simp[Rc] at this;simp_all);have g1:Ti (.int m') (.int c.length) h=.ok (.int k1) h:=(mod_int cp).trans (by rw[<-ek];simp[Rc]);refine vI (λd z=>a8 rfl (sA (aG (aJ rfl qm) rfl g0) (sA (aJ rfl qm') (sA ((E6 (aG rfl rfl eq_int) (r8 (aG (aG rfl rfl (mod_int Γ)) rfl eq_int) (aG (aJ rfl gl) rfl lt_int))).trans (by rw[<-hf])) (sFb (jz (aM (aG rfl rfl ge)) (jD (aM rfl) (aM (aG (aJ rfl gl) (aJ rfl gw) lt_int)))) (e9.mpr B1) (sA (mX rfl N.n0 (aG rfl (aJ rfl gl) g1) hx) z)))))) ?_;by_cases B2:((ff^^decide (w=5))||((ff^^decide (w=6))||(decide (1<w)&&decide (nt=[]))))=tj;by_cases xa:x∈Rc aw;have gi:Xj ff (.str x) (.at 3) h=.ok (.bl tj) h:=(vH N.n1).trans Β;exact#[.back x,sTb (jz (aM (aG rfl rfl eq_int)) (jz (aM (aG rfl rfl eq_int)) (jD (aM (aG rfl rfl gt_int)) (aM (aG rfl rfl gE))))) B2 (sR (gP (aH (aG (kG rfl rfl) (aJ (aH (aG rfl rfl gi) rfl) rfl) rfl) (aH rfl rfl)) rfl) (bF rfl)),(N.awi x).mp xa];have gi:Xj ff (.str x) (.at 3) h=.ok (.bl ff) h:=(vH N.n1).trans Β;refine#[.away x,sTb (jz (aM (aG rfl rfl eq_int)) (jz (aM (aG rfl rfl eq_int)) (jD (aM (aG rfl rfl gt_int)) (aM (aG rfl rfl gE))))) B2 (sR (gP (aH (aG (kG rfl rfl) (aJ (aH (aG rfl rfl gi) rfl) rfl) rfl) (aH rfl rfl)) rfl) (bF rfl)),?_];show Sk x c=se tj;(match z:Sk x c with| some tj=>rfl| some ff=>exact absurd ((N.awi x).mpr z) xa| none=>exact absurd xc (SK.mp z));refine vI (λd z=>sFb (jz (aM (aG rfl rfl eq_int)) (jz (aM (aG rfl rfl eq_int)) (jD (aM (aG rfl rfl gt_int)) (aM (aG rfl rfl gE))))) (e9.mpr B2) z) ?_;by_cases B3:(decide (w<2)&&decide ((t.length:Int)<w1.length))=tj;have hl:=Q0 (nW.mp B3).2;obtain⟨ch,v,xs,q,M⟩:=MG (cell:=cell) cl N ok (by lia) (λz=>nc (by rw[z];rfl)) (Int.ofNat_lt.mp hl) Β n1 ndc;exact#[.put ch v xs,sTb (jD (aM (aG rfl rfl lt_int)) (aM (aG (aJ rfl gt) (aJ rfl gv) lt_int))) B3 (sR (aJ rfl q) (bF rfl)),M];(have tn:Rc nt≠[]:=λz=>by(have z:=by simpa [Rc] using z);(have:t.length=0:=by rw[<-nl,z];rfl);simp[z] at B2 B3;lia);obtain⟨k2,ch,ek2,hc⟩:=yR (m'.fdiv 7) tn;(have tp:(0:Int)<t.length:=by have:=fj.mpr tn;simp[Rc] at this;simp_all);have g2:Ti (.int (m'.fdiv 7)) (.int t.length) h=.ok (.int k2) h:=(mod_int tp).trans (by rw[<-ek2,<-nl];simp[Rc]);have cn:=aK hc;have ct:=N.nm▸cn;obtain⟨⟨_,a⟩,qa,rfl⟩:=aU.mp cn;obtain⟨_,v,ns,xs,lv,ha,_⟩:=N.at_ _ qa;have la:=eM (N.nm▸ndt) qa;refine vI (λd z=>sFb (jD (aM (aG rfl rfl lt_int)) (aM (aG (aJ rfl gt) (aJ rfl gv) lt_int))) (e9.mpr B3) (sA (f8 (MJ rfl N.n2) (aG (aG rfl rfl (fP Γ Γ)) (aJ rfl gt) g2) hc) (sA (mX (g:=id) (l:=[D.int v,.lst (xs.map .str)]) (oU rfl N.n2 rfl la) ha rfl rfl) z))) ?_;by_cases B4:w=2;exact#[.drop _,sT (aM (aG rfl rfl (eq_int.trans (by rw[QZ B4];rfl)))) (sR rfl (bF rfl)),ct];refine vI (λd z=>sF (aM (aG rfl rfl (eq_int.trans (by rw[Q1 B4];rfl)))) z) ?_;by_cases B5:((ff^^decide (w=3))&&decide (1<v))=tj;(obtain⟨u,hu,u1,u2⟩:∃u:Int,gMin [.int (v-1),.int 4] h=.ok (.int u) h/\0<u/\u<=v-1:=by refine#[_,rfl,?_];cases z:YF 4 (v-1);exact#[Β,dw _];have:=Q0 ((gO ..).symm.trans z);exact#[by show 0<4;decide,by exact cy this]);exact#[.fewer _ _,sTb (jD (aM (aG rfl rfl eq_int)) (aM (aG rfl rfl gt_int))) B5 (sR (gP (aH rfl (aH rfl (aH (aG rfl (aG (aG rfl rfl (fP Γ Γ)) (aJ (aH (aG rfl rfl sub_int) rfl) hu) (mod_int u1)) add_int) rfl))) rfl) (bF rfl)),v,ns,lv,by have:=jG (m'.fdiv 49) (show u≠0 by exact di u1);lia,by have:=kT (m'.fdiv 49) u1;lia];obtain⟨wk,k1',k2',qw⟩:=EW;exact#[.more _ wk,sFb (jD (aM (aG rfl rfl eq_int)) (aM (aG rfl rfl gt_int))) (e9.mpr B5) (sR (gP (aH rfl (aH rfl (aH (aJ rfl qw) rfl))) rfl) (bF rfl)),ct,k1',k2']
end
noncomputable def wk (t:bx) (ch:Q7):Int:=((Sk ch t).getD (0,[])).1
noncomputable def Dd.cr (c:bG):Dd->bG| hire n=>c++[(n,tj)]| away n=>putS n ff c| back n=>putS n tj c| _=>c
noncomputable def Dd.tk (c:bG) (t:bx):Dd->bx| put ch w xs=>t++[(ch,(w,(Rc c).filter λy=>decide (y∈xs)))]| drop ch=>UR ch t| more ch w=>t.map (Tf ch (wk t ch+w))| fewer ch k=>t.map (Tf ch (wk t ch-k))| _=>t
section
variable {h:TH}{c:bG}{t:bx}{i:Nat}{w0 w1:List Q7}{R:xaa}{qs:xac}{d:Dd}{B:Int}
theorem MN (hB:B.natAbs<2^n)(x0:0<=x)(hx:x<=B):Bd n x:=by show x.natAbs<2^n;lia
theorem E7 (h:Bd 300 x):Bd 4096 x:=iR h (mE Γ Γ)
theorem MO (cl:Cl h)(H:V3 c t R qs)(eh:h[i]?=se (.mi 2 (T4 c t R qs)))(lc:c.length<=4)(lt:t.length<=4)(o0:∀x∈w0,Yk x)(o1:∀x∈w1,Yk x)(wB:∀q∈t,1<=q.2.1/\q.2.1<=B)(hB:Bd 300 (B+10^60))(B0:0<=B)(M:May c t w0 w1 d):iX (VX [.at i,d.d] h) h i c qs (d.cr c) (d.tk c t):=by(have lk:∀{ch},ch∈Rc t->∃ns,Sk ch t=se (wk t ch,ns)/\1<=wk t ch/\wk t ch<=B:=λ{ch} z=>by cases e:Sk ch t with| none=>exact absurd z (SK.mp e)| some a=>exact#[a.2,by simp[wk,e],by simpa [wk,e] using wB _ (dQ e)]);have go:∀{ev:RX.R D} {c' t'},iX ev h i c qs c' t'->(∀{a:Row} {b:Row} {c' t' R' q'},ev=.ok (Zh a b) (h.set i (.mi 2 (T4 c' t' R' q')))->VX [.at i,d.d] h=.ok (Zh a b) (h.set i (.mi 2 (T4 c' t' R' q'))))->iX (VX [.at i,d.d] h) h i c qs c' t':=λ#[R',q',e,k] f=>#[R',q',f e,k];have bl:∀{x},0<=x->x<=B+10^60->Bd 300 x:=MN hB;cases d with| hire n=>exact go (Mc cl H eh (o0 _ M.1) M.2 (by lia)) λe=>a8 rfl (sT rfl (sR (YA eh rfl rfl e) (iG cl H eh)))| put ch w xs =>obtain⟨a,b,c1,c2,c3,c4,c5⟩:=M;(have xl:=by simpa [Rc] using c4.length_le_of_subset c5);exact go (Ml cl H eh (o1 _ a) b c1 (bl (by exact cy c1) (NAG.gl41 B0 c2)) c3 c5 c4 (by lia) (by lia)) λe=>a8 rfl (sF rfl (sT rfl (sR (YA eh rfl rfl e) (iG cl H eh))))| drop ch =>obtain⟨ns,e,_⟩:=lk M;exact go (L9 cl H eh e) λe=>a8 rfl (sF rfl (sF rfl (sT rfl (sR (YA eh rfl rfl e) (iG cl H eh)))))| more ch w =>obtain⟨ns,e,e1,e2⟩:=lk M.1;obtain⟨_,m1,m2⟩:=M;exact go (Mi cl H eh e m1 (bl (by lia) (NAG.gl40 e2 m2)) (E7 (bl (by exact cy m1) (by lia)))) λe=>a8 rfl (sF rfl (sF rfl (sF rfl (sT rfl (sR (YA eh rfl rfl e) (iG cl H eh))))))| fewer ch k =>obtain⟨w,ns,e,m1,m2⟩:=M;obtain⟨ns',e',e1,e2⟩:=lk (ch:=ch) (aU.mpr #[_,dQ e,rfl]);(have ew:w=wk t ch:=Β);subst ew;exact go (Mj cl H eh e m1 (by lia) (bl (by lia) (by lia)) (E7 (bl (by exact cy m1) (by lia)))) λe=>a8 rfl (sF rfl (sF rfl (sF rfl (sF rfl (sT rfl (sR (YA eh rfl rfl e) (iG cl H eh)))))))| away n=>exact go (Md cl H eh M) λe=>a8 rfl (sF rfl (sF rfl (sF rfl (sF rfl (sF rfl (sT rfl (sR (YA eh rfl rfl e) (iG cl H eh))))))))| back n=>exact go (Me cl H eh M) λe=>a8 rfl (sF rfl (sF rfl (sF rfl (sF rfl (sF rfl (sF rfl (sR (YA eh rfl rfl e) (iG cl H eh))))))))
end
section
variable {h:TH}{c:bG}{t:bx}{i:Nat}{aw:List (Q7×Bool)}{nt:List (Q7×Nat)}{cell:Int}{R:xaa}{qs:xac}
noncomputable def Lv (u:xag):Prop:=0<=u.1/\1<=u.2/\Bd 4096 u.1/\Bd 4096 u.2
theorem qC (H:V3 c t R qs):Lv (YN c qs x):=by have l:=r5 (x:=x) H;exact#[l.2.1,l.1.1,yL l]
theorem MP (N:UX h c t aw nt)(H:V3 c t R qs)(eh:h[i]?=se (.mi 2 (T4 c t R qs)))(ok:∀x∈Rc c,Ye x):∃u,Wf [.int cell,.at i,TJ] h=.ok (SA u) h/\Lv u:=by obtain⟨m,m0,qm⟩:=qB (k:=4) Γ;have gl:R3 [.at 2] h=.ok (.int c.length) h:=(jQ N.n0).trans (by simp[Rc]);have ge:TK tj (.at 2) (.lst []) h=.ok (.bl (! decide (Rc c=[]))) h:=(kL (l':=[]) (mW N.n0) rfl ok (by trivial)).trans (by simp);by_cases z:m%3=0;exact#[(0,1),a8 rfl (sA (aJ rfl qm) (sT (aM (aG (aG rfl rfl (mod_int Γ)) rfl (eq_int.trans (by rw[QZ z];rfl)))) (sR rfl (bF rfl)))),Γ,Γ,gX Γ,gX Γ];by_cases y:((ff^^decide (m%3=1))&&! decide (Rc c=[]))=tj;(have nc:=by simpa using (nW.mp y).2);obtain⟨k,x,ek,hx⟩:=yR (m.fdiv 3) nc;(have cp:(0:Int)<c.length:=by have:=fj.mpr nc;simp[Rc] at this;simp_all);have g1:Ti (.int (m.fdiv 3)) (.int c.length) h=.ok (.int k) h:=(mod_int cp).trans (by rw[<-ek];simp[Rc]);exact#[YN c qs x,a8 rfl (sA (aJ rfl qm) (sF (aM (aG (aG rfl rfl (mod_int Γ)) rfl (eq_int.trans (by rw[Q1 z];rfl)))) (sTb (jD (aM (aG (aG rfl rfl (mod_int Γ)) rfl eq_int)) (aM (aG rfl rfl ge))) y (sR (oI rfl ((aW ..).trans eh) (aH (mX rfl N.n0 (aG (aG rfl rfl (fP Γ Γ)) (aJ rfl gl) g1) hx) rfl) (r6 H eh (aK hx))) (bF rfl))))),qC H];have a:=jG (m.fdiv 3) (show 1000≠0 by decide);have a':=kT (m.fdiv 3) (show 0<1000 by decide);obtain⟨u,q,l⟩:=MA (b:=1+m.fdiv 3000%40) a (by lia) a' (by lia);exact#[u,a8 rfl (sA (aJ rfl qm) (sF (aM (aG (aG rfl rfl (mod_int Γ)) rfl (eq_int.trans (by rw[Q1 z];rfl)))) (sFb (jD (aM (aG (aG rfl rfl (mod_int Γ)) rfl eq_int)) (aM (aG rfl rfl ge))) (e9.mpr y) (sR (aJ (aH (aG (aG rfl rfl (fP Γ Γ)) rfl (mod_int Γ)) (aH (aG rfl (aG (aG rfl rfl (fP Γ Γ)) rfl (mod_int Γ)) add_int) rfl)) q) (bF rfl))))),l]
end
section
variable {α:Type}{l:List (Q7×α)}{x k:Q7}{a:α}{t:bx}{ch:Q7}{w:Int}
theorem r9:Rc (UR k l)=(Rc l).filter λx=>decide (x≠k):=by simp[Rc,UR,qX];rfl
theorem MQ:Sk x (UR k l)=if x=k then ng else Sk x l:=by induction l with| nil=>simp[UR,Sk]| cons p l ih =>unfold UR at ih ⊢;rw[jH];by_cases e:p.1=k;rw[QX (by simp_all),ih,dH];lia;rw[QY (by simp_all),dH,dH,ih];lia
theorem E8 (n:k∉Rc l):Sk x (l++[(k,a)])=if x=k then se a else Sk x l:=by induction l with| nil=>simp[Sk,eq_comm]| cons p l ih =>(have n':k≠p.1/\k ∉ Rc l:=by simpa [Rc] using n);rw[oa,dH,dH,ih n'.2];by_cases y:p.1=x;rw[QY y,QY y,QX (by rw[<-y];exact Ne.symm n'.1)];rw[QX y,QX y]
theorem yS:Rc (t.map (Tf ch w))=Rc t:=by simp only[Rc,cB];refine cz λp _=>?_;simp only[Function.comp,Tf];split<;>rfl
theorem MR:Sk x (t.map (Tf ch w))=(Sk x t).map λa=>if x=ch then(w,a.2)else a:=by induction t with| nil=>rfl| cons p t ih =>rw[be,dH,dH,ih];(have:(Tf ch w p).1=p.1:=by unfold Tf;split<;>rfl);rw[this];by_cases y:p.1=x;rw[QY y,QY y,<-y];unfold Tf;by_cases z:p.1=ch;simp[z];simp[z];rw[QX y,QX y]
end
section
variable {h:TH}{c:bG}{t:bx}{w0 w1:List Q7}{aw:List (Q7×Bool)}{nt:List (Q7×Nat)}{d:Dd}
theorem sFE {κ:Fl->TH->RX.R D}(z:fT ρ h=.ok ff h1)(k:κ (.nx ρ) h1=r):(RN fT f Rw ρ h).bnd κ=r:=by rwa [kF z]
theorem sTE {κ:Fl->TH->RX.R D}(z:fT ρ h=.ok tj h1)(y:f ρ h1=.ok (.nx ρ2) h2)(k:κ (.nx ρ2) h2=r):(RN fT f Rw ρ h).bnd κ=r:=by rwa [iW z,y]
theorem UX.keep (N:UX h c t aw nt){c':bG}(n0:h'[2]?=se (.ml ((Rc c').map .str)))(n1:h'[3]?=se (.md (Sl nR) (Tu D.bl nR)))(z:∀i,3<i->h'[i]?=h[i]?)(awi:∀x,x∈Rc nR↔Sk x c'=se ff)(an:(Rc nR).Nodup):UX h' c' t nR nt :={ N with n0:=n0,n1:=n1,n2:=by rw[z 4 Γ];exact N.n2,awi:=awi,an:=an,at_:=λq hq=>let #[q4,v,ns,xs,r]:=N.at_ q hq;#[q4,v,ns,xs,by grind]}
theorem E9:ct n (.md (Sl l) (Tu D.bl l)):=ZV λ_=>by trivial
theorem Fa:∀{l:List (Q7×Nat)} {p q:Q7×Nat},(l.map Prod.snd).Nodup->p∈l->q∈l->p.2=q.2->p=q| a::l,p,q,n,hp,hq,e=>by rw[be,eG] at n;rcases bj.mp hp with rfl | p'<;>rcases bj.mp hq with rfl | q';rfl;exact absurd (aU.mpr #[q,q',e.symm]) n.1;exact absurd (aU.mpr #[p,p',e]) n.1;exact Fa n.2 p' q' e
theorem Fb (z:∀q∈l,q.2<n):ct n (.md (Sl l) (Tu D.at l)):=λd hd=>by obtain⟨q,hq,rfl⟩:=aU.mp hd;exact z q hq
theorem UX.lt (N:UX h c t aw nt):∀q∈nt,q.2<h.length:=λq hq=>by obtain⟨_,_,_,_,_,e,_⟩:=N.at_ q hq;exact(aQ.mp e).1
theorem UX.setw (N:UX h c t aw nt){ns xs:List Q7}(ha:(ch,a)∈nt)(lv:Sk ch t=se (v,ns))(xi:xs.length<1000/\∀x∈xs,x∈ns)(a4:4<a)(al:a<h.length)(nd:(Rc nt).Nodup):UX (h.set a (.ml [.int v',.lst (xs.map .str)])) c (t.map (Tf ch v')) aw nt:=by refine{ N with n0:=by rw[bN (by lia)];exact N.n0,n1:=by rw[bN (by lia)];exact N.n1,n2:=by rw[bN (by exact eD a4)];exact N.n2,nm:=by rw[yS];exact N.nm,at_:=λq hq=>?_};rw[MR];by_cases e:q.2=a;have:=Fa N.nd hq ha e;subst this;exact#[a4,v',ns,xs,by rw[lv];simp,by rw[fK al],xi];have q1:q.1≠ch:=λz=>e (by have:=(eM nd hq).symm.trans (z▸eM nd ha);exact dX this);obtain⟨q4,v,ns,xs,r1,r⟩:=N.at_ q hq;exact#[q4,v,ns,xs,Β,by rwa [bN (Ne.symm e)]]
theorem MS (z1:fv ρ h=.ok (f a) h1)(z2:fx ρ h1=.ok (.at i) h1)(z3:fy ρ h1=.ok (.str k) h1)(e:h1[i]?=se (.md (Sl l) (Tu f l)))(nd:(Rc l).Nodup)(hl:l.length<=1000):WE fv fx fy ρ h=.ok (.nx ρ) (h1.set i (.md (Sl (putS k a l)) (Tu f (putS k a l)))):=by have:=rW (fv:=λ_ h=>.ok (f a) h) rfl z2 z3 e nd hl;grind[WE]
theorem yT {xs:List Q7}:ct n (.ml [.int v,.lst (xs.map .str)]):=λd hd=>by rcases bj.mp hd with rfl | hd;trivial;rw[cT.mp hd];exact ZV λ_=>by trivial
theorem MT (cl:Cl h)(N:UX h c t aw nt)(ndc:(Rc c).Nodup)(ndt:(Rc t).Nodup)(lc:c.length<=4)(lt:t.length<=4)(M:May c t w0 w1 d){c2 t2 R qs}(H:V3 c2 t2 R qs)(eh:h[1]?=se (.mi 2 (T4 c2 t2 R qs))):∃h' nR nt',We [TJ,d.d] h=.ok .non h'/\UX h' (d.cr c) (d.tk c t) nR nt'/\Cl h'/\∀i,i<2->h'[i]?=h[i]?:=by have nd:=N.nm▸ndt;(have wh:∀{ch},ch∈Rc t->∃(a:Nat) (v:Int) (ns xs:List Q7),(ch,a)∈nt/\Sk ch nt=se a/\Sk ch t=se (v,ns)/\h[a]?=se (.ml [.int v,.lst (xs.map .str)])/\(xs.length<1000/\∀x∈xs,x∈ns)/\4<a/\a<h.length/\wk t ch=v:=λ{ch} z=>by obtain⟨⟨_,a⟩,qa,rfl⟩:=aU.mp (N.nm▸z:ch∈Rc nt);obtain⟨a4,v,ns,xs,lv,ha,xi⟩:=N.at_ _ qa;exact#[a,v,ns,xs,qa,eM nd qa,lv,ha,xi,a4,N.lt _ qa,by unfold wk;rw[lv];rfl]);cases d with| hire n =>refine#[_,aw,nt,mM rfl (sG ((iW rfl).trans (fZ (lj rfl N.n0 rfl (by simp[Rc];exact NAG.gl108 lc)))) (sF rfl (sF rfl (sF rfl (sF rfl (sF rfl (sFE rfl rfl))))))),N.keep ?_ ?_ (λi hi=>bN (by lia)) (λx=>?_) N.an,cl.set ?_,λi hi=>bN (by exact eD hi)];rw[fK (aQ.mp N.n0).1];simp[Rc,Dd.cr];rw[bN Γ];exact N.n1;rw[N.awi x];show _↔Sk x (c++[(n,tj)])=_;rw[E8 M.2];by_cases y:x=n;rw[QY y,y,SK.mpr M.2];trivial;rw[QX y];rw[show(Rc c).map D.str++[D.str n]=(Rc c++[n]).map D.str by simp];exact ZV λ_=>by trivial| away n =>(have na:n∉Rc aw:=λz=>by have:=(N.awi n).mp z;rw[show Sk n c=se tj from M] at this;cases this);(have al:=by simpa [Rc] using N.an.length_le_of_subset (l₂:=Rc c) λx hx=>aU.mpr #[_,dQ ((N.awi x).mp hx),rfl]);refine#[_,aw++[(n,tj)],nt,mM rfl (sF rfl (sF rfl (sF rfl (sF rfl (sF rfl (sG ((iW rfl).trans (rW rfl rfl rfl N.n1 N.an (by lia))) (sFE rfl rfl))))))),N.keep ?_ ?_ (λi hi=>bN (by exact cF hi)) (λx=>?_) ?_,cl.set E9,λi hi=>bN (NAG.gl110 hi)];rw[bN Γ];show _=se (TM.ml ((Rc (putS n ff c)).map D.str));rw[oP (aU.mpr #[_,dQ M,rfl])];exact N.n0;rw[fK (aQ.mp N.n1).1,qu na];show _↔Sk x (putS n ff c)=_;rw[vw,show Rc (aw++[(n,tj)])=Rc aw++[n]by simp[Rc],c8,cT,N.awi x];by_cases y:n=x;rw[QY y];simp_all;rw[QX y];simp[Ne.symm y];rw[show Rc (aw++[(n,tj)])=Rc aw++[n]by simp[Rc]];exact kq.mpr #[N.an,by simp,by rintro a ha b hb rfl;rw[cT.mp hb] at ha;exact na ha]| back n =>((obtain⟨b,lb⟩:∃b,Sk n aw=se b:=by cases e:Sk n aw with| none=>exact absurd ((N.awi n).mpr M) (SK.mp e)| some b=>exact#[b,rfl]);refine#[_,UR n aw,nt,mM rfl (sF rfl (sF rfl (sF rfl (sF rfl (sF rfl (sF rfl (sTE rfl (fZ (yK cl H eh rfl rfl N.n1 lb)) rfl))))))),N.keep ?_ ?_ (λi hi=>bN (by exact cF hi)) (λx=>?_) ?_,cl.set E9,λi hi=>bN (NAG.gl110 hi)];rw[bN Γ];show _=se (TM.ml ((Rc (putS n tj c)).map D.str));rw[oP (aU.mpr #[_,dQ M,rfl])];exact N.n0;rw[fK (aQ.mp N.n1).1];show _↔Sk x (putS n tj c)=_;rw[vw,r9,bi,N.awi x];by_cases y:n=x;rw[QY y];simp_all;rw[QX y];simp[Ne.symm y];rw[r9];exact N.an.filter _)| drop ch =>((obtain⟨a,la⟩:∃a,Sk ch nt=se a:=by cases e:Sk ch nt with| none=>exact absurd (N.nm▸M) (SK.mp e)| some b=>exact#[b,rfl]);(have sub:∀q∈UR ch nt,q∈nt/\q.1≠ch:=λq hq=>by simpa [UR] using hq);refine#[_,aw,UR ch nt,mM rfl (sF rfl (sF rfl (sG ((iW rfl).trans (fZ (yK cl H eh rfl rfl N.n2 la))) (sF rfl (sF rfl (sF rfl (sFE rfl rfl))))))),{ N with n0:=by rw[bN Γ];exact N.n0,n1:=by rw[bN Γ];exact N.n1,n2:=by rw[fK (aQ.mp N.n2).1],nm:=by show _=Rc (UR ch t);rw[r9,r9,N.nm],nd:=N.nd.sublist (jt.map _),at_:=λq hq=>?_},cl.set (Fb λq hq=>N.lt q (sub q hq).1),λi hi=>bN (NAG.gl111 hi)];obtain⟨q4,v,ns,xs,r1,r⟩:=N.at_ q (sub q hq).1;exact#[q4,v,ns,xs,by show Sk q.1 (UR ch t)=_;rwa [MQ,QX (sub q hq).2],by rwa [bN (by exact cF q4)]])| more ch w =>obtain⟨a,v,ns,xs,ha,la,lv,hs,xi,a4,al,ew⟩:=wh M.1;refine#[_,aw,nt,mM rfl (sF rfl (sF rfl (sF rfl (sG ((iW rfl).trans (rJ (k:=0) (aG (mX (g:=id) (l:=[D.int v,.lst (xs.map .str)]) (k:=0) (oU rfl N.n2 rfl la) hs rfl rfl) rfl add_int) (oU rfl N.n2 rfl la) rfl hs (by exact k8 _))) (sF rfl (sF rfl (sFE rfl rfl))))))),?_,cl.set ?_,λi hi=>bN (NAG.gl109 a4 hi)];show UX _ c (t.map (Tf ch (wk t ch+w))) aw nt;rw[ew];exact N.setw ha lv xi a4 al nd;exact yT| fewer ch w =>obtain⟨_,_,e0,_⟩:=M;obtain⟨a,v,ns,xs,ha,la,lv,hs,xi,a4,al,ew⟩:=wh (aU.mpr #[_,dQ e0,rfl]);refine#[_,aw,nt,mM rfl (sF rfl (sF rfl (sF rfl (sF rfl (sG ((iW rfl).trans (rJ (k:=0) (aG (mX (g:=id) (l:=[D.int v,.lst (xs.map .str)]) (k:=0) (oU rfl N.n2 rfl la) hs rfl rfl) rfl sub_int) (oU rfl N.n2 rfl la) rfl hs (by exact k8 _))) (sF rfl (sFE rfl rfl))))))),?_,cl.set ?_,λi hi=>bN (NAG.gl109 a4 hi)];show UX _ c (t.map (Tf ch (wk t ch-w))) aw nt;rw[ew];exact N.setw ha lv xi a4 al nd;exact yT| put ch w xs =>obtain⟨_,nw,_,_,_,xd,xi⟩:=M;(have xl:=by simpa [Rc] using xd.length_le_of_subset xi);have nn:=N.nm▸nw;have l4:=(aQ.mp N.n2).1;have g:∀{i o},i<h.length->(h++[o]:TH)[i]?=h[i]?:=λz=>iA z;refine#[_,aw,nt++[(ch,h.length)],mM rfl (sF rfl (sG ((iW rfl).trans (MS ((kG (aH rfl (aH (aJ rfl rfl) rfl)) rfl).trans (by show RX.R.ok (D.at (hn _)) (hp _ _)=_;rw[fM,fO])) rfl rfl ((g l4).trans N.n2) nd (by have:=congrArg pS N.nm;simp[Rc] at this;lia))) (sF rfl (sF rfl (sF rfl (sF rfl (sFE rfl rfl))))))),{ N with n0:=?_,n1:=?_,n2:=?_,nm:=?_,nd:=?_,at_:=λq hq=>?_},(cl.app yT).set ?_,λi hi=>?_];rw[bN Γ,g (by lia)];exact N.n0;rw[bN Γ,g (by exact eI l4)];exact N.n1;rw[fK (by simp;exact ig l4),qu nn];show _=Rc (t++_);simpa [Rc] using N.nm;rw[cV];exact kq.mpr #[N.nd,by simp,by rintro a ha b hb rfl;obtain⟨q,hq,rfl⟩:=aU.mp ha;have:=N.lt q hq;simp at hb;simp_all];show _/\∃w' ns xs',Sk q.1 (t++[(ch,(w,(Rc c).filter λy=>decide (y∈xs)))])=_/\_;rw[E8 nw];rcases c8.mp hq with hq | hq;obtain⟨q4,v,ns,ys,r1,r⟩:=N.at_ q hq;have qc:q.1≠ch:=λz=>nn (z▸aU.mpr #[q,hq,rfl]);exact#[q4,v,ns,ys,by rwa [QX qc],by rwa [bN (by exact cF q4),g (N.lt q hq)]];rw[cT.mp hq];exact#[l4,w,_,xs,by rw[QY rfl],by rw[bN (by exact cF l4)];simp,NAG.gl47 xl lc,λx hx=>Β];rw[qu nn];(exact Fb λq hq=>by rw[dW];rcases c8.mp hq with hq | hq;exact iR (N.lt q hq) (ku _ _);rw[cT.mp hq];exact ky _);rw[bN (NAG.gl111 hi),g (by lia)]
end
section
variable {h:TH}{c:bG}{t:bx}{i j:Nat}{R:xaa}{qs:xac}{ns:List Q7}
theorem MU (H:V3 c t R qs)(eh:h[i]?=se (.mi 2 (T4 c t R qs)))(ej:h[j]?=se (.ml (ns.map .str)))(ok:∀x∈ns,Ye x)(lt:t.length<=4):On (S8 (Td (Rv 2 SZ (rV 0) Q6)) (rN 5) Vb [se (.at i),se TJ,se (.at j),se d3,se (.at h.length),ng,ng] (h++[.ml []])) fun ρ g=>(∃y,ρ=[se (.at i),se TJ,se (.at j),se d3,se (.at h.length),y,ng])/\g=h++[.ml ((VE c t R ns).map .str)]:=by have F:=fq (f:=Vb) (fg:=rN 5) (l:=Rc t) (g:=D.str) (fi:=Td (Rv 2 SZ (rV 0) Q6)) (h:=h++[.ml []]) (ρ:=[se (.at i),se TJ,se (.at j),se d3,se (.at h.length),ng,ng]) (λn ρ g=>(∃y,ρ=[se (.at i),se TJ,se (.at j),se d3,se (.at h.length),y,ng])/\g=h++[.ml ((((Rc t).take n).filter (YQ c t R ns)).map .str)]) (eX (oI rfl ((aW ..).trans (cC eh)) rfl (EF (cC eh)))) (λi _ _ _=>c9 i) (by simp[Rc];exact NAG.gl39 lt) #[#[_,rfl],rfl] (by rintro n ch ρ g hc ⟨⟨y,rfl⟩,rfl⟩;have ct:ch∈Rc t:=aK hc;obtain⟨o,ho⟩:∃o:TM,o=.ml ((((Rc t).take n).filter (YQ c t R ns)).map .str):=#[_,rfl];have eq:=kL (neg:=tj) (h:=h++[o]) (l:=((Zw c t R ch).filter λp=>decide (p.1∈ns)).map Prod.fst) (l':=[]) kM (kM (l:=[])) (λx hx=>by obtain⟨p,hp,rfl⟩:=aU.mp hx;exact ok _ (Q0 (bi.mp hp).2)) (λx hx=>by cases hx);(have tk:(Rc t).take (n+1)=(Rc t).take n++[ch]:=by rw[List.take_add_one,hc];rfl);have ll:(((Rc t).take n).filter (YQ c t R ns)).length<=4:=bW (eF ..) (by simp[Rc];lia);refine#[_,rfl,?_];rw[tk,mn];by_cases z:YQ c t R ns ch=tj;rw[um z];refine nT (aM ((aG (cM (l:=Zw c t R ch) (g:=λp=>.tup [.str p.1,SA p.2]) (p:=λp=>decide (p.1∈ns)) (v:=λp=>.str p.1) (eX (oI rfl ((aW ..).trans (cC eh)) rfl (yM H (cC eh) ct))) c9 (by have:=vG (ch:=ch) H;exact NAG.gl32 this) (λp hp=>#[_,by unfold WH;rfl,aM (aG rfl rfl ((qz (cC ej)).trans (by simp))),λ_=>rfl]) (by rw[cB];rfl)) rfl (ho▸eq)).trans ?_)) (nE (fZ (lj (h:=h++[.ml ((((Rc t).take n).filter (YQ c t R ns)).map D.str)]) (l:=(((Rc t).take n).filter (YQ c t R ns)).map D.str) rfl (R9.trans rfl) rfl (by rw[bn];exact NAG.gl108 ll))) #[#[_,rfl],?_]);(have:((Zw c t R ch).filter λp=>decide (p.1∈ns)).map Prod.fst≠[]:=by simpa [YQ] using z);rw[Q1 this];rfl;rw[oJ];simp;rw[uk z];refine nF (h1:=h++[.ml ((((Rc t).take n).filter (YQ c t R ns)).map D.str)]) (aM ((aG (cM (l:=Zw c t R ch) (g:=λp=>.tup [.str p.1,SA p.2]) (p:=λp=>decide (p.1∈ns)) (v:=λp=>.str p.1) (eX (oI rfl ((aW ..).trans (cC eh)) rfl (yM H (cC eh) ct))) c9 (by have:=vG (ch:=ch) H;exact NAG.gl32 this) (λp hp=>#[_,by unfold WH;rfl,aM (aG rfl rfl ((qz (cC ej)).trans (by simp))),λ_=>rfl]) (by rw[cB];rfl)) rfl (ho▸eq)).trans ?_)) (nE rfl #[#[_,rfl],?_]);(have:((Zw c t R ch).filter λp=>decide (p.1∈ns)).map Prod.fst=[]:=by simpa [YQ] using z);rw[QZ this];rfl;simp);rwa [mu] at F
end
section
variable {h:TH}{c:bG}{t:bx}{aw:List (Q7×Bool)}{nt:List (Q7×Nat)}{R:xaa}{qs:xac}{ns:List Q7}{lv:xag}{ch x:Q7}{v:Int}
theorem held (H:V3 c t R qs)(N:UX h c t aw nt)(l1:1<=lv.2)(hc:ch∈VE c t R (V2 c qs lv))(e:Sk ch t=se (v,ns))(hx:x∈ns)(xc:x∈Rc c):x∈V2 c qs lv\/x∈Rc aw:=by have hq:=(bi.mp hc).2;obtain⟨k,q,hk,rfl⟩:=EQ H hq;have eq:=eM H.ct.ndt (bi.mp (aK hk)).1;by_cases xp:x∈Q9 c;have:=ES H l1 hk hq (bi.mpr #[Β,QZ xp]);exact .inl (bi.mpr #[xc,this]);refine .inr ((N.awi x).mpr ?_);match z:Sk x c with| some ff=>rfl| some tj=>exact absurd (aU.mpr #[_,bi.mpr #[dQ z,rfl],rfl]) xp| none=>exact absurd xc (SK.mp z)
end
section
variable {h:TH}{c:bG}{t:bx}{i j j':Nat}{aw:List (Q7×Bool)}{nt:List (Q7×Nat)}{R:xaa}{qs:xac}{ns:List Q7}{lv:xag}
theorem si (z:fa ρ h=.ok (.at i) h)(e:h[i]?=se (.ml l)):Td fa ρ h=.ok (VS (.at i)) h:=by unfold Td;rw[z];show Rz (eS h (.at i)) _=_;rw[(mV e).1];rfl
theorem sj (e:h[i]?=se (.ml l))(k:Nat):VS (.at i) h k=se (l[k]?):=by show Uz (eS h (.at i)) _=_;rw[(mV e).1];show se (eg l k)=_;rw[aW]
theorem MV (H:V3 c t R qs)(N:UX h c t aw nt)(l1:1<=lv.2)(ej:h[j]?=se (.ml ((V2 c qs lv).map .str)))(ek:h[j']?=se (.ml ((VE c t R (V2 c qs lv)).map .str)))(lt:t.length<=4)(g:TH)(hg:g=h++[.ml ((VE c t R (V2 c qs lv)).map .str)]):On (S8 (Td (rV 3)) (rN 5) Wz [se (.at i),se TJ,se (.at j),se (.at j'),se (.at h.length),y,z] g) fun ρ g'=>(∃y z,ρ=[se (.at i),se TJ,se (.at j),se (.at j'),se (.at h.length),y,z])/\g'=g:=by have gk:=hg▸cC ek;refine fq (l:=VE c t R (V2 c qs lv)) (λ_ ρ g'=>(∃y z,ρ=[se (.at i),se TJ,se (.at j),se (.at j'),se (.at h.length),y,z])/\g'=g) (si rfl gk) (λn _ _ q=>q.2▸sj gk n) (k6 (eF ..) (by simp[Rc];exact NAG.gl39 lt)) #[#[_,_,rfl],rfl] ?_;rintro n ch ρ g' hc ⟨⟨y,z,rfl⟩,rfl⟩;have cm:=aK hc;obtain⟨⟨_,a⟩,qa,rfl⟩:=aU.mp (N.nm▸(bi.mp cm).1);obtain⟨a4,v,ns,xs,lv',ha,xl,xi⟩:=N.at_ _ qa;refine#[_,rfl,nG ((kF (aM (aG rfl rfl ((qz (hg▸R9)).trans (by simp only[cm,decide_true];rfl))))).trans rfl) ?_];refine fq (λ_ ρ g=>(∃y z,ρ=[se (.at i),se TJ,se (.at j),se (.at j'),se (.at h.length),y,z])/\g=g') (eX (mX (g:=id) (l:=[D.int v,.lst (xs.map .str)]) (oU rfl (hg▸cC N.n2) rfl (eM (N.nm▸H.ct.ndt) qa)) (hg▸cC ha) rfl rfl)) (λn _ _ _=>c9 n) xl #[#[_,_,rfl],rfl] ?_;rintro n x ρ g hx ⟨⟨y,z,rfl⟩,rfl⟩;have xm:=xi x (aK hx);refine#[_,rfl,nF ?_ (nE rfl #[#[_,_,rfl],rfl])];refine(jD (aM (aG rfl rfl (qz (hg▸cC ej)))) (aM (aG rfl rfl (vH (hg▸cC N.n1))))).trans ?_;rcases held H N l1 cm lv' xm ((H.ct.sub _ (dQ lv')).subset xm)with z | z<;>simp[z]
theorem Fc (z:fa ρ h=.ok (.at i) h)(e:h[i]?=se (.ml l)):Xr 4 fa ρ h=.ok (.bl tj) h:=by unfold Xr;rw[z];show Rz (tc h (.at i)) _=_;rw[show tc h (.at i)=se 4 by unfold tc;dsimp only;rw[aW,e]];rfl
theorem sn (x:fT ρ h=.ok b h):V6 fT ρ h=.ok (! b) h:=by unfold V6;rw[x];rfl
theorem holds_law (cl:Cl h)(H:V3 c t R qs)(eh:h[i]?=se (.mi 2 (T4 c t R qs)))(N:UX h c t aw nt)(l1:1<=lv.2)(ok:∀x∈Rc c,Ye x)(ej:h[j]?=se (.ml ((V2 c qs lv).map .str)))(ek:h[j']?=se (.ml ((VE c t R (V2 c qs lv)).map .str)))(lt:t.length<=4):Wg [.at i,TJ,.at j,.at j'] h=.ok (.bl tj) h:=by refine a8 rfl (sFb (jz (sn (aM (Fc rfl ej))) (sn (aM (Fc rfl ek)))) rfl (sA XM (sL (MU H eh ej (λx hx=>ok x (bi.mp hx).1) lt) fun ρ g #[#[y,e1],e2]=>e1▸sL (MV H N l1 ej ek lt g e2) fun ρ g' #[#[y,z,e1],e3]=>?_)));subst e1 e3 e2;(have oc:∀x∈VE c t R (V2 c qs lv),Ye x:=λx hx=>by obtain⟨q,hq,rfl⟩:=aU.mp (bi.mp hx).1;exact H.ct.nt q hq);exact sR (aG rfl rfl ((kL (mW (cC ek)) (mW R9) oc oc).trans (by rw[QZ rfl];rfl))) (li cl (by trivial))
end
section
variable {h:TH}{c:bG}{t:bx}{i:Nat}{aw:List (Q7×Bool)}{nt:List (Q7×Nat)}{R:xaa}{qs:xac}{lv:xag}
theorem MW (cl:Cl h)(H:V3 c t R qs)(eh:h[i]?=se (.mi 2 (T4 c t R qs)))(N:UX h c t aw nt)(u:Lv lv)(lc:c.length<=4)(e:V2 c qs lv=[]):SN [.at i,TJ,SA lv] h=.ok (.bl tj) h:=by have q:=yO H eh u.2.2.1 u.2.2.2;rw[QY e] at q;refine a8 rfl (sA (cM (si rfl N.n0) (sj N.n0) (by simp[Rc];exact NAG.gl39 lc) (λx hx=>#[_,rfl,aM (aJ (aH rfl (aH (oI rfl ((aW ..).trans eh) rfl (r6 H eh hx)) rfl)) (EU u.2.2.1 u.2.2.2 (qC H).2.2.1 (qC H).2.2.2)),λ_=>rfl]) (by grind[V2,qs])) (sA (aJ rfl q) (sT (aM (aG rfl rfl ((kL (kM (l:=[])) (kM (l:=[])) (λx hx=>by cases hx) (λx hx=>by cases hx)).trans rfl))) (sR (r8 rfl (aG rfl (gP rfl rfl) rfl)) (li cl (by trivial))))))
end
section
variable {h:TH}{c:bG}{t:bx}{i:Nat}{aw:List (Q7×Bool)}{nt:List (Q7×Nat)}{R:xaa}
theorem UX.app (N:UX h c t aw nt):UX (h++o) c t aw nt :={ N with n0:=cC N.n0,n1:=cC N.n1,n2:=cC N.n2,at_:=λq hq=>let #[a,v,ns,xs,r,s,u]:=N.at_ q hq;#[a,v,ns,xs,r,cC s,u]}
theorem MX (z:fa ρ h=.ok (.at i) h)(e:h[i]?=se (.ml l)):rClr fa ρ h=.ok .non (h.set i (.ml [])):=by unfold rClr;rw[z];show Rz (VN h (.at i)) _=_;rw[show VN h (.at i)=se (i,l)by grind[VN,aW]];show RX.R.ok D.non (hs h i (.ml []))=_;rw[iV]
theorem MY (e:h[i]?=se (.ml l)):Ws ff [.at i] h=.ok (.lst l) h:=by unfold Ws;dsimp only;rw[(mV e).2];rw[(mV e).1];rfl
theorem oV {k:Nat}(z1:fa ρ h=.ok (.tup ds) h)(z2:fb ρ h=.ok (.int k) h)(e:ds[k]?=se y):Rk fa fb ρ h=.ok y h:=aG z1 z2 (by show Rz (ZG ds k) _=_;rw[Vj,e];rfl)
end
section
variable {h:TH}{R:xaa}
theorem MZ {l:List γ}:gSum [.lst (l.map λx=>.int (f x))] h=.ok (.int (l.map f).sum) h:=by show Rz (RB X8 (l.map λx=>.int (f x))) _=_;rw[show RB X8 (l.map λx=>D.int (f x))=se (l.map f)from lr λp _=>rfl];show RX.R.ok (D.int (iSum _)) h=_;rw[xO]
theorem ox {l:List Q7}{f:Q7->Int}(hf:∀x∈l,0<=f x/\f x<=M):0<=(l.map f).sum/\(l.map f).sum<=l.length*M:=by induction l with| nil=>simp| cons x l ih =>have a:=hf x (.head _);have b:=ih λy hy=>hf y (.tail _ hy);simp only[be,bL,fm,Int.natCast_add,kW];lia
end
section
variable {h:TH}{c:bG}{t:bx}{i:Nat}{aw:List (Q7×Bool)}{nt:List (Q7×Nat)}{R:xaa}{qs:xac}{lv:xag}
theorem M1 (cl:Cl h)(H:V3 c t R qs)(eh:h[i]?=se (.mi 2 (T4 c t R qs)))(N:UX h c t aw nt)(u:Lv lv)(ok:∀x∈Rc c,Ye x)(lc:c.length<=4)(lt:t.length<=4)(e:V2 c qs lv≠[]):SN [.at i,TJ,SA lv] h=.ok (.bl tj) h:=by obtain⟨A,hA⟩:∃A,A=V2 c qs lv:=#[_,rfl];obtain⟨C,hC⟩:∃C,C=VE c t R A:=#[_,rfl];have q:=yO H eh u.2.2.1 u.2.2.2;rw[QX e,<-hA,<-hC] at q;have oA:∀x∈A,Ye x:=λx hx=>ok x (by rw[hA] at hx;exact(bi.mp hx).1);(have i3:Cl (h++[.ml (A.map .str),.ml (C.map .str)]):=Cl.apps cl λo ho=>by rcases bj.mp ho with rfl | ho;(exact ZV λ_=>by trivial);rw[cT.mp ho];exact ZV λ_=>by trivial);have e1:(h++[TM.ml (A.map D.str),.ml (C.map .str)])[h.length]?=se (.ml (A.map .str)):=R9;have e2:(h++[TM.ml (A.map D.str),.ml (C.map .str)])[h.length+1]?=se (.ml (C.map .str)):=VO;refine a8 rfl (sA (cM (p:=λx=>Yb lv (YN c qs x)) (si rfl N.n0) (sj N.n0) (by simp[Rc];exact NAG.gl39 lc) (λx hx=>#[_,rfl,aM (aJ (aH rfl (aH (oI rfl ((aW ..).trans eh) rfl (r6 H eh hx)) rfl)) (EU u.2.2.1 u.2.2.2 (qC H).2.2.1 (qC H).2.2.2)),λ_=>rfl]) (by rw[hA];rfl)) (sA (aJ rfl q) (sFb (aM (aG rfl rfl (kL (kM (l:=A)) (kM (l:=[])) oA (λx hx=>by cases hx)))) ?_ (sFb (jz (a:=ff) rfl (jz (a:=ff) rfl (jz (a:=ff) rfl (aM (aG rfl rfl (kL (mW e1) (kM (l:=A)) oA oA)))))) ?_ (sFb (sn (aM (aJ rfl (holds_law i3 H (cC eh) N.app u.2.1 ok (e1.trans (by rw[hA])) (e2.trans (by rw[hC,hA])) lt)))) rfl ?_)))));simp[hA,e];simp;have g1:∀{o1 o2:TM},(h++[o1,o2]).set h.length (.ml [])=h++[.ml [],o2]:=λ{o1 o2}=>oJ;have sm:=Mw H u.1 u.2.1 e;rw[<-hA,<-hC] at sm;have q2:=yO (h:=h++[.ml [],.ml (C.map .str++[.str "a"])]) H (cC eh) u.2.2.1 u.2.2.2;rw[QX e,<-hA,<-hC] at q2;refine sA (aJ (aH (cA (si (oV rfl rfl rfl) e2) (sj e2) ?_ (λch hc=>#[_,rfl,?_]) rfl) rfl) MZ) (sFb (aM (aG (aG rfl (oV rfl rfl rfl) (iq ?_ u.2.2.2)) (aG (oV rfl rfl rfl) (aJ rfl dY) (iq u.2.2.1 ?_)) le_int)) (Q1 (by exact Int.not_le.mpr sm)) (sA (aJ rfl (MY e2)) (sD ((MX (oV rfl rfl rfl) e1).trans (by rw[g1])) ?_)));(have:C.length<=(Rc t).length:=by rw[hC];exact eF ..);simp[Rc] at this;exact NAG.gl47 this lt;obtain⟨⟨x0,a⟩,qa,rfl⟩:=aU.mp (N.nm▸(bi.mp (hC▸hc)).1);obtain⟨a4,v,ns,xs,lv',ha,_⟩:=N.at_ _ qa;(have ew:wkT t x0=v:=by unfold wkT;rw[show Sk x0 t=_ from lv'];rfl);show _=RX.R.ok (D.int (wkT t x0)) _;rw[ew];exact mX (g:=id) (l:=[D.int v,.lst (xs.map .str)]) (oU rfl (cC N.n2) rfl (eM (N.nm▸H.ct.ndt) qa)) (cC ha) rfl rfl;obtain⟨M,hM⟩:∃M:Nat,M=2^300:=#[_,rfl];(have b:=ox (l:=C) (f:=wkT t) (M:=M) λx hx=>by obtain⟨p,hp,rfl⟩:=aU.mp (bi.mp (hC▸hx)).1;(have ew:wkT t p.1=p.2.1:=by unfold wkT;rw[eM H.ct.ndt hp];rfl);have p1:=H.ct.pos p hp;have p2:p.2.1.natAbs<2^300:=H.ct.bd p hp;rw[<-hM] at p2;rw[ew];lia);(have cl4:C.length<=4:=by(have:C.length<=(Rc t).length:=by rw[hC];exact eF ..);simp[Rc] at this;exact NAG.gl46 this lt);have m4:(C.length:Int)*M<=4*M:=lY (by lia) (NAG.gl48);(have p3:8*M<=2^4096:=by rw[hM];exact bW (uB (show 8*2^300=2^(3+300)by rw[wR])) (mE Γ Γ));(have m0:0<M:=by rw[hM];exact wT Γ);show _<_;obtain⟨Q,hQ⟩:∃Q:Nat,Q=2^4096:=#[_,rfl];rw[<-hQ] at p3 ⊢;lia;(have:A.length<=(Rc c).length:=by rw[hA];exact eF ..);simp[Rc] at this;exact gX (by lia);(have oC:∀x∈C,Ye x:=λx hx=>by obtain⟨p,hp,rfl⟩:=aU.mp (bi.mp (hC▸hx)).1;exact H.ct.nt p hp);(have cl4:C.length<=4:=by(have:C.length<=(Rc t).length:=by rw[hC];exact eF ..);simp[Rc] at this;exact NAG.gl46 this lt);refine sD (oK (k:=1) (l:=C.map D.str) (oV (k:=2) rfl rfl rfl) rfl rfl (by simp;lia)) (sA (aJ rfl q2) (sR (r8 (b:=tj) rfl (r8 (a:=tj) (aG (oV (k:=1) rfl rfl rfl) rfl ((kL (mW R9) (kM (l:=A)) oA oA).trans (by rw[QZ rfl];rfl))) (aG (oV (k:=2) rfl rfl rfl) rfl ((kL (mW VO) (kM (l:=C)) oC oC).trans (by rw[QZ rfl];rfl))))) ?_));rw[fY];exact li cl (by trivial)
end
section
variable {h:TH}{c:bG}{t:bx}{i:Nat}{aw:List (Q7×Bool)}{nt:List (Q7×Nat)}{R:xaa}{qs:xac}{lv:xag}{ns:xae}{w0 w1:List Q7}{B cell:Int}{d:Dd}
theorem Fd (cl:Cl h)(H:V3 c t R qs)(eh:h[i]?=se (.mi 2 (T4 c t R qs)))(N:UX h c t aw nt)(u:Lv lv)(ok:∀x∈Rc c,Ye x)(lc:c.length<=4)(lt:t.length<=4):SN [.at i,TJ,SA lv] h=.ok (.bl tj) h:=by by_cases e:V2 c qs lv=[];exact MW cl H eh N u lc e;exact M1 cl H eh N u ok lc lt e
def Now (ns:xae)(w0 w1:List Q7)(B:Int)(h:TH):Prop:=∃c t R qs aw nt,Cl h/\V3 c t R qs/\h[0]?=se (.mr ns)/\h[1]?=se (.mi 2 (T4 c t R qs))/\UX h c t aw nt/\(∀x∈Rc c,x∈w0)/\(∀x∈Rc t,x∈w1)/\∀q∈t,q.2.1<=B
theorem M2 (B0:0<=B)(wB:∀q∈t,q.2.1<=B)(ch:Q7):wk t ch<=B:=by unfold wk;cases e:Sk ch t with| none=>exact B0| some a=>exact wB _ (dQ e)
theorem May.names (M:May c t w0 w1 d)(s0:∀x∈Rc c,x∈w0):∀x∈Rc (d.cr c),x∈w0:=λx hx=>by cases d with| hire n =>(rcases(by simpa [Rc,Dd.cr] using hx:x∈Rc c\/x=n)with z | rfl;exact s0 x z;exact M.1)| away n=>exact s0 x (by rwa [Dd.cr,oP (aU.mpr #[_,dQ M,rfl])] at hx)| back n=>exact s0 x (by rwa [Dd.cr,oP (aU.mpr #[_,dQ M,rfl])] at hx)| _=>exact s0 x hx
theorem May.ad (M:May c t w0 w1 d)(s1:∀x∈Rc t,x∈w1):∀x∈Rc (d.tk c t),x∈w1:=λx hx=>by cases d with| put ch w xs =>(rcases(by simpa [Rc,Dd.tk] using hx:x∈Rc t\/x=ch)with z | rfl;exact s1 x z;exact M.1)| drop ch=>rw[Dd.tk,r9] at hx;exact s1 x (bi.mp hx).1| more ch w=>rw[Dd.tk,yS] at hx;exact s1 x hx| fewer ch w=>rw[Dd.tk,yS] at hx;exact s1 x hx| _=>exact s1 x hx
theorem May.works (M:May c t w0 w1 d)(B0:0<=B)(wB:∀q∈t,q.2.1<=B):∀q∈d.tk c t,q.2.1<=B+10^60:=λq hq=>by(have go:∀{q},q∈t->q.2.1<=B+10^60:=λz=>by have:=wB _ z;lia);(have st:∀{ch v},v<=B+10^60->∀q∈t.map (Tf ch v),q.2.1<=B+10^60:=λ{ch v} hv q hq=>by obtain⟨p,hp,rfl⟩:=aU.mp hq;unfold Tf;split;exact hv;exact go hp);have k:=M2 B0 wB;cases d with| put ch w xs =>(rcases c8.mp hq with z | z;exact go z;rw[cT.mp z];have:=M.2.2.2.1;show w<=_;lia)| drop ch=>exact go (bi.mp hq).1| more ch w=>exact st (by have:=M.2.2;have:=k ch;lia) q hq| fewer ch w =>obtain⟨_,_,_,m,_⟩:=M;exact st (by have:=k ch;lia) q hq| _=>exact go hq
variable (l0:w0.length=4)(l1:w1.length=4)(n0:w0.Nodup)(n1:w1.Nodup)(o0:∀x∈w0,Yk x)(o1:∀x∈w1,Yk x)
include l0 l1 n0 n1 o0 o1
theorem M3 (hN:Now ns w0 w1 B h)(hB:Bd 300 (B+10^60))(B0:0<=B):On (ZR [se (.at 0),se (XY w0 w1),se (.at 1),se TJ,se (.int cell),y,ng] h) fun ρ g=>(∃y z,ρ=[se (.at 0),se (XY w0 w1),se (.at 1),se TJ,y,z,ng])/\Now ns w0 w1 (B+10^60) g:=by obtain⟨c,t,R,qs,aw,nt,cl,H,e0,e1,N,s0,s1,wB⟩:=hN;(have lc:=by simpa [Rc,l0] using H.ct.ndc.length_le_of_subset s0);(have lt:=by simpa [Rc,l1] using H.ct.ndt.length_le_of_subset s1);obtain⟨d,qd,M⟩:=MM cl N (λx hx=>(o0 x (s0 x hx)).ok) H.ct.ndc H.ct.ndt l0 l1 n0 n1 s0 s1;obtain⟨R',q',ed,H'⟩:=MO cl H e1 lc lt o0 o1 (λq hq=>#[H.ct.pos q hq,wB q hq]) hB B0 M;have hl:=(aQ.mp e1).1;obtain⟨h2,nR,nt',q2,N2,ka,k2⟩:=MT (cl.set yH) (N.keep (by rw[bN Γ];exact N.n0) (by rw[bN Γ];exact N.n1) (λi hi=>bN (by lia)) N.awi N.an) H.ct.ndc H.ct.ndt lc lt M H' (fK hl);have s0':=M.names s0;have s1':=M.ad s1;have ok':=λx hx=>(o0 x (s0' x hx)).ok;have nj:=(k2 1 Γ).trans (fK hl);obtain⟨u,ql,L⟩:=MP N2 H' nj ok';exact nA (aJ rfl qd) (nD' (aJ rfl ed) (nD' (aJ rfl q2) (nF (sn (aM (aJ (aH rfl (aH rfl (aH (aJ rfl ql) rfl))) (Fd ka H' nj N2 L ok' (by simpa [Rc,l0] using H'.ct.ndc.length_le_of_subset s0') (by simpa [Rc,l1] using H'.ct.ndt.length_le_of_subset s1'))))) (nE rfl #[#[_,_,rfl],_,_,R',q',nR,nt',ka,H',(k2 0 Γ).trans ((bN Γ).trans e0),nj,N2,s0',s1',M.works B0 wB]))))
end
section
variable {h:TH}{ns:xae}{w0 w1:List Q7}{cell:Int}
theorem M4:Now ns w0 w1 0 [.mr ns,.mi 2 (T4 [] [] [] []),.ml [],.md [] [],.md [] []]:=by refine#[[],[],[],[],[],[],?_,#[#[Γ,Γ,Γ,Γ,?_,?_,?_,?_],#[#[rfl,?_,?_,?_,?_,?_],rfl,?_,#[rfl,?_],Γ,Γ]],rfl,rfl,#[rfl,rfl,rfl,?_,Γ,rfl,Γ,?_],?_,?_,?_];(.intro o ho;simp only[bj,gM,or_false] at ho;rcases ho with rfl | rfl | rfl | rfl | rfl;trivial;exact yH;all_goals exactλd hd=>by cases hd);all_goals first |(simp[Rc,Sk];done)|exactλr hr=>by cases hr
theorem law_ok (hn:ns.length<=63):e_law [.at 0] [.mr ns]=.ok (.bl tj) [.mr ns]:=by obtain⟨w0,q0,l0,n0,o0⟩:=E5 (h:=[.mr ns]) (cell:=ns.getD 0 0);obtain⟨w1,q1,l1,n1,o1⟩:=E5 (h:=[.mr ns]) (cell:=ns.getD 1 0);obtain⟨L,hL⟩:∃L,L=(ns.drop (NAH.Ud ns.length 0 (se 2))).take (NAH.Ud ns.length ns.length (se 12)-NAH.Ud ns.length 0 (se 2)):=#[_,rfl];(have LL:L.length<=63:=by rw[hL];simp only[i8,Ar];exact NAG.gl55 hn);(have sl:∀{h:TH} {ρ:R4},h[0]?=se (.mr ns)->rSl ff (rV 0) (Z1 [Α,2]) (Z1 [Α,12]) (se (.at 0)::ρ) h=.ok (.lst (L.map .int)) h:=λ{h ρ} e=>by show Rz (eS h (.at 0)) _=_;rw[show eS h (.at 0)=se (ns.map .int)by unfold eS;dsimp only;rw[aW,e]];show RX.R.ok (D.lst (cutD (ns.map .int) (se 2) (se 12))) h=_;rw[hL];unfold cutD;rw[bn,AG,AH]);(have bd:∀n:Nat,n<=63->Bd 300 (n*10^60+10^60):=λn hn=>by show Int.natAbs _<2^300;omega);refine a8 rfl (sA (kG (aH (aJ (aH (aJ rfl (EV (k:=0) rfl)) rfl) q0) (aH (aJ (aH (aJ rfl (EV (k:=1) rfl)) rfl) q1) rfl)) rfl) (sA (d:=.at 1) (h1:=[.mr ns,.mi 2 (T4 [] [] [] [])]) rfl (sA (d:=TJ) (h1:=[.mr ns,.mi 2 (T4 [] [] [] []),.ml [],.md [] [],.md [] []]) rfl (sL (fq (l:=L) (g:=D.int) (λn ρ g=>(∃y z,ρ=[se (.at 0),se (XY w0 w1),se (.at 1),se TJ,y,z,ng])/\Now ns w0 w1 (n*10^60) g) (eX (sl rfl)) (λn _ _ _=>c9 n) (by omega) #[#[_,_,rfl],by simpa using M4] ?_) ?_))));rintro n x ρ g hx ⟨⟨y,z,rfl⟩,N⟩;have nl:=(aQ.mp hx).1;refine#[_,rfl,?_];rw[show((n+1:Nat):Int)*10^60=n*10^60+10^60 by omega];exact M3 (cell:=x) (y:=z) l0 l1 n0 n1 o0 o1 N (bd n (by exact eI (iR nl LL))) (by omega);rintro ρ g ⟨⟨y,z,rfl⟩,c,t,R,qs,aw,nt,cl,H,e0,e1,N,s0,s1,_⟩;(have lc:c.length<=4:=by simpa [Rc,l0] using H.ct.ndc.length_le_of_subset s0);have ok:∀x∈Rc c,Ye x:=λx hx=>(o0 x (s0 x hx)).ok;have lm:∀{lv},Lv lv->SN [.at 1,TJ,SA lv] g=.ok (.bl tj) g:=λu=>Fd cl H e1 N u ok lc (by simpa [Rc,l1] using H.ct.ndt.length_le_of_subset s1);refine sL (fq (l:=Rc c) (g:=D.str) (λn ρ g'=>(∃x,ρ=[se (.at 0),se (XY w0 w1),se (.at 1),se TJ,y,z,x])/\g'=g) (si rfl N.n0) (λn _ _ q=>q.2▸sj N.n0 n) (by simp[Rc];exact NAG.gl39 lc) #[#[_,rfl],rfl] ?_) ?_;rintro n x ρ g' hx ⟨⟨x',rfl⟩,rfl⟩;exact#[_,rfl,nF (sn (aM (aJ (aH rfl (aH rfl (aH (oI rfl ((aW ..).trans e1) rfl (r6 H e1 (aK hx))) rfl))) (lm (qC H))))) (nE rfl #[#[_,rfl],rfl])];rintro ρ g' ⟨⟨x',rfl⟩,rfl⟩;refine sR (aJ rfl (lm (lv:=(0,1)) #[Γ,Γ,gX Γ,gX Γ])) ?_;match g',e0 with| _::g2,e0 =>cases e0;exact li (h:=[.mr ns]) (t:=g2) (λo ho=>by rw[cT.mp ho];trivial) (by trivial)
end
end NAY
namespace NAL.RZ
open PySem PySem.Spec PyProof.Rows NAL NAL.EX NAL.RX
inductive Ro where
 | dat (o:Sr) | pin (o:Sr) | slo (o:Sr) | own (i:Nat) | loc | tab (k:Nat)
noncomputable def Ro.fix:Ro->Bool| .dat _=>tj| .pin _=>tj| .slo _=>tj| _=>ff
structure Gs where
 G:Q5->Option Ro
 ι:List Q5
structure Cb where
 C:CT
 P:Rh
 w:RK
abbrev WL:=List (D×Value)
noncomputable abbrev Vt (us:List Value) (n:Nat):Sr:={ cls:=.type "list",data:=.seq us.toArray n}
abbrev Fz (g:Gs)(a:Q5)(φ:Rs->Prop):Prop:=∃o,g.G a=se (.dat o)/\∀h:Rs,h.get? a=se o->φ h
inductive DU (B:Cb) (g:Gs):D->Value->Prop
 | non:DU B g .non .none
 | bl {b:Bool}:DU B g (.bl b) (.bool b)
 | int {i:Int} {t:Tok}:DU B g (.int i) (.int i t)
 | str {x:Q7} {t:Tok}:DU B g (.str x) (.str x t)
 | fn {k:Nat} {a:Q5} (f:Fz g a λh=>∃o es,h.get? a=se o/\o.data=.dict es k):DU B g (.fn k) (.ref a)
 | at_ {i:Nat} {a:Q5} (e:g.ι[i]?=se a):DU B g (.at i) (.ref a)
 | lst {a:Q5} {ds:List D} {us:List Value} {n:Nat} (f:g.G a=se (.dat (Vt us n))) (l:ds.length=us.length) (z:us.length<=sizeLine) (A:∀w∈ds.zip us,DU B g w.1 w.2):DU B g (.lst ds) (.ref a)
 | tup {a:Q5} {ds:List D} {us:List Value} (f:Fz g a λh=>IsTup h a us.toArray) (l:ds.length=us.length) (z:us.length<=sizeLine) (A:∀w∈ds.zip us,DU B g w.1 w.2):DU B g (.tup ds) (.ref a)
 | dic {a:Q5} {ks:List Ry} {ds:List D} {us:List Value} (f:Fz g a λh=>h.DictOf (RM B.P B.w) a (ks.zip us)) (n:(a==Tw)=ff) (k:ks.length=ds.length) (l:ds.length=us.length) (z:us.length<=sizeLine) (A:∀w∈ds.zip us,DU B g w.1 w.2):DU B g (.dic ks ds) (.ref a)
abbrev cE (B:Cb)(g:Gs)(ws:WL):Prop:=∀w∈ws,DU B g w.1 w.2
inductive Th (B:Cb) (g:Gs) (h:Rs) (i:Nat) (a:Q5):TM->Prop
 | ml {ds:List D} {us:List Value} {n:Nat} (r:g.G a=se (.own i)) (e:h.get? a=se (Vt us n)) (l:ds.length=us.length) (z:us.length<=sizeLine) (A:cE B g (ds.zip us)):Th B g h i a (.ml ds)
 | mr {ns:xae} {us:List Value} {n:Nat} (f:g.G a=se (.dat (Vt us n))) (l:ns.length=us.length) (z:us.length<=sizeLine) (A:∀w∈ns.zip us,∃t,w.2=.int w.1 t):Th B g h i a (.mr ns)
 | md {ks:List Ry} {ds:List D} {us:List Value} (r:g.G a=se (.own i)) (e:h.DictOf (RM B.P B.w) a (ks.zip us)) (n:(a==Tw)=ff) (k:ks.length=ds.length) (l:ds.length=us.length) (z:us.length<=sizeLine) (A:cE B g (ds.zip us)):Th B g h i a (.md ks ds)
 | mi {c:Nat} {ds:List D} {us:List Value} {dx:Q5} (r:g.G a=se (.own i)) (r':g.G dx=se (.own i)) (e:Y0 h a dx (B.C.cl c) λf=>((B.C.nm c).zip us).lookup f) (l:ds.length=us.length) (z:us.length<=(B.C.nm c).length) (A:cE B g (ds.zip us)):Th B g h i a (.mi c ds)
 | mx {c:Nat} (r:g.G a=se (.own i)) (e:Ji a (B.C.xc c) h):Th B g h i a (.mx c)
 | mf {k:Nat} {pm:Value} {c:Q5} {ctv:Value} (r:g.G a=se (.own i)) (e:h.get? a=se (A7 "<lambda>" (B.C.lm k).qual (B.C.lm k).params (B.C.lm k).body (B.C.lm k).scope [] pm c ctv)) (f:Fz g c λh=>h.CodeRec (.ref c) (B.C.lm k).qual):Th B g h i a (.mf k)
 | no:Th B g h i a .no
def Tb (B:Cb)(g:Gs)(h:Rs)(k:Nat):Prop:=(∃j,g.G (B.C.tb k)=se (.tab j))/\∃ps,h.get? (B.C.tb k)=se { cls:=.none,data:=.fields ps}/\TriplesOk ps.toList/\∀pos c,VZ pos ps.toList=se c->∃c',c=.ref c'/\Fz g c' λh=>h.CodeRec (.ref c') (B.C.lm k).qual
abbrev NF (o:Sr):Prop:=∀vs,o.data≠.fields vs
structure Hk (B:Cb)(g:Gs)(h:TH)(H:Rs):Prop where
 st:∀a o,g.G a=se (.dat o)\/g.G a=se (.pin o)->H.get? a=se o
 sl:∀a o,g.G a=se (.slo o)->NF o/\∃sl,H.get? a=se { o with slots:=sl}
 al:∀a r,g.G a=se r->∃o,H.get? a=se o
 len:g.ι.length=h.length
 th:∀(i:Nat) t a,h[i]?=se t->g.ι[i]?=se a->Th B g H i a t
 tb:∀k,k<B.C.nl->Tb B g H k
structure Le (g g':Gs):Prop where
 d:∀a o,g.G a=se (.dat o)->g'.G a=se (.dat o)
 i:∃l,g'.ι=g.ι++l
section
variable {B:Cb}{g g':Gs}{h:TH}{H H':Rs}{a b:Q5}{o o':Sr}{i:Nat}{t:TM}{d:D}{u:Value}{ws:WL}{r:Ro}
theorem Le.refl:Le g g:=#[λ_ _ z=>z,[],by simp]
theorem Le.fz (x:Le g g')(f:Fz g a φ):Fz g' a φ:=by obtain⟨o,e,q⟩:=f;exact#[o,x.d _ _ e,q]
theorem Le.du (x:Le g g')(q:DU B g d u):DU B g' d u:=by induction q with| non=>exact .non| bl=>exact .bl| int=>exact .int| str=>exact .str| fn f=>exact .fn (x.fz f)| at_ e=>exact .at_ (by obtain⟨l,f⟩:=x.i;grind)| lst f l z _ ih=>exact .lst (x.d _ _ f) l z ih| tup f l z _ ih=>exact .tup (x.fz f) l z ih| dic f n k l z _ ih=>exact .dic (x.fz f) n k l z ih
theorem Le.held (x:Le g g')(q:cE B g ws):cE B g' ws:=λw z=>x.du (q w z)
theorem Th.go (x:Le g g')(ow:∀b,g.G b=se (.own i)->g'.G b=se (.own i))(k:∀b o,g.G b=se (.own i)->H.get? b=se o->H'.get? b=se o)(q:Th B g H i a t):Th B g' H' i a t:=by cases q with| ml r e l z A=>exact .ml (ow _ r) (k _ _ r e) l z (x.held A)| mr f l z A=>exact .mr (x.d _ _ f) l z A| md r e n kk l z A =>obtain⟨o,es,ep,e1,e2⟩:=e;exact .md (ow _ r) #[o,es,ep,k _ _ r e1,e2] n kk l z (x.held A)| mi r r' e l z A =>exact .mi (ow _ r) (ow _ r') #[k _ _ r e.obj,e.ns.at λo=>k _ o r',e.ne] l z (x.held A)| mx r e=>obtain⟨o,vs,e1,e2⟩:=e;exact .mx (ow _ r) #[o,vs,k _ _ r e1,e2]| mf r e f=>exact .mf (ow _ r) (k _ _ r e) (x.fz f)| no=>exact .no
theorem Tb.go (x:Le g g')(ow:∀b k,g.G b=se (.tab k)->g'.G b=se (.tab k))(k:∀b o j,g.G b=se (.tab j)->H.get? b=se o->H'.get? b=se o)(q:Tb B g H n):Tb B g' H' n:=by obtain⟨⟨j,r⟩,ps,e,q1,q2⟩:=q;exact#[#[j,ow _ _ r],ps,k _ _ _ r e,q1,λpos c z=>by obtain⟨c',e,f⟩:=q2 pos c z;exact#[c',e,x.fz f]]
theorem Hk.go (q:Hk B g h H)(x:Le g g')(hi:g'.ι=g.ι)(ow:∀b r,g.G b=se r->(∃i,r=.own i\/r=.tab i)->g'.G b=se r/\∀o,H.get? b=se o->H'.get? b=se o) (st:∀a o,g'.G a=se (.dat o)\/g'.G a=se (.pin o)->H'.get? a=se o) (sl:∀a o,g'.G a=se (.slo o)->NF o/\∃sl,H'.get? a=se { o with slots:=sl}) (al:∀a r,g'.G a=se r->∃o,H'.get? a=se o):Hk B g' h H' :=#[st,sl,al,by exact hi▸q.len,λi t a e1 e2=>(q.th i t a e1 (by rwa [<-hi])).go x (λb z=>(ow b _ z #[i,.inl rfl]).1) λb o z=>(ow b _ z #[i,.inl rfl]).2 o,λk z=>(q.tb k z).go x (λb j z=>(ow b _ z #[j,.inr rfl]).1) λb o j z=>(ow b _ z #[j,.inr rfl]).2 o]
theorem Hk.kept (q:Hk B g h H)(k:∀b o,H.get? b=se o->H'.get? b=se o):Hk B g h H' :=q.go .refl rfl (λb r z _=>#[z,λo=>k b o]) (λa o z=>k _ _ (q.st a o z)) (λa o z=>by obtain⟨n,s,e⟩:=q.sl a o z;exact#[n,s,k _ _ e]) λa r z=>let #[o,e]:=q.al a r z;#[o,k _ _ e]
theorem Hk.fresh (q:Hk B g h H)(z:H.get? a=ng):g.G a=none:=by cases e:g.G a with| none=>rfl| some r=>obtain⟨o,e1⟩:=q.al a r e;rw[z] at e1;cases e1
noncomputable def Gs.upd (g:Gs) (a:Q5) (r:Option Ro):Gs:=#[λb=>if b=a then r else g.G b,g.ι]
theorem Gs.upd_same:(g.upd a r').G a=r':=QY rfl
theorem Gs.upd_ne (n:b≠a):(g.upd a r').G b=g.G b:=QX n
def Gs.free (g:Gs)(a:Q5):Prop:=∀r,g.G a=se r->(∃o,r=.pin o\/r=.slo o)\/r=.loc
theorem Le.upd (f:g.free a):Le g (g.upd a r'):=#[λb o z=>by by_cases e:b=a;subst e;rcases f _ z with ⟨_,y | y⟩ | y<;>cases y;rwa [Gs.upd_ne e],[],by simp[Gs.upd]]
theorem Hk.role (q:Hk B g h H)(f:g.free a)(r':Option Ro)(k:∀b o,b≠a->H.get? b=se o->H'.get? b=se o)(ok:∀r,r'=se r->∃o,H'.get? a=se o/\(∀o',r=.dat o'\/r=.pin o'->o=o')/\∀o',r=.slo o'->NF o'/\∃sl,o={ o' with slots:=sl}):Hk B (g.upd a r') h H':=by refine q.go (.upd f) rfl (λb r z y=>?_) (λb o z=>?_) (λb o z=>?_) λb r z=>?_;(have n:b≠a:=by rintro rfl;obtain⟨i,y⟩:=y;rcases f _ z with ⟨_,x | x⟩ | x<;>subst x<;>rcases y with y | y<;>cases y);exact#[by rwa [Gs.upd_ne n],λo=>k b o n];(all_goals by_cases n:b=a);subst n;rw[Gs.upd_same] at z;rcases z with z | z<;>obtain⟨o1,e1,e2,_⟩:=ok _ z<;>rw[e1,e2 o (by simp)];rw[Gs.upd_ne n] at z;exact k b o n (q.st b o z);subst n;rw[Gs.upd_same] at z;obtain⟨o1,e1,_,e2⟩:=ok _ z;obtain⟨m,s,e3⟩:=e2 o rfl;exact#[m,s,by rw[e1,e3]];rw[Gs.upd_ne n] at z;obtain⟨m,s,e⟩:=q.sl b o z;exact#[m,s,k b _ n e];subst n;rw[Gs.upd_same] at z;obtain⟨o1,e1,_⟩:=ok _ z;exact#[o1,e1];rw[Gs.upd_ne n] at z;obtain⟨o,e⟩:=q.al b r z;exact#[o,k b o n e]
theorem Hk.dat (q:Hk B g h H)(n:g.G a=ng)(k:∀b o,H.get? b=se o->H'.get? b=se o)(e:H'.get? a=se o):Hk B (g.upd a (se (.dat o))) h H' :=q.role (λr z=>by rw[n] at z;cases z) _ (λb o _=>k b o) λr z=>#[o,e,λo' y=>by cases z;rcases y with y | y<;>cases y;rfl,λo' y=>by cases z;cases y]
theorem Hk.set (q:Hk B g h H)(k:∀b o,g.G b≠se (.own i)->H.get? b=se o->H'.get? b=se o)(al:∀b,g.G b=se (.own i)->∃o,H'.get? b=se o)(new:∀a,g.ι[i]?=se a->Th B g H' i a t):Hk B g (h.set i t) H':=by have nf:∀{b r},g.G b=se r->r≠.own i->∀o,H.get? b=se o->H'.get? b=se o:=λ{b r} z n o=>k b o (by exact z▸λy=>n (dX y));refine#[λa o z=>k a o (by rcases z with z | z<;>rw[z]<;>simp) (q.st a o z),λa o z=>by obtain⟨n,s,e⟩:=q.sl a o z;exact#[n,s,nf z (by simp) _ e],λa r z=>?_,by rw[eV];exact q.len,λj t' a e1 e2=>?_,λj z=>(q.tb j z).go .refl (λ_ _ z=>z) λb o j z=>nf z (by simp) o];by_cases n:r=.own i;subst n;exact al a z;obtain⟨o,e⟩:=q.al a r z;exact#[o,nf z n o e];by_cases n:i=j;subst n;rw[fK (by have:=(aQ.mp e1).1;simpa using this)] at e1;cases e1;exact new a e2;rw[bN n] at e1;exact(q.th j t' a e1 e2).go .refl (λ_ z=>z) λb o z=>nf z (λy=>n (by cases y;rfl)) o
theorem Hk.mut (q:Hk B g h H)(as:List Q5)(n:∀b∈as,g.G b=ng)(al:∀b∈as,∃o,H.get? b=se o) (new:∀g',g'.G=(λb=>if b∈as then se (.own h.length)else g.G b)->g'.ι=g.ι++[a]->Le g g'->Th B g' H h.length a t):Le g #[λb=>if b∈as then se (.own h.length)else g.G b,g.ι++[a]]/\Hk B #[λb=>if b∈as then se (.own h.length)else g.G b,g.ι++[a]] (h++[t]) H:=by have x:Le g #[λb=>if b∈as then se (.own h.length)else g.G b,g.ι++[a]]:=#[λb o z=>by by_cases y:b∈as;rw[n b y] at z;cases z;show(if b∈as then _ else _)=_;rwa [QX y],[a],rfl];(have old:∀b r,g.G b=se r->(if b∈as then se (Ro.own h.length)else g.G b)=se r:=λb r z=>by by_cases y:b∈as;rw[n b y] at z;cases z;rwa [QX y]);refine#[x,λb o z=>?_,λb o z=>?_,λb r z=>?_,by simp[q.len],λj t' c e1 e2=>?_,λj z=>(q.tb j z).go x (λb j=>old b _) λb o j _ z=>z];dsimp only at z;by_cases y:b∈as;rw[QY y] at z;rcases z with z | z<;>cases z;rw[QX y] at z;exact q.st b o z;dsimp only at z;by_cases y:b∈as;rw[QY y] at z;cases z;rw[QX y] at z;exact q.sl b o z;dsimp only at z;by_cases y:b∈as;exact al b y;rw[QX y] at z;exact q.al b r z;dsimp only at e2;by_cases y:j<h.length;exact(q.th j t' c (by rwa [iA y] at e1) (by rwa [iA (by rwa [q.len])] at e2)).go x (λb=>old b _) λb o _ z=>z;(have e:j=h.length:=by have:=(aQ.mp e1).1;simp at this;lia);subst e;rw[wg] at e1;rw[<-q.len,wg] at e2;cases e1;cases e2;exact new _ rfl rfl x
theorem Hk.gone (q:Hk B g h H)(e:H.get? a=se o)(r:g.G a=se (.own i)):Le g (g.upd a (se (.dat o)))/\Hk B (g.upd a (se (.dat o))) (h.set i .no) H:=by have x:Le g (g.upd a (se (.dat o))):=#[λb o' z=>by by_cases n:b=a;subst n;rw[r] at z;cases z;rwa [Gs.upd_ne n],[],by simp[Gs.upd]];refine#[x,λb o' z=>?_,λb o' z=>?_,λb r' z=>?_,by rw[eV];exact q.len,λj t' c e1 e2=>?_,λj z=>(q.tb j z).go x (λb j z=>?_) λb o j _ z=>z];by_cases n:b=a;subst n;rw[Gs.upd_same] at z;rcases z with z | z<;>cases z;exact e;rw[Gs.upd_ne n] at z;exact q.st b o' z;by_cases n:b=a;subst n;rw[Gs.upd_same] at z;cases z;rw[Gs.upd_ne n] at z;exact q.sl b o' z;by_cases n:b=a;subst n;exact#[o,e];rw[Gs.upd_ne n] at z;exact q.al b r' z;by_cases n:i=j;subst n;rw[fK (by have:=(aQ.mp e1).1;simpa using this)] at e1;cases e1;exact .no;rw[bN n] at e1;refine(q.th j t' c e1 e2).go x (λb z=>?_) λb o _ z=>z;(have nb:b≠a:=by rintro rfl;rw[r] at z;cases z;exact n rfl);rwa [Gs.upd_ne nb];(have nb:b≠a:=by rintro rfl;rw[r] at z;cases z);rwa [Gs.upd_ne nb]
end
structure Gr (g g':Gs):Prop where
 f:∀a r,g.G a=se r->r.fix=tj\/r=.loc->g'.G a=se r
 i:∃l,g'.ι=g.ι++l
abbrev ERt:=List Env->Gs->Q4->(Nat->TH->Prop)->Value->Q4->Prop
structure Bz where
 B:Cb
 mg:Q7->Option Value
 base:Rs
 ER:ERt
structure Cz extends Bz where
 A:Rg
 N:List Q7
 g₀:Gs
 s₀:Q4
 env:Env
 outer:List Env
 stack:List Env
 fn:Q7->Bool
 calm:Bool
 E:Nat->TH->Prop
 xe:Value->Q4->Prop
abbrev Cz.wp (X:Cz)(t:Sem α)(Q:α->Q4->Prop)(s:Q4):Prop:=Rd (Rf X.B.P X.B.w) X.A t Q X.xe s
structure Cz.Ok (X:Cz):Prop where
 mod:Mod X.B.C.K X.mg X.base
 kind:X.env.scope.kind=.function
 glob:X.env.globals=Ri
 blt:X.env.builtins=builtinsNs
 inj:∀x y c,X.env.cells.lookup x=se c->X.env.cells.lookup y=se c->x=y
 has:∀x,(X.env.kindOf x=se .cell\/X.env.kindOf x=se .free)->∃c,X.env.cells.lookup x=se c
 hd:X.calm=tj->X.A.handled=ng
 frames:X.A.frames=se X.stack
 fr:∀env∈X.stack,env.scope.kind≠.module/\∃L,env.frame=se L/\(L=X.env.locals\/∃o,X.g₀.G L=se (.slo o))
structure Iv (X:Cz)(g:Gs)(ρ:R4)(h:TH)(s:Q4):Prop where
 ok:X.Ok
 os:s.os=X.s₀.os
 bare:AllBare s.gens
 hk:Hk X.B g h s.heap
 bs:∀b o,X.base.get? b=se o->g.G b=se (.dat o)
 kp:∀a r,X.g₀.G a=se r->r.fix=tj->g.G a=se r
 ip:∃l,g.ι=X.g₀.ι++l
 lf:g.G X.env.locals=se .loc
 lc:∃m,s.heap.Ns X.env.locals m/\∀(i:Nat) x d,X.N[i]?=se x->ρ[i]?=se (se d)->Vis X.env.scope x->∃u,DU X.B g d u/\Look X.env s.heap m x u
 ce:∀x c,X.env.cells.lookup x=se c->(∃v,s.heap.IsCell c v)/\(g.G c=se .loc\/(∃o,g.G c=se (.pin o))/\X.fn x=ff)
 len:ρ.length=X.N.length
inductive J (X:Cz) (pins:List (Q5×Sr)) (ρ:R4) (h:TH) (ws:WL) (s:Q4):Prop
 | mk (g:Gs) (I:Iv X g ρ h s) (p:∀p∈pins,g.G p.1=se (.pin p.2)) (W:cE X.B g ws)
section
variable {X:Cz}{g g':Gs}{ρ:R4}{h h':TH}{s s':Q4}{H H':Rs}{pins:List (Q5×Sr)}{ws:WL}{a b:Q5}{o:Sr}{d:D}{u:Value}
theorem Gr.refl:Gr g g:=#[λ_ _ z _=>z,[],by simp]
theorem Gr.le (x:Gr g g'):Le g g':=#[λa o z=>x.f a _ z (.inl rfl),x.i]
theorem Gr.upd (n:g.G a=ng):Gr g (g.upd a r):=#[λb r z _=>by rwa [Gs.upd_ne (by rintro rfl;rw[n] at z;cases z)],[],by simp[Gs.upd]]
theorem Gr.ip (x:Gr g g')(y:∃l,g.ι=l0++l):∃l,g'.ι=l0++l:=by obtain⟨l,e⟩:=x.i;obtain⟨m,f⟩:=y;exact#[m++l,by rw[e,f,fY]]
theorem Iv.bk (I:Iv X g ρ h s):∀b o,X.base.get? b=se o->s.heap.get? b=se o:=λb o e=>I.hk.st b o (.inl (I.bs b o e))
theorem Iv.kIn (I:Iv X g ρ h s):X.B.C.K.In s.heap:=I.ok.mod.kin.keeps I.bk
theorem Iv.nolimit (I:Iv X g ρ h s):s.heap.NoLimit:=I.ok.mod.nolimit.keeps I.bk
theorem Iv.cne (I:Iv X g ρ h s)(e:X.env.cells.lookup x=se c):c≠X.env.locals:=by rintro rfl;obtain⟨⟨v,o,ho,hd⟩,_⟩:=I.ce x _ e;obtain⟨m,⟨o',es,ep,ho',ke,_⟩,_⟩:=I.lc;rw[ho'] at ho;cases ho;rw[ke] at hd;cases hd
theorem Iv.go (I:Iv X g ρ h s)(x:Gr g g')(q:Hk X.B g' h' H')(k:∀b o,g.G b=se .loc->s.heap.get? b=se o->H'.get? b=se o)(t:Nat):Iv X g' ρ h' { s with heap:=H',toks:=t}:=by(have cl:∀{y c},X.env.cells.lookup y=se c->∀{v},s.heap.IsCell c v->H'.IsCell c v:=λ{y c} e {v} #[o,ho,hd]=>by rcases(I.ce y c e).2 with z | ⟨⟨o',z⟩,_⟩;exact#[o,k _ _ z ho,hd];have e1:=I.hk.st c o' (.inr z);rw[ho] at e1;cases e1;exact#[_,q.st c _ (.inr (x.f _ _ z (.inl rfl))),hd]);refine#[I.ok,I.os,I.bare,q,λb o e=>x.f _ _ (I.bs b o e) (.inl rfl),λa r e f=>x.f _ _ (I.kp a r e f) (.inl f),x.ip I.ip,x.f _ _ I.lf (.inr rfl),?_,λy c e=>?_,I.len];obtain⟨m,⟨o,es,ep,ho,r⟩,hl⟩:=I.lc;refine#[m,#[o,es,ep,k _ _ I.lf ho,r],λi y d e1 e2 e3=>?_];obtain⟨u,dq,l⟩:=hl i y d e1 e2 e3;refine#[u,x.le.du dq,?_];rcases l with l | ⟨kk,c,e,z⟩;exact .inl l;exact .inr #[kk,c,e,cl e z];obtain⟨⟨v,z⟩,r⟩:=I.ce y c e;refine#[#[v,cl e z],?_];rcases r with r | ⟨⟨o,r⟩,f⟩;exact .inl (x.f _ _ r (.inr rfl));exact .inr #[#[o,x.f _ _ r (.inl rfl)],f]
theorem Iv.nf (I:Iv X g ρ h s):∀o,s.heap.get? X.env.locals=se o->NF o:=λo e vs z=>by obtain⟨m,⟨o',es,ep,ho,hd,_⟩,_⟩:=I.lc;rw[e] at ho;cases ho;rw[hd] at z;cases z
theorem J.kept (j:J X pins ρ h ws s)(k:∀b o,s.heap.get? b=se o->H'.get? b=se o)(t:Nat):J X pins ρ h ws { s with heap:=H',toks:=t}:=by cases j with | mk g I p W=>exact#[g,I.go .refl (I.hk.kept k) (λb o _=>k b o) t,p,W]
theorem J.tok (j:J X pins ρ h ws s)(t:Nat):J X pins ρ h ws { s with toks:=t}:=j.kept (λ_ _ z=>z) t
theorem J.sub (j:J X pins ρ h ws s)(f:∀w∈ws',w∈ws):J X pins ρ h ws' s:=by cases j with | mk g I p W=>exact#[g,I,p,λw q=>W w (f w q)]
theorem J.tl (j:J X pins ρ h (w::ws) s):J X pins ρ h ws s:=j.sub λ_=>a7 _
theorem J.add (j:J X pins ρ h ws s)(q:∀g,DU X.B g d u):J X pins ρ h ((d,u)::ws) s:=by cases j with | mk g I p W=>exact#[g,I,p,λw z=>by rcases bj.mp z with rfl | z;exact q _;exact W w z]
theorem J.at (j:J X pins ρ h ws s)(m:(d,u)∈ws):∃g,Hk X.B g h s.heap/\DU X.B g d u:=by cases j with | mk g I p W=>exact#[g,I.hk,W _ m]
theorem J.int (j:J X pins ρ h ((.int i,u)::ws) s):∃t,u=.int i t:=by obtain⟨_,_,q⟩:=j.at aO;cases q;exact#[_,rfl]
theorem J.str (j:J X pins ρ h ((.str i,u)::ws) s):∃t,u=.str i t:=by obtain⟨_,_,q⟩:=j.at aO;cases q;exact#[_,rfl]
theorem J.bl (j:J X pins ρ h ((.bl i,u)::ws) s):u=.bool i:=by obtain⟨_,_,q⟩:=j.at aO;cases q;rfl
theorem J.non (j:J X pins ρ h ((.non,u)::ws) s):u=.none:=by obtain⟨_,_,q⟩:=j.at aO;cases q;rfl
theorem J.via (I:Iv X g ρ h s)(p:∀p∈pins,g.G p.1=se (.pin p.2))(x:Gr g g')(q:Hk X.B g' h' H')(k:∀b o,g.G b=se .loc->s.heap.get? b=se o->H'.get? b=se o)(W:cE X.B g' ws)(t:Nat):J X pins ρ h' ws { s with heap:=H',toks:=t} :=#[g',I.go x q k t,λy z=>x.f _ _ (p y z) (.inl rfl),W]
inductive RP (X:Cz) (pins:List (Q5×Sr)) (ρ:R4) (ws:WL) (P:D->TH->Prop) (u:Value) (s:Q4):Prop
 | mk (d:D) (h:TH) (j:J X pins ρ h ((d,u)::ws) s) (p:P d h)
inductive AR (X:Cz) (pins:List (Q5×Sr)) (ρ:R4) (ws:WL) (P:List D->TH->Prop) (us:List Value) (s:Q4):Prop
 | mk (ds:List D) (h:TH) (l:ds.length=us.length) (j:J X pins ρ h (ds.zip us++ws) s) (p:P ds h)
inductive TR (X:Cz) (pins:List (Q5×Sr)) (ρ:R4) (ws:WL) (P:α->TH->Prop) (b:α) (s:Q4):Prop
 | mk (h:TH) (j:J X pins ρ h ws s) (p:P b h)
def SR (X:Cz)(pins:List (Q5×Sr))(ws:WL)(P:RX.Fl->TH->Prop)(f:Flow)(s:Q4):Prop:=match f with| .next=>∃ ρ h,J X pins ρ h ws s/\P (.nx ρ) h| .ret u=>∃d ρ h,J X pins ρ h ((d,u)::ws) s/\P (.rt d) h| _=>False
theorem J.gint (j:J X pins ρ h ws s)(p:P (.int i) h):RP X pins ρ ws P (.int i t) { s with toks:=t'}:=#[_,_,(j.tok _).add λ_=>.int,p]
theorem J.gbl (j:J X pins ρ h ws s)(p:P (.bl i) h):RP X pins ρ ws P (.bool i) s:=#[_,_,j.add λ_=>.bl,p]
theorem J.gstr (j:J X pins ρ h ws s)(p:P (.str i) h):RP X pins ρ ws P (.str i t) { s with toks:=t'}:=#[_,_,(j.tok _).add λ_=>.str,p]
theorem J.gnon (j:J X pins ρ h ws s)(p:P .non h):RP X pins ρ ws P .none s:=#[_,_,j.add λ_=>.non,p]
theorem Hk.loc (q:Hk B g h H)(k:∀b o,g.G b≠se .loc->H.get? b=se o->H'.get? b=se o)(al:∀b o,H.get? b=se o->∃o,H'.get? b=se o):Hk B g h H' :=q.go .refl rfl (λb r z y=>#[z,λo=>k b o (by rw[z];obtain⟨i,y | y⟩:=y<;>subst y<;>simp)]) (λa o z=>k a o (by rcases z with z | z<;>rw[z]<;>simp) (q.st a o z)) (λa o z=>by obtain⟨n,s,e⟩:=q.sl a o z;exact#[n,s,k _ _ (by rw[z];simp) e]) λa r z=>let #[o,e]:=q.al a r z;al a o e
theorem J.store (j:J X pins ρ h ((d,u)::ws) s)(nd:X.N.Nodup)(hi:X.N[i]?=se x)(hx:Loc X.env.scope x)(hf:X.fn x=tj\/X.env.scope.names.lookup x=se .local) (q:∀s',J X pins (ρ.set i (se d)) h ws s'->Q () s'):Rd M A (storeName X.env x u) Q E s:=by cases j with | mk g I p W =>obtain⟨m,hn,hl⟩:=id I.lc;(have hiρ:=by exact I.len▸(aQ.mp hi).1);(have fin:∀{a:Q5} {H':Rs} {t:Nat} {m':Q7->Option Value},g.G a=se .loc->Heap.SameBut a s.heap H'->(∃o,H'.get? a=se o)->H'.Ns X.env.locals m'->(∀y c,X.env.cells.lookup y=se c->∃v,H'.IsCell c v)->(∀y v,y≠x->Look X.env s.heap m y v->Look X.env H' m' y v)->Look X.env H' m' x u->J X pins (ρ.set i (se d)) h ws { s with heap:=H',toks:=t}:=λ{a H' t m'} r sb ho hn' hc hy gQ=>by refine#[g,#[I.ok,I.os,I.bare,I.hk.loc (λb o z e=>(sb.2 b (by rintro rfl;exact z r)).trans e) (λb o e=>?_),I.bs,I.kp,I.ip,I.lf,#[m',hn',λj y d' e1 e2 e3=>?_],λy c e=>#[hc y c e,(I.ce y c e).2],by simpa using I.len],p,λw z=>W w (a7 _ z)];by_cases n:b=a;subst n;exact ho;exact#[o,(sb.2 b n).trans e];by_cases n:i=j;subst n;rw[hi] at e1;cases e1;rw[fK hiρ] at e2;cases e2;exact#[u,W _ aO,gQ];rw[bN n] at e2;obtain⟨v,dq,l⟩:=hl j y d' e1 e2 e3;exact#[v,dq,hy y v (λe=>n (Zq nd hi (e▸e1))) l]);rcases hx with hk | hk;refine wpAny_storeName_local hk hn (λH' hn' hs=>q _ (fin I.lf hs (by obtain⟨o,_,_,e,_⟩:=hn';exact#[o,e]) hn' (λy c e=>?_) (λy v n l=>?_) (.inl #[hk,by simp]))) (by rw[I.ok.kind];rfl);obtain⟨⟨v,z⟩,_⟩:=I.ce y c e;exact#[v,z.sameBut hs (I.cne e)];rcases l with ⟨k,e⟩ | ⟨k,c,e,z⟩;exact .inl #[k,by simp[n,e]];exact .inr #[k,c,e,z.sameBut hs (I.cne e)];(have hfn:X.fn x=tj:=by rcases hf with z | z;exact z;rw[z] at hk;cases hk);obtain⟨c,hc⟩:=I.ok.has x (.inl hk);obtain⟨⟨w',z⟩,r⟩:=I.ce x c hc;rcases r with r | ⟨_,r⟩;refine wpAny_storeName_cell I.ok.kind hk hc z (λH' o7 hs=>q _ (fin r hs (by obtain⟨o,e,_⟩:=o7;exact#[o,e]) (hn.sameBut hs (Ne.symm (I.cne hc))) (λy c' e=>?_) (λy v n l=>?_) (.inr #[.inl hk,c,hc,o7])));by_cases n:c'=c;subst n;exact#[_,o7];obtain⟨⟨v,z⟩,_⟩:=I.ce y c' e;exact#[v,z.sameBut hs n];rcases l with l | ⟨k,c',e,z⟩;exact .inl l;exact .inr #[k,c',e,z.sameBut hs λy=>n (I.ok.inj _ _ _ (y▸e) hc)];rw[hfn] at r;cases r
noncomputable def Gs.hid (g:Gs) (H:Rs) (L:Q5):Gs:=#[λa=>match g.G a with| some .loc=>(H.get? a).map (if a=L then Ro.slo else Ro.pin)| r=>r,g.ι]
noncomputable def Gs.back (g g':Gs):Gs:=#[λa=>match g.G a with| some .loc=>se .loc| _=>g'.G a,g'.ι]
theorem jd (n:g.G a≠se .loc):(g.hid H L).G a=g.G a:=by unfold Gs.hid;dsimp only;split;rename_i e;exact absurd e n;rfl
theorem ly (e:g.G a=se .loc)(e1:H.get? a=se o):(g.hid H L).G a=se (if a=L then .slo o else .pin o):=by unfold Gs.hid;dsimp only;rw[e,e1];by_cases n:a=L<;>simp[n]
theorem Le.hid:Le g (g.hid H L):=#[λa o z=>by rw[jd (by rw[z];simp),z],[],by simp[Gs.hid]]
theorem Hk.hid (q:Hk B g h H)(nf:∀o,H.get? L=se o->NF o):Hk B (g.hid H L) h H:=by(have cs:∀{a r},(g.hid H L).G a=se r->g.G a=se r\/(∃o,H.get? a=se o/\((r=.slo o/\a=L)\/r=.pin o)):=λ{a r} z=>by by_cases n:g.G a=se .loc;obtain⟨o,e⟩:=q.al a _ n;rw[ly n e] at z;cases z;exact .inr #[o,e,by by_cases y:a=L<;>simp[y]];rw[jd n] at z;exact .inl z);refine q.go .hid rfl (λb r z y=>#[by rw[jd (by rw[z];obtain⟨i,y | y⟩:=y<;>subst y<;>simp),z],λ_ e=>e]) (λa o z=>?_) (λa o z=>?_) λa r z=>?_;rcases z with z | z<;>rcases cs z with y | ⟨o',e,⟨y,_⟩ | y⟩;exact q.st a o (.inl y);cases y;cases y;exact q.st a o (.inr y);cases y;cases y;exact e;rcases cs z with y | ⟨o',e,⟨y,rfl⟩ | y⟩;exact q.sl a o y;cases y;exact#[nf _ e,o.slots,e];cases y;rcases cs z with y | ⟨o,e,_⟩;exact q.al a r y;exact#[o,e]
theorem yU (e:g.G a=se .loc):(g.back g').G a=se .loc:=by unfold Gs.back;dsimp only;rw[e]
theorem kO (n:g.G a≠se .loc):(g.back g').G a=g'.G a:=by unfold Gs.back;dsimp only;split;rename_i e;exact absurd e n;rfl
theorem Iv.back (I:Iv X g ρ h s)(x:Gr (g.hid s.heap X.env.locals) g')(q:Hk X.B g' h' s'.heap)(os:s'.os=s.os)(br:AllBare s'.gens):Iv X (g.back g') ρ h' s'/\Gr g (g.back g'):=by(have ol:∀{a},g.G a=se .loc->∃o,s.heap.get? a=se o/\g'.G a=se (if a=X.env.locals then .slo o else .pin o):=λ{a} z=>by obtain⟨o,e⟩:=I.hk.al a _ z;exact#[o,e,x.f _ _ (ly z e) (.inl (by by_cases y:a=X.env.locals<;>simp[y,Ro.fix]))]);(have nl:∀{a r},g'.G a=se r->(∀o,r≠.slo o)->(∀o,r≠.pin o)->g.G a≠se .loc:=λ{a r} z n1 n2 y=>by obtain⟨o,_,e⟩:=ol y;rw[z] at e;cases e;by_cases w:a=X.env.locals;rw[QY w] at n1;exact n1 o rfl;rw[QX w] at n2;exact n2 o rfl);have gr:Gr g (g.back g'):=#[λa r z f=>by by_cases n:g.G a=se .loc;rw[n] at z;cases z;exact yU n;rw[kO n];exact x.f a r (by rwa [jd n]) f,x.i];(have hk:Hk X.B (g.back g') h' s'.heap:=by refine q.go #[λa o z=>by rwa [kO (nl z (by simp) (by simp))],[],by simp[Gs.back]] rfl (λb r z y=>#[by rwa [kO (nl z (by obtain⟨i,y | y⟩:=y<;>subst y<;>simp) (by obtain⟨i,y | y⟩:=y<;>subst y<;>simp))],λ_ e=>e]) (λa o z=>?_) (λa o z=>?_) λa r z=>?_;(all_goals by_cases n:g.G a=se .loc);rw[yU n] at z;rcases z with z | z<;>cases z;rw[kO n] at z;exact q.st a o z;rw[yU n] at z;cases z;rw[kO n] at z;exact q.sl a o z;obtain⟨o,_,e⟩:=ol n;exact q.al a _ e;rw[kO n] at z;exact q.al a r z);(have cl:∀{y c},X.env.cells.lookup y=se c->∀{v},s.heap.IsCell c v->s'.heap.IsCell c v:=λ{y c} e {v} #[o,ho,hd]=>by rcases(I.ce y c e).2 with z | ⟨⟨o',z⟩,_⟩;obtain⟨o',e1,e2⟩:=ol z;rw[QX (I.cne e)] at e2;rw[ho] at e1;cases e1;exact#[_,q.st c _ (.inr e2),hd];have e1:=I.hk.st c o' (.inr z);rw[ho] at e1;cases e1;exact#[_,hk.st c _ (.inr (gr.f _ _ z (.inl rfl))),hd]);refine#[#[I.ok,os.trans I.os,br,hk,λb o e=>gr.f _ _ (I.bs b o e) (.inl rfl),λa r e f=>gr.f _ _ (I.kp a r e f) (.inl f),gr.ip I.ip,gr.f _ _ I.lf (.inr rfl),?_,λy c e=>?_,I.len],gr];obtain⟨m,⟨o,es,ep,ho,dd,r⟩,hl⟩:=I.lc;obtain⟨o',e1,e2⟩:=ol I.lf;rw[ho] at e1;cases e1;rw[QY rfl] at e2;obtain⟨_,sl,e3⟩:=q.sl _ _ e2;refine#[m,#[_,es,ep,e3,dd,r],λi y d e1 e2 e3=>?_];obtain⟨u,dq,l⟩:=hl i y d e1 e2 e3;refine#[u,gr.le.du dq,?_];rcases l with l | ⟨kk,c,e,z⟩;exact .inl l;exact .inr #[kk,c,e,cl e z];obtain⟨⟨v,z⟩,r⟩:=I.ce y c e;refine#[#[v,cl e z],?_];rcases r with r | ⟨⟨o,r⟩,f⟩;exact .inl (gr.f _ _ r (.inr rfl));exact .inr #[#[o,gr.f _ _ r (.inl rfl)],f]
end
structure QE (X:Cz)(e:Ru)(f:RE):Prop where
 h:∀{pins ρ h ws s P},J X pins ρ h ws s->(f ρ h).sat P X.E->X.wp (SB e X.env) (RP X pins ρ ws P) s
structure QA (X:Cz)(es:List Ru)(f:RA):Prop where
 h:∀{pos pins ρ h ws s P},J X pins ρ h ws s->(f ρ h).sat P X.E->X.wp (spliced (backTo pos (RD es X.env))) (AR X pins ρ ws P) s
structure QT (X:Cz)(e:Ru)(f:RT):Prop where
 h:∀{pins ρ h ws s P},J X pins ρ h ws s->(f ρ h).sat P X.E->X.wp (isTrue e X.env (SB e X.env)) (TR X pins ρ ws P) s
structure QW (X:Cz)(e:Ru)(f:RT):Prop where
 h:∀{w pins ρ h ws s P},J X pins ρ h ws s->(f ρ h).sat P X.E->X.wp (isTrue e X.env w) (TR X pins ρ ws P) s
structure QS (X:Cz)(st:SD)(f:RS):Prop where
 h:∀{pins ρ h ws s P},J X pins ρ h ws s->(f ρ h).sat P X.E->X.wp (exec st X.env) (SR X pins ws P) s
structure QB (X:Cz)(st:List SD)(f:RS):Prop where
 h:∀{pins ρ h ws s P},J X pins ρ h ws s->(f ρ h).sat P X.E->X.wp (execs st X.env) (SR X pins ws P) s
class Vs (X:Cz) (op:CmpOp) (g:D->D->TH->RX.R D):Prop where
 h:∀{pins ρ h ws s P x y u v},J X pins ρ h ((y,v)::(x,u)::ws) s->(g x y h).sat P X.E->X.wp (compareOp op u v) (RP X pins ρ ws P) s
class YM (X:Cz) (op:Operator) (g:D->D->TH->RX.R D):Prop where
 h:∀{pins ρ h ws s P x y u v},J X pins ρ h ((y,v)::(x,u)::ws) s->(g x y h).sat P X.E->X.wp (binaryOp op u v) (RP X pins ρ ws P) s
abbrev Fe (X:Cz)(v:Value)(g:List D->TH->RX.R D):Prop:=∀{pins ρ h ws s P} {ds:List D} {us:List Value},ds.length=us.length->J X pins ρ h (ds.zip us++ws) s->(g ds h).sat P X.E->X.wp (call v us) (RP X pins ρ ws P) s
class BOk (X:Cz) (x:Q7) (g:List D->TH->RX.R D):Prop where
 ex:∃v,X.mg x=ng/\RH x=se v/\((∃i,v=.builtin i)\/∃i,v=.type i)/\Fe X v g
noncomputable def bltN:List Q7:=["abs","all","any","bool","dict","enumerate","int","isinstance","len","list","max","min","range","reversed","set","sorted","str","sum","tuple","zip","ValueError"]
abbrev NAG (X:Cz)(x:Q7):Prop:=X.env.kindOf x=se .globalImplicit
class Yx (X:Cz) (k:outParam Nat):Prop where
 room:Sq k X.A
 calm:X.calm=tj
 blt:∀x∈bltN,X.mg x=ng
 nd:X.N.Nodup
 po:PassesOwn (Rf X.B.P X.B.w) X.A X.env X.xe
 xp:∀{g ρ h s e s'},Iv X g ρ h s->X.ER X.stack (g.hid s.heap X.env.locals) s X.E e s'->X.xe e s'
 en:∀{st g s e s'},X.ER st g s (λ_ _=>False) e s'->False
 fld:∀c f,(X.B.C.nm c).contains f=tj->ClsF X.B.C.K (X.B.C.cl c) f
theorem Yx.no (Y:Yx X k)(x:Q7)(h:bltN.contains x=tj:=by decide +kernel):X.mg x=none:=Y.blt x (kn.mp h)
structure RCst (B:Cb)(mg:Q7->Option Value)(base:Rs)(x:Q7)(d:D):Prop where
 is:∃u,mg x=se u/\∀g:Gs,(∀b o,base.get? b=se o->g.G b=se (.dat o))->DU B g d u
section
variable {X:Cz}{k:Nat}{m:Bool}{a b c e:Ru}{es rest:List Ru}{x y f:Q7}{pos p q:Ue}{fa fb fc:RE}{fA:RA}{fT fU:RT}{g g':D->D->TH->RX.R D}{i j:Nat}{iv:Int}{st:SD}{sts body U1:List SD}{fs fu:RS}
theorem J.inv (z:J X pins ρ h ws s):∃g,Iv X g ρ h s:=by cases z with | mk g I p W=>exact#[g,I]
theorem yV (z:J X pins ρ h ws s)(hg:NAG X x)(hm:X.mg x=se u)(q:Q u s)(hd:(x==("__debug__"))=ff):Rd (Rf X.B.P X.B.w) X.A (SB (.Name x pos) X.env) Q E s:=by obtain⟨g,I⟩:=z.inv;exact Calls.Name_function_global I.ok.kind hg (Calls.loadGlobal_global (by exact I.ok.glob▸I.ok.mod.glob.keeps I.bk) hm q) hd
theorem iu (z:J X pins ρ h ws s)(hg:NAG X x)(hm:X.mg x=ng)(hv:RH x=se u)(q:Q u s)(hn:x≠"__name__")(hd:(x==("__debug__"))=ff):Rd (Rf X.B.P X.B.w) X.A (SB (.Name x pos) X.env) Q E s:=by obtain⟨g,I⟩:=z.inv;obtain⟨mb,h1,h2⟩:=I.ok.mod.blt;exact Calls.Name_function_global I.ok.kind hg (Calls.loadGlobal_builtin (by exact I.ok.glob▸I.ok.mod.glob.keeps I.bk) hm (by exact I.ok.blt▸h1.keeps I.bk) ((h2 x hn).trans hv) q) hd
theorem q_v (hN:X.N[i]?=se x:=by rfl)(hv:Vis X.env.scope x:=by first |exact Or.inl rfl |exact rd (Or.inl rfl) |exact rd (rd rfl))(hd:(x==("__debug__"))=ff:=by decide)(hcd:(x==("__classdict__"))=ff:=by decide):QE X (.Name x pos) (rV i):=#[λz q=>by cases z with | mk g I p W =>unfold rV at q;split at q;rename_i v e;rw[aW] at e;obtain⟨m,hn,hl⟩:=I.lc;obtain⟨u,r,l⟩:=hl i x v hN e hv;have fin:RP X _ _ _ _ u _:=#[v,_,#[g,I,p,λw' z=>by rcases bj.mp z with rfl | z;exact r;exact W w' z],q];rcases l with ⟨hk,hm⟩ | ⟨hk | hk,c,hc,hcell⟩;exact wpAny_Name (wpAny_loadName_local I.ok.kind hk hn hm fin) hd;exact wpAny_Name (wpAny_loadName_cell I.ok.kind hk hc hcell fin) hd;exact wpAny_Name (wpAny_loadName_free I.ok.kind hk hc hcell fin hcd) hd;exact q.elim]
theorem yW:QE X (.Constant (.int iv) j pos) [Α,iv]:=#[λz q=>wpAny_Constant_int (z.gint q)]
theorem M5:QE X (.Constant (.bool m) j pos) (rC (.bl m)):=#[λz q=>Constant_bool (z.gbl q)]
theorem M6:QE X (.Constant .none j pos) (rC .non):=#[λz q=>Constant_none (z.gnon q)]
theorem M7:QE X (.Constant (.str x) j pos) (rC (.str x)):=#[λz q=>Calls.Constant_str (z.gstr q)]
theorem M8 (h:RCst X.B X.mg X.base x d:=by assumption)(hg:NAG X x:=by rfl)(hd:(x==("__debug__"))=ff:=by decide):QE X (.Name x pos) (rC d):=#[λz q=>by obtain⟨u,h1,h3⟩:=h.is;refine yV z hg h1 #[_,_,?_,q] hd;cases z with | mk g I p W=>exact#[g,I,p,λw z=>by rcases bj.mp z with rfl | z;exact h3 g I.bs;exact W w z]]
theorem M9 [B:YM X op g] (ha:QE X a fa)(hb:QE X b fb):QE X (.BinOp a op b pos) (Rp g fa fb):=#[λz q=>wpAny_BinOp (Sd (ha.h z q.bnd) λ_ _ #[_,_,z,q]=>Sd (hb.h z q.bnd) λ_ _ #[_,_,z,q]=>B.h z q)]
theorem Na [B:Vs X op g] (ha:QE X a fa)(hb:QE X b fb)(hm:behindInMarks op b=ff:=by rfl):QE X (.Compare a [op] [b] pos) (Rp g fa fb):=#[λz q=>wpAny_Compare1 (Sd (ha.h z q.bnd) λ_ _ #[_,_,z,q]=>Sd (hb.h z q.bnd) λ_ _ #[_,_,z,q]=>B.h z q) hm]
theorem Ff (t:RP X pins ρ ws (λx h=>(match x with | .bl b=>.ok b h| _=>.no:RX.R Bool).sat P (X.E)) u s):X.wp (truthy u) (TR X pins ρ ws P) s:=by obtain⟨d,h,z,q⟩:=t;split at q;cases z.bl;exact Se #[_,z.tl,q];exact q.elim
theorem Nb [B:Vs X op g] (ha:QE X a fa)(hb:QE X b fb)(hm:behindInMarks op b=ff:=by rfl):QT X (.Compare a [op] [b] pos) (Rj (Rp g fa fb)):=#[λz q=>wpAny_isTrue_Compare1 (Sd (ha.h z q.bnd.bnd) λ_ _ #[_,_,z,q]=>Sd (hb.h z q.bnd) λ_ _ #[_,_,z,q]=>Sd (B.h z q) λ_ _=>Ff) hm]
theorem Nc [B:Vs X op g] [B':Vs X op' g'] (ha:QE X a fa)(hb:QE X b fb)(hc:QE X c fc)(hm:lastMarks [op,op'] [b,c]=ff:=by with_unfolding_all rfl):QE X (.Compare a [op,op'] [b,c] pos) (Yv g g' fa fb fc):=#[λ{pins ρ h ws s P} z q =>Compare_chain (Sd (ha.h z q.bnd) λ_ _ #[_,_,z,q]=>chain_link (Sd (hb.h z q.bnd) λv _ #[y,_,z,q]=>Sd (B.h (ws:=(y,v)::ws) (z.sub Β) q.bnd) λ_ _ #[_,_,z,q]=>by split at q;rename_i k;cases z.bl;refine Se ?_;(cases k with| false=>exact ite_ff (z.tl.tl.gbl q)| true=>exact ite_tt (chain_last (Sd (hc.h z.tl q.bnd) λ_ _ #[_,_,z,q]=>B'.h z q)));exact q.elim)) hm]
theorem Nd (ha:QE X a fa):QE X (.UnaryOp .USub a pos) (rUn YH fa):=#[λz q=>UnaryOp_ (Sd (ha.h z q.bnd) λ_ _ #[_,_,z,q]=>by unfold YH at q;split at q;obtain⟨t,rfl⟩:=z.int;exact neg_int (z.tl.gint q);exact q.elim)]
theorem Nf (ha:QE X a fa):QE X (.UnaryOp .Not a pos) (rNotV fa):=#[λz q=>UnaryOp_ (Sd (ha.h z q.bnd) λ_ _ #[_,_,z,q]=>by split at q;cases z.bl;exact not_of (Se (z.tl.gbl q));exact q.elim)]
theorem Ng (ha:QE X a fa)(hb:QE X (.BoolOp .And (b::rest) pos) fb):QE X (.BoolOp .And (a::b::rest) pos) (TP fa fb):=#[λz q=>BoolOp_and (Sd (ha.h z q.bnd) λ_ _ #[_,_,z,q]=>by split at q;rename_i k;cases z.bl;refine Se ?_;(cases k with| true=>exact hb.h z.tl q| false=>exact z.tl.gbl q);exact q.elim)]
theorem Nh (ha:QE X a fa)(hb:QE X (.BoolOp .Or (b::rest) pos) fb):QE X (.BoolOp .Or (a::b::rest) pos) (Y9 fa fb):=#[λz q=>BoolOp_or (Sd (ha.h z q.bnd) λ_ _ #[_,_,z,q]=>by split at q;rename_i k;cases z.bl;refine Se ?_;(cases k with| false=>exact hb.h z.tl q| true=>exact z.tl.gbl q);exact q.elim)]
theorem Ni (hc:QT X c fT)(ha:QE X a fa)(hb:QE X b fb):QE X (.IfExp c a b pos) (Z3 fT fa fb):=#[λz q=>wpAny_IfExp (Sd (hc.h z q.bnd) λd _ #[_,z,q]=>by cases d with| true=>exact ha.h z q| false=>exact hb.h z q)]
theorem Nj (ha:QE X e fa)(he:∀nK,isTrue e X.env nK=(do let v <-nK;standAt e.pos;holding [v] (truthy v)):=by intro _;rfl):QT X e (Rj fa):=#[λz q=>isTrue_plain (Sd (ha.h z q.bnd) λ_ _=>Ff) (he _)]
theorem Nk (ha:QT X a fT):QT X (.UnaryOp .Not a pos) (V6 fT):=#[λz q=>isTrue_not (Sd (ha.h z q.bnd) λ_ _ #[_,z,q]=>#[_,z,q])]
theorem Fg (ha:QT X a fT)(hb:QW X (.BoolOp .And (b::rest) pos) fU):QW X (.BoolOp .And (a::b::rest) pos) (WJ fT fU):=#[λz q=>isTrue_and (Sd (ha.h z q.bnd) λk _ #[_,z,q]=>by cases k with| true=>exact hb.h z q| false=>exact#[_,z,q])]
theorem Fh (ha:QT X a fT)(hb:QW X (.BoolOp .Or (b::rest) pos) fU):QW X (.BoolOp .Or (a::b::rest) pos) (Za fT fU):=#[λz q=>isTrue_or (Sd (ha.h z q.bnd) λk _ #[_,z,q]=>by cases k with| false=>exact hb.h z q| true=>exact#[_,z,q])]
theorem Nl (h:QE X a fa):QE X (.BoolOp op [a] pos) fa:=#[λz q=>BoolOp_one (h.h z q)]
theorem Fi (h:QW X a fT):QT X a fT:=#[h.h]
theorem Nm (h:QT X a fT):QW X (.BoolOp .And [a] pos) fT:=#[λz q=>isTrue_and (Sd (h.h z q) λk _ t=>by cases k with| true=>exact isTrue_and_nil t| false=>exact t)]
theorem Nn (h:QT X a fT):QW X (.BoolOp .Or [a] pos) fT:=#[λz q=>isTrue_or (Sd (h.h z q) λk _ t=>by cases k with| false=>exact isTrue_or_nil t| true=>exact t)]
theorem qD:QA X [] Q6:=#[λz q=>Calls.spliced_nil #[[],_,rfl,z,q]]
theorem su (ha:QE X e fa)(hr:QA X es fA)(hs:RD (e::es) X.env=(ff,SB e X.env)::RD es X.env:=by rfl):QA X (e::es) (Q2 fa fA):=#[λ{pos} {pins} {ρ} {h} {ws} {s} {P} z q=>by exact hs▸Calls.spliced_cons (Sd (ha.h z q.bnd) λ_ _ #[_,_,z,q]=>Sd (hr.h z q.bnd) λ_ _ #[ds,_,l,z,q]=>#[_::ds,_,by simp[l],z.sub (by simp +contextual [or_imp]),q])]
theorem No:QS X st Un:=#[λ_ q=>q.elim]
theorem Np:QB X [] Rw:=#[λz q=>UT #[_,_,z,q]]
theorem Nq (h:QS X st fs):QB X [st] fs:=#[λz q=>wpAny_execs_cons (Sd (h.h z q) λf _ t=>by cases f with| next=>exact UT t| ret v=>exact t| brk=>exact t| cont=>exact t)]
theorem Nr (h:QS X st fs)(h2:QB X sts fu):QB X (st::sts) (Ra fs fu):=#[λz q=>wpAny_execs_cons (Sd (h.h z q.bnd) λf _ t=>by cases f with| next=>obtain⟨_,_,z,q⟩:=t;exact h2.h z q| ret v=>exact t| brk=>exact t| cont=>exact t)]
theorem Nt (h:QE X e fa)(hs:U9 e ng pos.line X.env=pure ff:=by rfl):QS X (.Expr e pos) (V1 fa):=#[λz q=>by obtain⟨_,I⟩:=z.inv;exact wpAny_Expr_any (Sd (h.h z q.bnd) λ_ _ #[_,_,z,q]=>#[_,_,z.tl,q]) (by simp[interactive,I.ok.kind]) hs]
theorem Nu (h:QE X e fa):QS X (.Return (se e) pos) (Rr fa):=#[λz q=>wpAny_Return_some (Sd (h.h z q.bnd) λ_ _ #[_,_,z,q]=>#[_,_,_,z,q])]
theorem Nv (hc:QT X c fT)(ha:QB X body fs)(hb:QB X U1 fu):QS X (.If c body U1 pos) (RN fT fs fu):=#[λz q=>wpAny_If (Sd (hc.h z q.bnd) λd _ #[_,z,q]=>by cases d with| true=>exact ha.h z q| false=>exact hb.h z q)]
end
inductive OS (X:Cz) (pins:List (Q5×Sr)) (ρ:R4) (h:TH) (ws:WL) (s:Q4) (φ:Q5->List Value->Prop) (ds:List D) (u:Value):Prop
 | mk (a:Q5) (us:List Value) (e:u=.ref a) (l:ds.length=us.length) (z:us.length<=sizeLine) (f:φ a us) (j:J X pins ρ h (ds.zip us++ws) s)
section
variable {X:Cz}{g g':Gs}{ρ:R4}{h:TH}{s:Q4}{H H':Rs}{pins:List (Q5×Sr)}{ws ws':WL}{a b:Q5}{o:Sr}{d x:D}{u:Value}{ds ds':List D}{us us':List Value}{P:D->TH->Prop}{k i c n t:Nat}{m:Bool}{ks:List Ry}
@[elab_as_elim] theorem Fj {α β:Type}{M:List α->List β->Prop}(nil:M [] [])(cons:∀a as b bs,as.length=bs.length->M as bs->M (a::as) (b::bs)){as bs}(l:as.length=bs.length):M as bs:=by revert bs;induction as with| nil=>(intro bs l;cases bs with| nil=>exact nil| cons _ _=>cases l)| cons a as ih=>intro bs l;cases bs with| nil=>cases l| cons b bs=>exact cons a as b bs (kz l) (ih (kz l))
@[elab_as_elim] theorem yX {α β γ:Type}{M:List α->List β->List γ->Prop}(nil:M [] [] [])(cons:∀a as b bs c cs,as.length=bs.length->bs.length=cs.length->M as bs cs->M (a::as) (b::bs) (c::cs)){as bs cs}(l:as.length=bs.length)(l2:bs.length=cs.length):M as bs cs:=by refine@Fj α β (λas bs=>∀cs,bs.length=cs.length->M as bs cs) (λcs e=>?_) (λa as b bs l ih cs e=>?_) as bs l cs l2;(cases cs with| nil=>exact nil| cons _ _=>cases e);cases cs with| nil=>cases e| cons c cs=>exact cons a as b bs c cs l (kz e) (ih cs (kz e))
theorem RP.tl (r:RP X pins ρ (w::ws) P u s):RP X pins ρ ws P u s:=by cases r with | mk d h j p=>exact#[d,h,j.sub (by simp +contextual),p]
theorem gY:s.heap.get? s.heap.objs.size=none:=Heap.get?_none_of_le (bE _)
theorem jE (A:cE B g ws)(W:cE B g ws'):cE B g (ws++ws'):=λw z=>(c8.mp z).elim (A w) (W w)
theorem oW (q:DU B g d u)(W:cE B g ws):cE B g ((d,u)::ws):=λw z=>(bj.mp z).elim (λe=>e▸q) (W w)
theorem J.opS (j:J X pins ρ h ws s)(m:(x,u)∈ws)(e:eS h x=se ds):OS X pins ρ h ws s (λa us=>bif RQ x then IsTup s.heap a us.toArray else∃n,s.heap.get? a=se (Vt us n)) ds u:=by cases j with | mk g I p W =>have q:=W _ m;unfold eS at e;split at e;cases e;(cases q with | tup f l z A=>obtain⟨o,e,f⟩:=f;exact#[_,_,rfl,l,z,f _ (I.hk.st _ _ (.inl e)),g,I,p,jE A W]);cases e;(cases q with | lst f l z A=>exact#[_,_,rfl,l,z,#[_,I.hk.st _ _ (.inl f)],g,I,p,jE A W]);(cases q with | at_ e0 =>split at e;rename_i e1;cases e;rw[aW] at e1;(cases I.hk.th _ _ _ e1 e0 with | ml r e l z A=>exact#[_,_,rfl,l,z,#[_,e],g,I,p,jE A W]);rename_i e1;cases e;rw[aW] at e1;(cases I.hk.th _ _ _ e1 e0 with | mr f l z A=>exact#[_,_,rfl,by simpa using l,z,#[_,I.hk.st _ _ (.inl f)],g,I,p,jE (λw q=>by rw[qV] at q;obtain⟨y,y1,rfl⟩:=aU.mp q;obtain⟨t,e⟩:=A y y1;exact e▸.int) W]);cases e);cases e
theorem Nw (e:eL h x=se ds):eS h x=se ds/\RQ x=ff:=by unfold eL at e;unfold eS;split at e;exact#[e,rfl];split at e;rename_i e1;dsimp only;exact e1▸#[e,rfl];cases e;cases e
theorem J.opL (j:J X pins ρ h ws s)(m:(x,u)∈ws)(e:eL h x=se ds):OS X pins ρ h ws s (λa us=>∃n,s.heap.get? a=se (Vt us n)) ds u:=by obtain⟨e1,e2⟩:=Nw e;obtain⟨a,us,e,l,z,f,j⟩:=j.opS m e1;rw[e2] at f;exact#[a,us,e,l,z,f,j]
theorem J.opD (j:J X pins ρ h ws s)(m:(x,u)∈ws)(e:eK h x=se (ks,ds)):ks.length=ds.length/\OS X pins ρ h ws s (λa us=>(a==Tw)=ff/\s.heap.DictOf (RM X.B.P X.B.w) a (ks.zip us)) ds u:=by cases j with | mk g I p W =>have q:=W _ m;unfold eK at e;split at e;cases e;(cases q with | dic f n k l z A=>obtain⟨o,e,f⟩:=f;exact#[k,_,_,rfl,l,z,#[n,f _ (I.hk.st _ _ (.inl e))],g,I,p,jE A W]);(cases q with | at_ e0 =>split at e;rename_i e1;cases e;rw[aW] at e1;(cases I.hk.th _ _ _ e1 e0 with | md r e n k l z A=>exact#[k,_,_,rfl,l,z,#[n,e],g,I,p,jE A W]);cases e);cases e
theorem Fk (I:Iv X g ρ h s)(p:∀p∈pins,g.G p.1=se (.pin p.2))(W:cE X.B g (ws'++ws))(n:g.G a=ng)(k:∀b o,s.heap.get? b=se o->H'.get? b=se o)(e:H'.get? a=se o)(mk:∀g,cE X.B g ws'->g.G a=se (.dat o)->DU X.B g d (.ref a))(t:Nat):J X pins ρ h ((d,.ref a)::ws) { s with heap:=H',toks:=t}:=by have x:=Gr.upd (r:=se (.dat o)) n;refine J.via I p x (I.hk.dat n k e) (λb o _=>k b o) (oW (mk _ (x.le.held λw z=>W w (c7 _ z)) Gs.upd_same) (x.le.held λw z=>W w (dG _ z))) t
theorem J.dat (j:J X pins ρ h (ws'++ws) s)(n:s.heap.get? a=ng)(k:∀b o,s.heap.get? b=se o->H'.get? b=se o)(e:H'.get? a=se o)(mk:∀g,cE X.B g ws'->g.G a=se (.dat o)->DU X.B g d (.ref a))(t:Nat):J X pins ρ h ((d,.ref a)::ws) { s with heap:=H',toks:=t}:=by cases j with | mk g I p W=>exact Fk I p W (I.hk.fresh n) k e mk t
theorem vJ (I:Iv X g ρ h s)(p:∀p∈pins,g.G p.1=se (.pin p.2))(W:cE X.B g (ws'++ws))(as:List Q5)(n:∀b∈as,g.G b=ng)(k:∀b o,s.heap.get? b=se o->H'.get? b=se o)(al:∀b∈as,∃o,H'.get? b=se o) (mk:∀g',Le g g'->cE X.B g' ws'->(∀b∈as,g'.G b=se (.own h.length))->Th X.B g' H' h.length a tm) (t:Nat):J X pins ρ (h++[tm]) ((.at h.length,.ref a)::ws) { s with heap:=H',toks:=t}:=by(obtain⟨x,q⟩:=(I.hk.kept k).mut as n al λg' e _ x=>mk g' x (x.held λw z=>W w (c7 _ z)) λb z=>by exact e▸QY z);refine J.via I p #[λb r z _=>?_,_,rfl] q (λb o _=>k b o) (oW (.at_ (by exact I.hk.len▸wg)) (x.held λw z=>W w (dG _ z))) t;show(if b∈as then _ else _)=_;rw[QX λy=>by rw[n b y] at z;cases z];exact z
theorem J.mut (j:J X pins ρ h (ws'++ws) s)(as:List Q5)(n:∀b∈as,s.heap.get? b=ng)(k:∀b o,s.heap.get? b=se o->H'.get? b=se o)(al:∀b∈as,∃o,H'.get? b=se o) (mk:∀g,cE X.B g ws'->(∀b∈as,g.G b=se (.own h.length))->Th X.B g H' h.length a tm) (t:Nat):J X pins ρ (h++[tm]) ((.at h.length,.ref a)::ws) { s with heap:=H',toks:=t}:=by cases j with | mk g I p W=>exact vJ I p W as (λb z=>I.hk.fresh (n b z)) k al (λg _=>mk g) t
theorem yY (I:Iv X g ρ h s)(p:∀p∈pins,g.G p.1=se (.pin p.2))(W:cE X.B g (ds.zip us++ws))(l:ds.length=us.length)(z:us.length<=sizeLine)(n:g.G a=ng)(k:∀b o,s.heap.get? b=se o->H'.get? b=se o)(e:H'.get? a=se (Vt us c))(q:(RX.mk m ds h).sat P E)(t:Nat):RP X pins ρ ws P (.ref a) { s with heap:=H',toks:=t}:=by unfold RX.mk at q;cases m with| false=>exact#[_,_,Fk I p W n k e (λg A r=>.lst r l z A) t,q]| true =>rw[show hn h=h.length from aV h,show hp h (.ml ds)=h++[.ml ds]from gN _ _] at q;exact#[_,_,vJ I p W [a] (by simpa using n) k (by simpa using #[_,e]) (λg _ A r=>.ml (r a (by simp)) e l z A) t,q]
theorem J.mkL (j:J X pins ρ h (ds.zip us++ws) s)(l:ds.length=us.length)(z:us.length<=sizeLine)(n:s.heap.get? a=ng)(k:∀b o,s.heap.get? b=se o->H'.get? b=se o)(e:H'.get? a=se (Vt us c))(q:(RX.mk m ds h).sat P E)(t:Nat):RP X pins ρ ws P (.ref a) { s with heap:=H',toks:=t}:=by cases j with | mk g I p W=>exact yY I p W l z (I.hk.fresh n) k e q t
theorem J.pushL (j:J X pins ρ h (ds.zip us++ws) s)(l:ds.length=us.length)(z:us.length<=sizeLine)(q:(RX.mk m ds h).sat P E)(t:Nat):RP X pins ρ ws P (.ref s.heap.objs.size) { s with heap:=s.heap.push (Vt us c),toks:=t} :=j.mkL l z gY (λ_ _=>Heap.get?_push_of_some _) (Heap.get?_push_size _ rfl) q t
theorem J.mkD (j:J X pins ρ h (ds.zip us++ws) s)(kl:ks.length=ds.length)(l:ds.length=us.length)(z:us.length<=sizeLine)(n:s.heap.get? a=ng)(k:∀b o,s.heap.get? b=se o->H'.get? b=se o)(ns:(a==Tw)=ff)(e:H'.DictOf (RM X.B.P X.B.w) a (ks.zip us))(q:(mkD m ks ds h).sat P E)(t:Nat):RP X pins ρ ws P (.ref a) { s with heap:=H',toks:=t}:=by unfold RX.mkD at q;obtain⟨o,es,ep,e1,e2⟩:=id e;cases m with| false=>exact#[_,_,j.dat n k e1 (λg A r=>.dic #[_,r,λ_ e=>#[o,es,ep,e,e2]] ns kl l z A) t,q]| true =>rw[show hn h=h.length from aV h,show hp h (.md ks ds)=h++[.md ks ds]from gN _ _] at q;exact#[_,_,j.mut [a] (by simpa using n) k (by simpa using #[_,e1]) (λg A r=>.md (r a (by simp)) e ns kl l z A) t,q]
theorem J.set (j:J X pins ρ h ws s)(m:(.at i,.ref a)∈ws)(r:∀g,Hk X.B g h s.heap->g.ι[i]?=se a->g.G a=se (.own i))(k:∀b o,b≠a->s.heap.get? b=se o->H'.get? b=se o)(e:∃o,H'.get? a=se o)(new:∀g,cE X.B g ws->g.G a=se (.own i)->Th X.B g H' i a tm)(t:Nat) :J X pins ρ (h.set i tm) ws { s with heap:=H',toks:=t}:=by cases j with | mk g I p W =>cases W _ m with | at_ e0 =>have r0:=r g I.hk e0;refine J.via I p .refl (I.hk.set (λb o z=>k b o (by rintro rfl;exact z r0)) (λb z=>?_) λa' e1=>?_) (λb o z=>k b o (by rintro rfl;rw[r0] at z;cases z)) W t;by_cases n:b=a;subst n;exact e;obtain⟨o,e⟩:=I.hk.al b _ z;exact#[o,k b o n e];rw[e0] at e1;cases e1;exact new g W r0
theorem Ny (e:h[i]?=se (.ml ds))(g:Gs)(q:Hk B g h H)(e0:g.ι[i]?=se a):g.G a=se (.own i):=by cases q.th _ _ _ e e0 with | ml r _ _ _ _=>exact r
theorem sv (e:h[i]?=se (.md ks ds))(g:Gs)(q:Hk B g h H)(e0:g.ι[i]?=se a):g.G a=se (.own i):=by cases q.th _ _ _ e e0 with | md r _ _ _ _ _ _=>exact r
inductive OM (X:Cz) (pins:List (Q5×Sr)) (ρ:R4) (h:TH) (ws:WL) (s:Q4) (φ:Q5->List Value->Prop) (i:Nat) (tm:TM) (x:D) (ds:List D) (u:Value):Prop
 | mk (a:Q5) (us:List Value) (ex:x=.at i) (e:u=.ref a) (eh:h[i]?=se tm) (l:ds.length=us.length) (z:us.length<=sizeLine) (f:φ a us) (j:J X pins ρ h (ds.zip us++ws) s)
theorem J.opM (j:J X pins ρ h ws s)(m:(x,u)∈ws)(e:VN h x=se (i,ds)):OM X pins ρ h ws s (λa us=>∃n,s.heap.get? a=se (Vt us n)) i (.ml ds) x ds u:=by unfold VN at e;split at e;split at e;rename_i e1;cases e;rw[aW] at e1;(cases j with | mk g I p W =>cases W _ m with | at_ e0 =>cases I.hk.th _ _ _ e1 e0 with | ml r e l z A=>exact#[_,_,rfl,rfl,e1,l,z,#[_,e],g,I,p,jE A W]);cases e;cases e
theorem J.opMd (j:J X pins ρ h ws s)(m:(x,u)∈ws)(e:X7 h x=se (i,ks,ds)):ks.length=ds.length/\OM X pins ρ h ws s (λa us=>(a==Tw)=ff/\s.heap.DictOf (RM X.B.P X.B.w) a (ks.zip us)) i (.md ks ds) x ds u:=by unfold X7 at e;split at e;split at e;rename_i e1;cases e;rw[aW] at e1;(cases j with | mk g I p W =>cases W _ m with | at_ e0 =>cases I.hk.th _ _ _ e1 e0 with | md r e n k l z A=>exact#[k,_,_,rfl,rfl,e1,l,z,#[n,e],g,I,p,jE A W]);cases e;cases e
theorem J.setL (j:J X pins ρ h ws s)(m:(.at i,.ref a)∈ws)(eh:h[i]?=se (.ml ds))(k:∀b o,b≠a->s.heap.get? b=se o->H'.get? b=se o)(e:H'.get? a=se (Vt us' n))(l:ds'.length=us'.length)(z:us'.length<=sizeLine)(sub:∀w∈ds'.zip us',w∈ws)(t:Nat) :J X pins ρ (hs h i (.ml ds')) ws { s with heap:=H',toks:=t}:=by rw[show hs h i (.ml ds')=h.set i (.ml ds')from eW _ _ _];exact j.set m (Ny eh) k #[_,e] (λg W r=>.ml r e l z λw q=>W w (sub w q)) t
theorem J.setD (j:J X pins ρ h ws s)(m:(.at i,.ref a)∈ws)(eh:h[i]?=se (.md ks ds))(k:∀b o,b≠a->s.heap.get? b=se o->H'.get? b=se o)(ns:(a==Tw)=ff)(e:H'.DictOf (RM X.B.P X.B.w) a (ks'.zip us'))(kl:ks'.length=ds'.length)(l:ds'.length=us'.length)(z:us'.length<=sizeLine)(sub:∀w∈ds'.zip us',w∈ws)(t:Nat) :J X pins ρ (hs h i (.md ks' ds')) ws { s with heap:=H',toks:=t}:=by rw[show hs h i (.md ks' ds')=h.set i (.md ks' ds')from eW _ _ _];obtain⟨o,es,ep,e1,e2⟩:=id e;exact j.set m (sv eh) k #[_,e1] (λg W r=>.md r e ns kl l z λw q=>W w (sub w q)) t
theorem J.frz (j:J X pins ρ h ws s)(m:(x,u)∈ws)(e:X7 h x=se (i,ks,ds)):J X pins ρ (hs h i .no) ((.dic ks ds,u)::ws) s:=by obtain⟨kl,a,us,rfl,rfl,eh,l,z,⟨ns,dd⟩,j⟩:=j.opMd m e;obtain⟨o,es,ep,e1,e2⟩:=id dd;cases j with | mk g I p W =>cases W _ (dG _ m)with | at_ e0 =>obtain⟨x,q⟩:=I.hk.gone e1 (sv eh g I.hk e0);rw[show hs h i .no=h.set i .no from eW _ _ _];exact J.via (t:=s.toks) I p #[λb r z f=>by(have n:b≠a:=by rintro rfl;rw[sv eh g I.hk e0] at z;cases z;rcases f with f | f<;>cases f);rwa [Gs.upd_ne n],x.i] q (λ_ _ _ e=>e) (oW (.dic #[o,Gs.upd_same,λ_ e=>#[o,es,ep,e,e2]] ns kl l z (x.held λw z=>W w (c7 _ z))) (x.held λw z=>W w (dG _ z)))
end
section
variable {X:Cz}{ρ:R4}{h:TH}{s:Q4}{pins:List (Q5×Sr)}{ws:WL}{d x y:D}{u v:Value}{ds:List D}{us:List Value}{P:D->TH->Prop}{k i n:Nat}{m:Bool}
theorem oX (j:J X pins ρ h ((y,v)::(x,u)::ws) s)(q:(gI p g x y h).sat P E):∃i k t t',u=.int i t/\v=.int k t'/\p i k=tj/\P (g i k) h:=by unfold gI at q;split at q;obtain⟨t,rfl⟩:=j.int;obtain⟨t',rfl⟩:=j.tl.int;obtain⟨e,q⟩:=q.i;exact#[_,_,t',t,rfl,rfl,e,q];exact q.elim
instance:YM X .Sub X3:=#[λj q=>by obtain⟨i,k,t,t',rfl,rfl,_,q⟩:=oX j q;exact PyProof.Rows.sub_int (j.tl.tl.gint q)]
instance:YM X .FloorDiv UO:=#[λj q=>by obtain⟨i,k,t,t',rfl,rfl,e,q⟩:=oX j q;unfold pDiv at e;rw[cI,cD,kE] at e;exact floordiv_int Β (j.tl.tl.gint q) (.inl (PyProof.noPylong_of_log2 e.2))]
instance:YM X .Mod Ti:=#[λj q=>by obtain⟨i,k,t,t',rfl,rfl,e,q⟩:=oX j q;unfold Z6 at e;rw[gO,decide_eq_true_iff] at e;exact mod_int' (by exact di e) (by exact(Int.fmod_eq_emod_of_nonneg i (by exact cy e))▸j.tl.tl.gint q)]
instance:YM X .Pow gPow:=#[λj q=>by obtain⟨i,k,t,t',rfl,rfl,e,q⟩:=oX j q;obtain⟨h1,h2⟩:=Jl e;refine pow_int h1 h2 ?_;rw[show k.toNat=k.natAbs by lia];exact j.tl.tl.gint q]
instance:Vs X .Lt YY:=#[λj q=>by obtain⟨i,k,t,t',rfl,rfl,e,q⟩:=oX j q;rw[gO] at q;exact AS (j.tl.tl.gbl q)]
instance:Vs X .Gt YO:=#[λj q=>by obtain⟨i,k,t,t',rfl,rfl,e,q⟩:=oX j q;rw[gO] at q;exact PyProof.Rows.gt_int (j.tl.tl.gbl q)]
instance:Vs X .GtE gGe:=#[λj q=>by obtain⟨i,k,t,t',rfl,rfl,e,q⟩:=oX j q;refine PyProof.Rows.ge_int (j.tl.tl.gbl ?_);rwa [show decide (k<=i)=! YF i k by rw[gO,fJ];simp]]
instance:Vs X .LtE gLe:=#[λj q=>by unfold gLe at q;split at q;obtain⟨t,rfl⟩:=j.int;obtain⟨t',rfl⟩:=j.tl.int;refine PyProof.Rows.le_int (j.tl.tl.gbl ?_);rename_i i k;rwa [show decide (i<=k)=! YF k i by rw[gO,fJ];simp];obtain⟨t,rfl⟩:=j.str;obtain⟨t',rfl⟩:=j.tl.str;rw[Cn] at q;exact PySem.P.le_str (j.tl.tl.gbl q);exact q.elim]
theorem Fm (q:DU B g d u):(u==.none)=isN d:=by cases q<;>rfl
instance:Vs X .Is (gIs ff):=#[λj q=>by unfold gIs at q;split at q;obtain⟨_,_,r⟩:=j.tl.at aO;cases j.non;rw[lX,<-Fm r] at q;exact is_none_gen (j.tl.tl.gbl q);exact q.elim]
instance:Vs X .IsNot (gIs tj):=#[λj q=>by unfold gIs at q;split at q;obtain⟨_,_,r⟩:=j.tl.at aO;cases j.non;rw[v6,<-Fm r] at q;exact isnot_none_gen (j.tl.tl.gbl q);exact q.elim]
instance:YM X .Add (UP m):=#[λ{pins ρ h ws s P x y u v} j q=>by unfold UP at q;split at q;obtain⟨t,rfl⟩:=j.int;obtain⟨t',rfl⟩:=j.tl.int;exact PyProof.Rows.add_int (j.tl.tl.gint q);rename_i a b;obtain⟨t,rfl⟩:=j.str;obtain⟨t',rfl⟩:=j.tl.str;obtain⟨e,q⟩:=q.i;rw[dz,aV,aV] at e;rw[Jj] at q;exact add_str (λt' tk=>J.gstr j.tl.tl q) (by rw[S6];simpa [Str.length] using e);obtain⟨ds,e1,q⟩:=q.o;obtain⟨es,e2,q⟩:=q.o;obtain⟨e,q⟩:=q.i;rw[dz,aV,aV] at e;rw[gN] at q;obtain⟨b,vs,rfl,l2,z2,⟨n2,f2⟩,j⟩:=j.opL aO e2;obtain⟨a,us,rfl,l1,z1,⟨n1,f1⟩,j⟩:=j.opL (dG _ (a7 _ aO)) e1;(have hz:(us++vs).length<=sizeLine:=by exact dW▸l1▸l2▸e);rw[<-fY,<-mB l1] at j;refine PySem.P.add_list f1 f2 ?_ (by simpa using hz);rw[show us.toArray++vs.toArray=(us++vs).toArray by simp];exact(j.pushL (by simp[l1,l2]) hz q _).tl.tl]
theorem Nz:∀n,(List.replicate n d).zip (bf n u)=bf n (d,u):=by intro n;induction n with| zero =>exact rfl| succ n ih =>simp[n9,ih]
theorem mul_list {k:Int}(e:s.heap.get? l=se (Vt cG n))(hz:cG.length*k.toNat<=sizeLine)(h1:-(2^63)<=k)(h2:k<2^63) (q:Q (.ref s.heap.objs.size) { s with heap:=s.heap.push (Vt (bf k.toNat cG).flatten 0)}):Rd (Rf prog w) A (binaryOp .Mult (.ref l) (.int k t)) Q E s:=by(have dZ:cG.toArray.size*k.toNat<=sizeLine:=by rwa [gT]);(have hcap:¬cG.toArray.size*k.toNat>(2^63-1)/8:=by(have:sizeLine<=(2^63-1)/8:=Γ);lia);refine wpAny_binaryOp_repeat_ref Γ #[_,e,rfl] (λs'=>typeIs_int s' k t) noFill_list_mul F.fills_int_mul F.slot_int_rmul repeat_list F.slot_int_index.lookup (TB F.slot_int_rmul (typeIs_int s k t) F.entry_int_rmul (F.args_int_rmul_2 _ _) (int___rmul___int_list k t l cG.toArray n) #[e,rfl,#[_,e,rfl],TB F.slot_list_mul #[_,e,rfl] F.entry_list_mul (F.args_list_mul_2 _ _) (AutoListH.list___mul___list_int_3 l cG.toArray n k t (by rw[fitsIndex_both h1 h2];exact qN) hcap (by rw[Bm dZ];exact qN)) #[e,?_]]);(have f0:=λm=>by exact foldl_rep cG m []);rw[f0,show(bf (if cG.toArray.isEmpty=tj then 0 else k.toNat) cG).flatten=(bf k.toNat cG).flatten by cases cG<;>simp];exact q
instance:YM X .Mult (Uq m):=#[λ{pins ρ h ws s P x y u v} j q=>by unfold Uq at q;split at q;obtain⟨t,rfl⟩:=j.int;obtain⟨t',rfl⟩:=j.tl.int;obtain⟨e,q⟩:=q.i;unfold pMul at e;rw[cI,cD,cD] at e;exact PyProof.Rows.mul_int (j.tl.tl.gint q) (HY e.1 e.2 Γ);rename_i n _;obtain⟨ds,e1,q⟩:=q.o;split at q;rename_i d;obtain⟨eb,q⟩:=q.i;rw[dz] at eb;rw[Cm] at q;obtain⟨t,rfl⟩:=j.int;obtain⟨l,us,rfl,l1,z1,⟨n1,e⟩,j⟩:=j.opL (a7 _ aO) e1;obtain⟨u,rfl⟩:∃u,us=[u]:=Ae.mp l1.symm;(have sz:n<=sizeLine:=by exact S6▸eb);refine mul_list e (by simpa using sz) Β (by rw[S6] at sz;lia) ?_;rw[show((qQ n).toNat)=n from rfl,Jk];exact(J.sub (ws':=(bf n d).zip (bf n u)++ws) j (by rw[Nz];simp +contextual [List.mem_replicate,or_imp])).pushL (by simp) (by simpa using sz) q _;exact q.elim;exact q.elim]
end
section
variable {X:Cz}{B:Cb}{g:Gs}{H:Rs}{ρ:R4}{h:TH}{s:Q4}{pins:List (Q5×Sr)}{ws:WL}{d x y:D}{u v:Value}{ds:List D}{us:List Value}{P:D->TH->Prop}{k i n:Nat}{m neg:Bool}
theorem Fn {f:D->Option D}(r:∀{x d u},DU B g x u->f x=se d->UQ n d=tj->∃as,Reads H u (py d) as):∀{ds es:List D} {us:List Value},RB f ds=se es->ds.length=us.length->cE B g (ds.zip us)->Zt n es=tj->∃as,ReadsAll H us (pys es) as:=by intro ds;induction ds with| nil =>(rintro es us e l A _;cases e;cases us with| nil=>exact#[_,.nil]| cons _ _=>cases l)| cons d ds ih =>rintro es us e l A f;obtain⟨d',es,e1,e2,rfl⟩:=Rt.mp e;rw[xK,cI] at f;cases us with| nil=>cases l| cons u us =>obtain⟨as,ra⟩:=r (A (d,u) aO) e1 f.1;obtain⟨bs,rb⟩:=ih e2 (by simpa using l) (λw z=>A w (a7 _ z)) f.2;exact#[_,.cons ra rb]
theorem yZ (q:Hk B g h H):∀(m n:Nat) {x d:D} {u:Value},DU B g x u->fz h 0 m x=se d->UQ n d=tj->∃as,Reads H u (py d) as| 0,_,_,_,_,_,e,_=>by cases e| m+1,0,_,_,_,_,_,f=>by cases f| m+1,n+1,x,d,u,r,e,f=>by have ih:=@yZ q m n;(have lis:∀{ds us a} {c:Nat},H.get? a=se (Vt us c)->ds.length=us.length->cE B g (ds.zip us)->Uz (RB (fz h 0 m) ds) D.lst=se d->∃as,Reads H (.ref a) (py d) as:=λ{ds us a c} e1 l A e=>by obtain⟨es,e2,rfl⟩:=iE e;obtain⟨as,ra⟩:=Fn ih e2 l A f;exact#[_,.list e1 rfl rfl (by exact ra)]);cases r with| non=>cases e;exact#[_,.none]| bl=>cases e;exact#[_,.bool _]| int=>cases e;exact#[_,.int _ _]| str=>cases e;exact#[_,.str _ _]| fn=>cases e;cases f| lst e1 l z A=>exact lis (q.st _ _ (.inl e1)) l A e| tup e1 l z A =>obtain⟨es,e2,rfl⟩:=iE e;obtain⟨as,ra⟩:=Fn ih e2 l A f;obtain⟨o,e3,e4⟩:=e1;obtain⟨o,e5,c,nn,hd⟩:=e4 _ (q.st _ _ (.inl e3));exact#[_,.tuple e5 c hd (by exact ra)]| dic e1 nn kk l z A=>obtain⟨es,e2,rfl⟩:=iE e;cases f| at_ e0 =>replace e:(match eg h _ with| some (.ml ds)=>Uz (RB (fz h 0 m) ds) D.lst| _=>ng)=se d:=e;split at e;rename_i e1;rw[aW] at e1;(cases q.th _ _ _ e1 e0 with | ml r e1 l z A=>exact lis e1 l A e);cases e
theorem Fo (j:J X pins ρ h ((y,v)::(x,u)::ws) s)(q:(TK neg x y h).sat P E):∃d e as bs,Reads s.heap u (py d) as/\Reads s.heap v (py e) bs/\UQ 60 d=tj/\UQ 60 e=tj/\P (.bl (neg^^PyData.eqv (py d) (py e))) h:=by obtain⟨d,e1,q⟩:=q.o;obtain⟨e,e2,q⟩:=q.o;obtain⟨eb,q⟩:=q.i;obtain⟨b,e3,q⟩:=q.o;rw[cI] at eb;cases j with | mk g I p W =>obtain⟨as,ra⟩:=yZ I.hk 9 60 (W _ (a7 _ aO)) e1 eb.1;obtain⟨bs,rb⟩:=yZ I.hk 9 60 (W _ aO) e2 eb.2;exact#[d,e,as,bs,ra,rb,eb.1,eb.2,by rw[Jm _ e3];exact q]
instance [Y:Yx X k]:Vs X .Eq (TK ff):=#[λj q=>by obtain⟨d,e,as,bs,ra,rb,f1,f2,q⟩:=Fo j q;rw[lX] at q;exact SeqAt.compareEq_shaped ra rb (rA _ _ f1).shaped (rA _ _ f2).shaped (w7 Y.room) (j.tl.tl.gbl q)]
instance [Y:Yx X k]:Vs X .NotEq (TK tj):=#[λj q=>by obtain⟨d,e,as,bs,ra,rb,f1,f2,q⟩:=Fo j q;rw[v6] at q;exact SeqAt.compareNe_shaped ra rb (rA _ _ f1).shaped (rA _ _ f2).shaped (w7 Y.room) (j.tl.tl.gbl q)]
theorem oY (q:DU B g d u)(e:dk d=se kk):(RM P' w').is kk u=tj:=by cases q<;>first |(cases e;exact Hr _ _ _ _)|(cases e;exact Hs _ _ _ _)|cases e
theorem vK (kk:Ry)(l:ks.length=ds.length)(l2:ds.length=us.length):(lk kk ks ds=ng/\valueAt (ks.zip us) kk=ng)\/∃d u,lk kk ks ds=se d/\valueAt (ks.zip us) kk=se u/\(d,u)∈ds.zip us:=by refine yX (.inl #[rfl,rfl]) (λj ks d ds u us _ _ ih=>?_) l l2;rw[Jn,oE];by_cases z:j=kk;subst z;exact .inr #[d,u,by simp,by simp[valueAt],aO];rw[Q1 z];rcases ih with ⟨a,b⟩ | ⟨d',u',a,b,c⟩;exact .inl #[a,by simpa [valueAt,AA,z] using b];exact .inr #[d',u',a,by simpa [valueAt,AA,z] using b,a7 _ c]
noncomputable def ZF (v u:Value):Bool:=match u,v with| .none,.none=>tj| .bool a,.bool b=>a==b| .int a _,.int b _=>a==b| .str a _,.str b _=>a==b| _,_=>ff
inductive SV:V->Value->Prop
 | non:SV .non .none
 | bl {b:Bool}:SV (.bl b) (.bool b)
 | int {i:Int} {t:Tok}:SV (.int i) (.int i t)
 | str {x:Q7} {t:Tok}:SV (.str x) (.str x t)
theorem DU.sc (q:DU B g x v)(e:RX.ZZ x=se c):SV c v:=by cases q<;>first |(cases e;constructor)|cases e
theorem SV.eq {c y:V}(a:SV c v)(b:SV y u)(k:XG y=XG c):SeqAt.EqAt A s u v (ZF v u)/\ZF v u=vEq y c:=by(cases a<;>cases b<;>first |(simp[XG] at k)|skip);exact#[SeqAt.EqAt.same _,rfl];exact#[SeqAt.EqAt.bool_bool _ _,by simp only[ZF,vEq,bEq];grind];exact#[SeqAt.EqAt.int_int _ _ _ _,by simp only[ZF,vEq,kE];rfl];exact#[SeqAt.EqAt.str_str _ _ _ _,by simp only[ZF,vEq,mK];rfl]
theorem NA {A:Rg}{c:V}(q:SV c v):∀{ds:List D} {vs:List V} {us:List Value} {b:Bool},RB RX.ZZ ds=se vs->vIn c vs=se b->ds.length=us.length->cE B g (ds.zip us)->(∀u∈us,SeqAt.EqAt A s u v (ZF v u))/\us.any (ZF v)=b:=by intro ds;induction ds with| nil =>(intro vs us b e1 e2 l W;cases e1;cases e2;cases us with| nil=>exact#[λ_ z=>by simp at z,rfl]| cons _ _=>cases l)| cons d ds ih =>intro vs us b e1 e2 l W;obtain⟨y,ys,h1,h2,rfl⟩:=Rt.mp e1;replace e2:(bif bZ (XG y) (XG c) then Uz (vIn c ys) λr=>vEq y c||r else ng)=se b:=e2;cases hb:bZ (XG y) (XG c) with| false=>rw[hb] at e2;cases e2| true =>rw[hb] at e2;obtain⟨r,e3,rfl⟩:=iE e2;cases us with| nil=>cases l| cons u us =>obtain⟨k1,k2⟩:=ih h2 e3 (by simpa using l) λw z=>W w (a7 _ z);have one:=q.eq (A:=A) (s:=s) ((W (d,u) aO).sc h1) (mD hb);exact#[λw z=>(bj.mp z).elim (λe=>e▸one.1) (k1 w),by rw[wO,k2,one.2]]
theorem Fp (j:J X pins ρ h ((y,v)::(x,u)::ws) s)(q:(Xj neg x y h).sat P E):(∃a f kk,v=.ref a/\(a==Tw)=ff/\s.heap.MapOf (RM X.B.P X.B.w) a f/\(RM X.B.P X.B.w).is kk u=tj/\P (.bl (neg^^(f kk).isSome)) h)\/∃a us,v=.ref a/\(s.heap.IsTuple a us\/s.heap.IsList a us)/\(∀w∈us,SeqAt.EqAt A s w u (ZF u w))/\P (.bl (neg^^us.any (ZF u))) h:=by unfold Xj at q;split at q;rename_i p e1;obtain⟨kk,e2,q⟩:=q.o;obtain⟨_,_,r⟩:=j.at (a7 _ aO);obtain⟨kl,a,us,rfl,l,z,⟨ns,dd⟩,j⟩:=j.opD aO e1;refine .inl #[a,_,kk,rfl,ns,dd.mapOf,oY r e2,?_];rcases vK kk kl l with ⟨a,b⟩ | ⟨_,_,a,b,_⟩<;>rw[a] at q<;>rw[b]<;>exact q;obtain⟨c,e1,q⟩:=q.o;obtain⟨ds,e2,q⟩:=q.o;obtain⟨vs,e3,q⟩:=q.o;obtain⟨b,e4,q⟩:=q.o;obtain⟨a,us,rfl,l,z,f,j⟩:=j.opS aO e2;cases j with | mk g I p W =>obtain⟨k1,k2⟩:=NA ((W _ (dG _ (a7 _ aO))).sc e1) e3 e4 l λw z=>W w (c7 _ z);refine .inr #[a,us.toArray,rfl,?_,λw z=>k1 w (by simpa using z),by rw[show us.toArray.any (ZF u)=b by simpa using k2];exact q];cases ht:RQ y with| true=>rw[ht] at f;exact .inl f| false=>rw[ht] at f;obtain⟨n,f⟩:=f;exact .inr #[_,f,rfl,n,rfl]
instance:Vs X .In (Xj ff):=#[λj q=>by rcases Fp j q with ⟨a,f,kk,rfl,ns,mo,ik,q⟩ | ⟨a,us,rfl,hl | hl,he,q⟩<;>rw[lX] at q;exact wpAny_in_of ik ns mo ((j.tok _).tl.tl.gbl q);exact SeqAt.in_tupleAt _ hl he (j.tl.tl.gbl q);exact SeqAt.in_listAt _ hl he (j.tl.tl.gbl q)]
instance:Vs X .NotIn (Xj tj):=#[λj q=>by rcases Fp j q with ⟨a,f,kk,rfl,ns,mo,ik,q⟩ | ⟨a,us,rfl,hl | hl,he,q⟩<;>rw[v6] at q;exact wpAny_notIn_of ik ns mo ((j.tok _).tl.tl.gbl q);exact SeqAt.notIn_tupleAt _ hl he (j.tl.tl.gbl q);exact SeqAt.notIn_listAt _ hl he (j.tl.tl.gbl q)]
instance [Y:Yx X k]:Vs X .Eq gEqE:=#[λj q=>by obtain⟨⟨ks,ds⟩,e1,q⟩:=R.sat.o q;obtain⟨⟨ls,es⟩,e2,q⟩:=q.o;obtain⟨kl2,b,vs,rfl,l2,_,⟨n2,d2⟩,j⟩:=j.opD aO e2;obtain⟨kl,a,us,rfl,l,_,⟨n1,d1⟩,j⟩:=j.opD (dG _ (a7 _ aO)) e1;cases ls with| cons _ _=>exact q.elim| nil =>(have hz:(ks.zip us).length=ks.length:=by simp[kl,l]);refine PySem.W.keq_eq (r:=tj) n1 n2 d1 d2 (AM (hu1 Y.room)) (λe=>?_) (J.gbl (j.sub (by simp +contextual [or_imp])) ?_);rw[nZ.mp e];exact .nil;rw[hz];cases ks<;>exact q]
end
section
variable {X:Cz}{ρ:R4}{h:TH}{s:Q4}{pins:List (Q5×Sr)}{ws:WL}{d x y:D}{u:Value}{ds:List D}{us:List Value}{P:D->TH->Prop}{k i n:Nat}{m:Bool}{a b c e o:Ru}{es:List Ru}{pos:Ue}{fa fb:RE}{fA:RA}
theorem Fs (e:big l=tj):l.length<=sizeLine:=by unfold big at e;rw[dz,aV] at e;rwa [S6]
theorem NB (hA:QA X es fA):QE X (.Tuple es t pos) (TZ fA):=#[λz q=>wpAny_Tuple_spliced (Sd (hA.h z q.bnd) λus s1 #[ds,h1,l,z,q]=>by obtain⟨e,q⟩:=q.i;have zl:=l▸Fs e;exact#[zl,_,_,z.dat gY (λ_ _=>Heap.get?_push_of_some _) (Heap.get?_push_size _ rfl) (λg A r=>.tup #[_,r,λ_ e=>#[_,e,rfl,_,rfl]] l zl A) s1.toks,q])]
theorem NC (hA:QA X es fA):QE X (.List es pos) (Sj m fA):=#[λz q=>wpAny_List_spliced (Sd (hA.h z q.bnd) λus s1 #[ds,h1,l,z,q]=>by obtain⟨e,q⟩:=q.i;have zl:=l▸Fs e;exact#[zl,z.pushL l zl q s1.toks])]
theorem J.big (z:J X pins ρ h ws s):(s.heap.objs.size==Tw)=ff:=by obtain⟨_,I⟩:=z.inv;have h:=(I.ok.mod.glob.keeps I.bk).lt;exact beq_eq_false_iff_ne.mpr (Ne.symm (cF (uC Γ h)))
theorem ND:QE X (.Dict [] [] pos) (WG m):=#[λ{_ _ _ _ s _} z q=>wpAny_Dict_empty (J.mkD (us:=[]) z rfl rfl (iT _) gY (λ_ _=>Heap.get?_push_of_some _) z.big (Heap.DictOf.new s.heap) q s.toks)]
theorem NE (ha:QE X e fa):QE X e (rFz fa):=#[λz q=>Sd (ha.h z q.bnd) λu s1 #[_,_,z,q]=>by obtain⟨⟨i,ks,ds⟩,e,q⟩:=q.o;exact#[_,_,(z.frz aO e).sub (by simp +contextual),q]]
theorem J.item (j:J X pins ρ h (ds.zip us++ws) s)(l:ds.length=us.length)(e:ds[i]?=se d):∃u,us[i]?=se u/\J X pins ρ h ((d,u)::ws) s:=by have lt:=(aQ.mp e).1;have e2:us[i]?=se (us[i]'(l▸lt)):=aT _;refine#[_,e2,j.sub λw z=>?_];rcases bj.mp z with rfl | z;exact c7 _ (aK (i:=i) (by simp[bP,e,e2]));exact dG _ z
theorem NG {i:Int}(j:J X pins ρ h ws s)(hm:(x,u)∈ws)(e:eS h x=se ds)(e2:ZG ds i=se d):∃T id,s.TypeIs u T/\typeLookup (.type T) "__getitem__"=pure (se (.builtin id))/\∀{Q:Value->Q4->Prop} {t:Tok},(∀u',J X pins ρ h ((d,u')::ws) s->Q u' s)->X.wp (getItem u (.int i t)) Q s:=by obtain⟨a,us,rfl,l,z,f,j⟩:=j.opS hm e;obtain⟨k,e3,e4⟩:=Ck e2;obtain⟨h1,h2,h3,h4⟩:=Bl e3;obtain⟨u',e5,j⟩:=j.item l e4;rw[l] at h1 h2 h3 h4;have hn:=uK;rw[S6] at z;cases ht:RQ x with| true =>rw[ht] at f;exact#["tuple",_,f.typeIs,slot_tuple_getitem.lookup,λq=>getItem_tuple (j:=k) f (by lia) (by lia) (by exact gT▸h1) (by simpa using e5) (q _ j)]| false =>rw[ht] at f;obtain⟨n,f⟩:=f;have il:s.heap.IsList a us.toArray:=#[_,f,rfl,n,rfl];refine#["list",_,il.typeIs,slot_list_getitem.lookup,λ{Q t} q=>?_];by_cases h0:0<=i;rw[seqIndex_of h0 h4] at h1;exact wpAny_getItem_list il h0 (by lia) (by rw[dX h1];simpa using e5) (q _ j);rw[seqIndex_neg Β h3] at h1;exact wpAny_getItem_list_neg il Β (by exact h3) (by lia) (by rw[gT,dX h1];simpa using e5) (q _ j)
theorem RP.of (j:J X pins ρ h ((d,u)::ws') s)(p:P d h)(f:∀w∈ws,w∈ws'):RP X pins ρ ws P u s:=#[d,h,j.sub (by simp +contextual [f,or_imp]),p]
theorem NH (ha:QE X a fa)(hb:QE X b fb)(hs:HI b:=by exact λ_ _=>rfl):QE X (.Subscript a b pos) (Rk fa fb):=#[λ{pins ρ _ ws _ P} z q=>Subscript_ (Sd (ha.h z q.bnd) λu s1 #[x,_,z,q]=>Sd (hb.h z q.bnd) λv s2 #[y,h,z,q]=>by dsimp only at q;cases hd:Yi x h with| true =>(rw[hd] at q;obtain⟨⟨ks,ds⟩,e1,q⟩:=q.o;obtain⟨kk,e2,q⟩:=q.o;obtain⟨d,e3,q⟩:=q.o;obtain⟨_,_,r⟩:=z.at aO;obtain⟨kl,a,us,rfl,l,_,⟨ns,dd⟩,z⟩:=z.opD (a7 _ aO) e1;rcases vK kk kl l with ⟨y1,_⟩ | ⟨d',u',y1,y2,y3⟩;rw[e3] at y1;cases y1;rw[e3] at y1;cases y1;exact VR dd.typeIs F.slot_dict_getitem.lookup (wpAny_getItem_of (oY r e2) dd.mapOf y2 #[d,h,(z.tok _).sub (by simp +contextual [y3,or_imp]),q]) (hs _ _))| false =>rw[hd] at q;replace q:=q;unfold gIx at q;split at q;rename_i st i _ _ _;obtain⟨c,e1,q⟩:=q.o;obtain⟨e2,q⟩:=q.i;obtain⟨t,rfl⟩:=z.int;obtain⟨t',rfl⟩:=z.tl.str;obtain⟨k,e3,e4⟩:=Ck e1;obtain⟨h1,h2,h3,h4⟩:=Bl e3;rw[dz,aV] at e2;(have hl:st.cps.toList.length=st.length:=by simp[Str.length]);rw[hl] at h1 h3 h4 e2;exact VR (typeIs_str s2 st t') slot_str_getitem.lookup (getItem_str (by have e1:decide (i< -(2^63))=ff:=Q1 (by lia);have e2:decide (i≥2^63)=ff:=Q1 (by lia);rw[e1,e2,v5]) (by rw[h1];simpa using e4) (z.tl.tl.gstr q)) (hs _ _);obtain⟨ds,e1,q⟩:=q.o;obtain⟨d,e2,q⟩:=q.o;obtain⟨t,rfl⟩:=z.int;obtain⟨T,id,h1,h2,h3⟩:=NG z (a7 _ aO) e1 e2;exact VR h1 h2 (h3 λu' z=>RP.of z q (by simp +contextual)) (hs _ _);exact q.elim)]
end
section
variable {X:Cz}{B:Cb}{g:Gs}{H H':Rs}{ρ:R4}{h:TH}{s:Q4}{pins:List (Q5×Sr)}{ws:WL}{d x y:D}{u v:Value}{ds:List D}{us:List Value}{k i n:Nat}
theorem oZ (l:n+1=us.length):∃u r,us=u::r/\n=r.length:=by cases us with| nil=>cases l| cons u r=>exact#[u,r,rfl,kz l]
theorem one (l:[x].length=us.length)(j:J X pins ρ h ([x].zip us++ws) s):∃u,us=[u]/\J X pins ρ h ((x,u)::ws) s:=by obtain⟨u,rfl⟩:∃u,us=[u]:=Ae.mp l.symm;exact#[u,rfl,j]
theorem two (l:[x,y].length=us.length)(j:J X pins ρ h ([x,y].zip us++ws) s):∃u v,us=[u,v]/\J X pins ρ h ((y,v)::(x,u)::ws) s:=by obtain⟨u,r,rfl,l2⟩:=oZ l;obtain⟨v,r,rfl,l3⟩:=oZ l2;obtain rfl:=nZ.mp l3.symm;exact#[u,v,rfl,j.sub (by simp +contextual [or_imp])]
theorem J.hd (j:J X pins ρ h ws s)(Y:Yx X k):X.A.handled=none:=by obtain⟨_,I⟩:=j.inv;exact I.ok.hd Y.calm
theorem J.walked (j:J X pins ρ h ws s)(hk:∀b ob,b∉[s.heap.objs.size]->(s.heap.push o).get? b=se ob->H'.get? b=se ob)(t:Nat):J X pins ρ h ws { s with heap:=H',toks:=t} :=j.kept (λb ob e=>hk b ob (λz=>by have e2:=Heap.lt_size e;rw[cT.mp z] at e2;exact om _ e2) (Heap.get?_push_of_some _ e)) t
theorem Ft {f:D->Option β}{ns:List β}(e:RB f ds=se ns)(l:ds.length=us.length)(W:cE B g (ds.zip us))(h:us[i]?=se u):∃d n,ns[i]?=se n/\f d=se n/\DU B g d u:=by have hd:=aT (l.symm▸(aQ.mp h).1);obtain⟨n,hn,hf⟩:=(jx e).2 i _ hd;exact#[_,n,hn,hf,W (_,u) (aK (bP.mpr #[hd,h]))]
theorem y6 (e:RB X8 ds=se ns)(l:ds.length=us.length)(W:cE B g (ds.zip us))(h:us[i]?=se u):∃t,u=.int (ns.getD i 0) t:=by obtain⟨d,n,hn,f,q⟩:=Ft e l W h;rw[bR,hn];cases q<;>cases f;exact#[_,rfl]
theorem Fu (e:RB dBl ds=se ns)(l:ds.length=us.length)(W:cE B g (ds.zip us))(h:us[i]?=se u):u=.bool (ns.getD i ff):=by obtain⟨d,n,hn,f,q⟩:=Ft e l W h;rw[bR,hn];cases q<;>cases f;rfl
theorem Fv (e:H.get? a=se o):∀b ∈[H.objs.size,a],b<(H.push o').objs.size:=λb hb=>by have:=Heap.lt_size e;rw[Heap.size_push];simp only[bj,gM,or_false] at hb;lia
variable [Y:Yx X k]
instance:BOk X "len" R3:=#[_,Y.no _,PySem.boot_len,.inl #[_,rfl],λl j q=>by unfold R3 at q;have hn:=uK;split at q;rename_i x;obtain⟨u,rfl,j⟩:=one l j;obtain⟨t,rfl⟩:=j.str;obtain⟨e,q⟩:=q.i;rw[dz,aV] at e;(have hl:x.cps.toList.length=x.length:=by simp[Str.length]);rw[aV,hl] at q;rw[hl] at e;exact len_str (by lia) (j.tl.gint q);rename_i x _;obtain⟨u,rfl,j⟩:=one l j;split at q;rename_i p e1;obtain⟨kl,a,us,rfl,l',z,⟨ns,dd⟩,j⟩:=j.opD aO e1;rw[S6] at z;(have hz:(p.1.zip us).length=p.1.length:=by simp[kl,l']);refine call_len_dict ns dd (by lia) ?_;rw[hz];rw[aV] at q;exact(j.sub (by simp +contextual)).gint q;obtain⟨ds,e1,q⟩:=q.o;obtain⟨a,us,rfl,l',z,f,j⟩:=j.opS aO e1;rw[aV,l'] at q;rw[S6] at z;(cases ht:RQ x with| true=>rw[ht] at f;exact len_tuple f (by exact NAG.gl38 z) (by exact(j.sub (by simp +contextual)).gint q)| false=>rw[ht] at f;obtain⟨n,f⟩:=f;exact Calls.call_len_list #[_,f,rfl,n,rfl] (by exact NAG.gl38 z) (by exact(j.sub (by simp +contextual)).gint q));exact q.elim]
instance:BOk X "abs" Zs:=#[_,Y.no _,HQ,.inl #[_,rfl],λl j q=>by unfold Zs at q;split at q;rename_i i;obtain⟨u,rfl,j⟩:=one l j;obtain⟨t,rfl⟩:=j.int;rw[gO] at q;refine call_abs_int λu tk=>?_;rw[show(if i<0 then-i else i)=bif decide (i<0)then-i else i by by_cases z:i<0<;>simp[z]];exact j.tl.gint q;exact q.elim]
instance:BOk X "int" gInt:=#[_,Y.no _,HW,.inr #[_,rfl],λl j q=>by unfold gInt at q;split at q;rename_i b;obtain⟨u,rfl,j⟩:=one l j;cases j.bl;refine call_int_bool ?_;rw[show[Δ,b,(1:Int)]=bif b then 1 else 0 by cases b<;>rfl];exact j.tl.gint q;obtain⟨u,rfl,j⟩:=one l j;obtain⟨t,rfl⟩:=j.int;exact call_int_int #[_,_,j,q];exact q.elim]
instance:BOk X "any" (Yj Zi):=#[_,Y.no _,HU,.inl #[_,rfl],λ{_ _ _ _ s _ _ _} l j q=>by unfold Yj at q;split at q;obtain⟨ds,e1,q⟩:=q.o;obtain⟨bs,e2,q⟩:=q.o;obtain⟨u,rfl,j⟩:=one l j;obtain⟨a,us,rfl,l',z,⟨n,f⟩,j⟩:=j.opL aO e1;have il:s.heap.IsList a us.toArray:=#[_,f,rfl,n,rfl];refine call_any_walk (R5 il #[s.heap.objs.size,_,_,_,_,_,λi=>bs.getD i ff,rfl,Walks.list (uN (j.hd Y)) s.heap.objs.size a (cF (Heap.lt_size f)) _,#[#[_,Heap.get?_push_size _ rfl,rfl,rfl],il.push _],λi v s' Q' E' hv hq=>?_,λh' tk hk=>?_]);(cases j with | mk g I p W =>cases Fu (i:=i) (u:=v) e2 l' (λw z=>W w (c7 _ z)) (by simpa using hv);exact Se hq);rw[Cq,<-Ia] at q;have hz:=(jx e2).1;exact gT▸l'▸hz▸((j.walked hk tk).sub (by simp +contextual)).gbl q;exact q.elim]
instance:BOk X "all" (Yj ZM):=#[.builtin "all",Y.no _,by decide +kernel,.inl #[_,rfl],λ{_ _ _ _ s _ _ _} l j q=>by unfold Yj at q;split at q;obtain⟨ds,e1,q⟩:=q.o;obtain⟨bs,e2,q⟩:=q.o;obtain⟨u,rfl,j⟩:=one l j;obtain⟨a,us,rfl,l',z,⟨n,f⟩,j⟩:=j.opL aO e1;have il:s.heap.IsList a us.toArray:=#[_,f,rfl,n,rfl];refine call_all_walk (R5 il #[s.heap.objs.size,_,_,_,_,_,λi=>bs.getD i ff,rfl,Walks.list (uN (j.hd Y)) s.heap.objs.size a (cF (Heap.lt_size f)) _,#[#[_,Heap.get?_push_size _ rfl,rfl,rfl],il.push _],λi v s' Q' E' hv hq=>?_,λh' tk hk=>?_]);(cases j with | mk g I p W =>cases Fu (i:=i) (u:=v) e2 l' (λw z=>W w (c7 _ z)) (by simpa using hv);exact Se hq);rw[Jo,<-Jp] at q;have hz:=(jx e2).1;exact gT▸l'▸hz▸((j.walked hk tk).sub (by simp +contextual)).gbl q;exact q.elim]
instance:BOk X "sum" gSum:=#[_,Y.no _,HS,.inl #[_,rfl],λ{_ _ _ _ s _ _ _} l j q=>by unfold gSum at q;split at q;obtain⟨ds,e1,q⟩:=q.o;obtain⟨ns,e2,q⟩:=q.o;obtain⟨u,rfl,j⟩:=one l j;obtain⟨a,us,rfl,l',z,⟨n,f⟩,j⟩:=j.opL aO e1;have il:s.heap.IsList a us.toArray:=#[_,f,rfl,n,rfl];refine call_sum_walkG (R5 il #[s.heap.objs.size,_,_,_,_,_,λi=>ns.getD i 0,rfl,Walks.list (uN (j.hd Y)) s.heap.objs.size a (cF (Heap.lt_size f)) _,#[#[_,Heap.get?_push_size _ rfl,rfl,rfl],il.push _],Fv f,λi v hv=>?_,λh' tk t' hk=>?_]);(cases j with | mk g I p W =>exact y6 e2 l' (λw z=>W w (c7 _ z)) (by simpa using hv));rw[gT,<-l',<-(jx e2).1,Ib,<-xO];exact((j.walked hk s.toks).sub (by simp +contextual)).gint q;exact q.elim]
instance:BOk X "min" gMin:=#[_,Y.no _,HR,.inl #[_,rfl],λ{_ _ _ _ s _ _ _} l j q=>by unfold gMin at q;split at q;obtain⟨ds,e1,q⟩:=q.o;obtain⟨ns,e2,q⟩:=q.o;split at q;rename_i n0 ns;obtain⟨u,rfl,j⟩:=one l j;obtain⟨a,us,rfl,l',z,⟨n,f⟩,j⟩:=j.opL aO e1;have il:s.heap.IsList a us.toArray:=#[_,f,rfl,n,rfl];(have at_:∀i v,us[i]?=se v->∃t,v=Value.int ((n0::ns).getD i 0) t:=λi v hv=>by cases j with | mk g I p W=>exact y6 e2 l' (λw z=>W w (c7 _ z)) hv);(have hz:us.length=(n0::ns).length:=by rw[<-l',<-(jx e2).1]);refine call_min_walk (R5 il #[s.heap.objs.size,_,_,_,_,_,λi j=>decide ((n0::ns).getD i 0<(n0::ns).getD j 0),rfl,Walks.list (uN (j.hd Y)) s.heap.objs.size a (cF (Heap.lt_size f)) _,#[#[_,Heap.get?_push_size _ rfl,rfl,rfl],il.push _],Fv f,by rw[gT,hz];simp,λi j vi vj s' Q' E' hi hj hq=>?_,λv h' tk hv hk=>?_]);obtain⟨t1,rfl⟩:=at_ _ _ (by simpa using hi);obtain⟨t2,rfl⟩:=at_ _ _ (by simpa using hj);exact AS hq;rw[gT,hz] at hv;obtain⟨t,rfl⟩:=at_ _ _ ((List.getElem?_toArray ..).symm.trans hv);have hb:=argBest_lt (λi j=>decide ((n0::ns).getD i 0<(n0::ns).getD j 0)) ((n0::ns).length-1);obtain⟨h1,h2,h3⟩:=Cs ns n0;(have a1:(n0::ns).getD (argBest (λi j=>decide ((n0::ns).getD i 0<(n0::ns).getD j 0)) ((n0::ns).length-1)) 0=YE n0 ns:=by obtain⟨j,hj⟩:=bz h3;have:=Bq (n0::ns) ((n0::ns).length-1) j (by have:=(aQ.mp hj).1;exact AL this);rw[show(n0::ns).getD j 0=YE n0 ns by rw[bR,hj];rfl] at this;(have:(n0::ns).getD (argBest (λi j=>decide ((n0::ns).getD i 0<(n0::ns).getD j 0)) ((n0::ns).length-1)) 0∈n0::ns:=by rw[bR,aT (by simp only[fm] at hb ⊢;exact qZ hb)];exact jI _);grind);exact a1▸((j.walked hk tk).sub (by simp +contextual)).gint q;exact q.elim;rename_i a b;obtain⟨u,v,rfl,j⟩:=two l j;obtain⟨t,rfl⟩:=j.int;obtain⟨t',rfl⟩:=j.tl.int;rw[gO] at q;refine min_two_ints (j.hd Y) λh' tk k=>?_;by_cases z:b<a;rw[QY z];rw[QZ z] at q;exact(j.kept k tk).tl.tl.gint q;rw[QX z];rw[Q1 z] at q;exact(j.kept k tk).tl.tl.gint q;exact q.elim]
end
structure Ca (T:Bz)(A:Rg)(outer:List Env)(g:Gs)(h:TH)(s:Q4):Prop where
 frames:A.frames=se outer
 mod:Mod T.B.C.K T.mg T.base
 bs:∀b o,T.base.get? b=se o->g.G b=se (.dat o)
 hk:Hk T.B g h s.heap
 bare:AllBare s.gens
 nl:∀a,g.G a≠se .loc
 fr:∀env∈outer,env.scope.kind≠.module/\∃L o,env.frame=se L/\g.G L=se (.slo o)
inductive CE (B:Cb) (g:Gs) (s:Q4) (P:D->TH->Prop) (u:Value) (s':Q4):Prop
 | mk (d:D) (g':Gs) (h':TH) (os:s'.os=s.os) (br:AllBare s'.gens) (x:Gr g g') (hk:Hk B g' h' s'.heap) (q:DU B g' d u) (p:P d h')
def CR (T:Bz)(outer:List Env)(g:Gs)(s:Q4)(P:D->TH->Prop)(E:Nat->TH->Prop)(r:Result)(s':Q4):Prop:=match r with| .ok (.ret u)=>CE T.B g s P u s'| .ok _=>False| .error e=>T.ER outer g s E e s'
structure YL (T:Bz)(k:Nat)(f:Q5)(fd:R2)(ps:List Q7)(ev:List D->TH->RX.R D):Prop where
 len:∀{ds h P E},(ev ds h).sat P E->ds.length=ps.length
 run:∀{A outer g h s args P E} {us:List Value} {ds:List D},Sq k A->Ca T A outer g h s->BindsTo s fd args (ps.zip us)->ds.length=us.length->cE T.B g (ds.zip us)->(ev ds h).sat P E->U6 (Rf T.B.P T.B.w) A (.call (.ref f) args) (CR T outer g s P E) s
structure RDef (T:Bz)(x:Q7)(k:Nat)(ps:List Q7)(ev:List D->TH->RX.R D):Prop where
 is:∃(f:Q5) (fd:R2),YL T k f fd ps ev/\Binds T.B.C.K fd ps []/\T.mg x=se (.ref f)/\ii T.B.C.K (.ref f)=tj
structure RMet (T:Bz)(c:Nat)(m:Q7)(k:Nat)(ps:List Q7)(ev:List D->TH->RX.R D):Prop where
 is:∃(f:Q5) (fd:R2),YL T k f fd ps ev/\Binds T.B.C.K fd ps []/\Meth T.B.C.K (T.B.C.cl c) m f
 cl:Cls T.B.C.K (T.B.C.cl c)
structure RCls (T:Bz)(x:Q7)(c:Nat)(k:Nat)(ps:List Q7)(ev:List D->TH->RX.R D):Prop where
 is:∃(f:Q5) (fd:R2),YL T k f fd ps ev/\Binds T.B.C.K fd ps []/\Mk T.B.C.K (T.B.C.cl c) f
 mg:T.mg x=se (.ref (T.B.C.cl c))
structure SC (X:Cz)(x:Q7)(pos:Ue)(es:List Ru):Prop where
 g:NAG X x
 d:(x==("__debug__":Q7))=ff
 n:x≠"__name__"
 pl:(backTo pos (RD es X.env)).any (·.1)=ff
theorem f9 {M:Model}{A:Rg}{E:Value->Q4->Prop}{s:Q4}{f:Value}:∀{args:List (Bool×Sem Value)} {Q:Args->Q4->Prop},args.any (·.1)=ff->Rd M A (spliced args) (λvs s'=>Q #[vs,[]] s') E s->Rd M A (evalArgs f tj args []) Q E s| (ff,x)::rest,Q,_,h=>Calls.evalArgs_plain h| (tj,x)::rest,Q,e,h=>by simp at e| [],Q,_,h=>by exact Q3 (SU h (λvs s' h'=>Q3 (Q8 (Tg (Q3 (Q8 (Q3 (Q8 (Q8 h')))))))) λ_ _ x=>x)
theorem y7 {K:bw}(pl:args.any (·.1)=ff)(hk:ii K f=tj)(h:Rd M A (spliced args) (λvs s₁=>K.In s₁.heap/\Rd M A (call f (first++vs)) Q E s₁) E s):Rd M A (callWith pos f first args []) Q E s :=A1 (by rw[pl];rfl) (PySem.W.keeps_K hk) (f9 pl h)
section
variable {X:Cz}{k:Nat}[Y:Yx X k] {k' c n i:Nat}{e o a b:Ru}{es:List Ru}{x f:Q7}{p pos av aB:Ue}{fa fb:RE}{fA:RA}{ev:List D->TH->RX.R D}{ps:List Q7}{fr:Q5}{fd:R2}{ds:List D}{us:List Value}{P:D->TH->Prop}{pins:List (Q5×Sr)}{ρ:R4}{h:TH}{ws:WL}{s:Q4}{g:List D->TH->RX.R D}
omit Y in
theorem Iv.ca {g:Gs}(I:Iv X g ρ h s):Ca X.toBz X.A X.stack (g.hid s.heap X.env.locals) h s :=
 #[I.ok.frames,I.ok.mod,λb o e=>by rw[jd (by rw[I.bs b o e];simp),I.bs b o e],I.hk.hid I.nf,I.bare,λa z=>by
  by_cases n:g.G a=se .loc
  .obtain⟨o,e⟩:=I.hk.al a _ n;rw[ly n e] at z
   by_cases y:a=X.env.locals<;>simp[y] at z
  .rw[jd n] at z;exact n z,λenv he=>by
  obtain⟨k,L,f,r⟩:=I.ok.fr env he;refine#[k,L,?_];rcases r with rfl | ⟨o,r⟩
  .obtain⟨o,e⟩:=I.hk.al _ _ I.lf;exact#[o,f,by rw[ly I.lf e,QY rfl]]
  .have r:=I.kp _ _ r rfl;exact#[o,f,by rw[jd (by rw[r];simp),r]]]
omit Y in
theorem J.kIn (j:J X pins ρ h ws s):X.B.C.K.In s.heap:=let #[_,I]:=j.inv;I.kIn
def RR (X:Cz)(pins:List (Q5×Sr))(ρ:R4)(ws:WL)(P:D->TH->Prop)(r:Result)(s:Q4):Prop:=match r with| .ok (.ret u)=>RP X pins ρ ws P u s| .ok _=>False| .error e=>X.xe e s
include Y in
theorem Iv.ret {g:Gs}{r:Result}{s':Q4}(I:Iv X g ρ h s)(p:∀p∈pins,g.G p.1=se (.pin p.2))(W:cE X.B g ws)(hq:CR X.toBz X.stack (g.hid s.heap X.env.locals) s P X.E r s'):RR X pins ρ ws P r s':=by
 cases r with
 | error e=>exact Y.xp I hq
 | ok fl =>
  cases fl with
  | ret u =>
   obtain⟨d,g',h',os,br,x,hk,dq,p'⟩:=hq;obtain⟨I',gr⟩:=I.back x hk os br;have back:Le g' (g.back g'):=#[λa o z=>by
    rw[kO λy=>?_,z];obtain⟨o',e⟩:=I.hk.al a _ y;have:=x.f _ _ (ly y e) (.inl (by by_cases n:a=X.env.locals<;>simp[n,Ro.fix]))
    rw[z] at this
    by_cases n:a=X.env.locals<;>simp[n] at this,[],by simp[Gs.back]]
   exact#[d,h',#[_,I',λy z=>gr.f _ _ (p y z) (.inl rfl),oW (back.du dq) (gr.le.held W)],p']
  | next=>exact hq
  | brk=>exact hq
  | cont=>exact hq
include Y in
theorem Fw {A':Rg}(F:YL X.toBz k' fr fd ps ev)(hr:Sq k' A')(hf:A'.frames=X.A.frames)(hb:Binds X.B.C.K fd ps [])(j:J X pins ρ h (ds.zip us++ws) s)(l:ds.length=us.length)(q:(ev ds h).sat P X.E):U6 (Rf X.B.P X.B.w) A' (.call (.ref fr) #[us,[]]) (RR X pins ρ ws P) s:=by
 cases j with | mk g I p W =>
 have hl:(us++[]).length=ps.length:=by rw[mw,<-l];exact F.len q
 have ca:=I.ca;exact Ta (F.run hr #[hf.trans ca.frames,ca.mod,ca.bs,ca.hk,ca.bare,ca.nl,ca.fr] (by simpa using hb s us I.kIn hl) l (Le.hid.held λw z=>W w (c7 _ z)) q) λr s' hq=>I.ret p (λw z=>W w (dG _ z)) hq
include Y in
theorem Fx (F:YL X.toBz k' fr fd ps ev)(hr:Sq k' X.A)(hb:Binds X.B.C.K fd ps [])(j:J X pins ρ h (ds.zip us++ws) s)(l:ds.length=us.length)(q:(ev ds h).sat P X.E):X.wp (call (.ref fr) us) (RP X pins ρ ws P) s :=
 wpAny_call (Ta (Fw F hr rfl hb j l q) λr s' hq=>by
  cases r with
  | error e=>exact hq
  | ok fl=>cases fl<;>exact hq)
include Y
theorem NI (ha:QA X es fA)(F:RDef X.toBz x k' ps ev:=by assumption)(hk:bQ k' k=tj:=by rfl)(h:SC X x pos es:=by exact⟨rfl,by decide,by decide,rfl⟩):QE X (.Call (.Name x p) es [] pos) (RW ev fA):=#[λz q=>by obtain⟨f,fd,F,hb,hm,kp⟩:=F.is;exact Re (yV z h.g hm (y7 h.pl kp (Sd (ha.h z q.bnd) λus s1 #[ds,h1,l,z,q]=>#[z.kIn,Fx F (Y.room.mono (oi hk)) hb z l q])) h.d)]
theorem q_b [B:BOk X x g] (ha:QA X es fA)(h:SC X x pos es:=by exact⟨rfl,by decide,by decide,rfl⟩):QE X (.Call (.Name x p) es [] pos) (RW g fA):=#[λz q=>by obtain⟨v,h1,h2,h3,h4⟩:=B.ex;refine Re (iu z h.g h1 h2 ?_ h.n h.d);rcases h3 with ⟨i,rfl⟩ | ⟨i,rfl⟩;exact Calls.callWith_builtin h.pl (f9 h.pl (Sd (ha.h z q.bnd) λus s1 #[ds,h1,l,z,q]=>h4 l z q));exact i9 h.pl (f9 h.pl (Sd (ha.h z q.bnd) λus s1 #[ds,h1,l,z,q]=>h4 l z q))]
omit Y
inductive OI (X:Cz) (pins:List (Q5×Sr)) (ρ:R4) (h:TH) (ws:WL) (s:Q4) (c i:Nat) (x:D) (ds:List D) (u:Value):Prop
 | mk (a dx:Q5) (us:List Value) (ex:x=.at i) (e:u=.ref a) (eh:h[i]?=se (.mi c ds)) (l:ds.length=us.length) (z:us.length<=(X.B.C.nm c).length) (f:Y0 s.heap a dx (X.B.C.cl c) λf=>((X.B.C.nm c).zip us).lookup f) (j:J X pins ρ h (ds.zip us++ws) s)
theorem J.opI {x:D}(j:J X pins ρ h ws s)(hm:(x,u)∈ws)(e:ZH c h x=se (i,ds)):OI X pins ρ h ws s c i x ds u:=by unfold ZH at e;split at e;split at e;rename_i c' ds' e1;rw[aW] at e1;(cases hb:bZ c' c with| false=>rw[hb] at e;cases e| true =>rw[hb] at e;cases e;cases mD hb;cases j with | mk g I p W =>cases W _ hm with | at_ e0 =>cases I.hk.th _ _ _ e1 e0 with | mi r r' e l z A=>exact#[_,_,_,rfl,rfl,e1,l,z,e,g,I,p,jE A W]);cases e;cases e
theorem handed {g:Gs}(q:DU B g d u):A5 u=tj:=by cases q<;>rfl
theorem Fy:∀{N:List Q7} {f:Q7} {n:Nat} {us:List Value},ZE N f n=tj->(N.zip us).lookup f=us[n]?| g::N,f,0,us,h=>by cases us<;>simp[show g=f from beq_iff_eq.mp h]| g::N,f,n+1,[],h=>by simp| g::N,f,n+1,u::us,h=>by obtain⟨h1,h2⟩:=nW.mp h;(have:(f==g)=ff:=by simp at h1;simpa using Ne.symm h1);rw[iB,pN,this];exact Fy h2
theorem y8:∀{N:List Q7} {f:Q7} {us:List Value},N.contains f=ff->(N.zip us).lookup f=ng| [],_,_,_=>by simp| _::_,_,[],_=>by simp| g::N,f,y::xs,h=>by rw[List.contains_cons,Bool.or_eq_false_iff] at h;rw[iB,pN,h.1];exact y8 h.2
include Y
theorem NJ (he:QE X a fa)(hf:ZE (X.B.C.nm c) f n=tj:=by rfl)(hb:attributeBase a f X.env (SB a X.env)=SB a X.env:=by rfl):QE X (.Attribute a f pos) (RL c n fa):=#[λz q=>Hz hb (Sd (he.h z q.bnd) λu s1 #[x,h,z,q0]=>by obtain⟨⟨i,ds⟩,e1,q1⟩:=q0.o;obtain⟨d,e2,q⟩:=q1.o;rw[aW] at e2;obtain⟨a,dx,us,rfl,rfl,eh,l,zz,O,z⟩:=z.opI aO e1;obtain⟨v,e3,z⟩:=z.item l e2;obtain⟨_,_,dq⟩:=z.at aO;have F:=Y.fld c f (xQ hf);exact Hv z.kIn O (F.cl.get f) F.cl.hd F.no (by rw[Fy hf];exact e3) (handed dq) (RP.of (z.tok _) q (by simp +contextual)))]
theorem NK (he:QE X o fa)(ha:QA X es fA)(F:RMet X.toBz c x k' ps ev:=by assumption)(hk:bQ k' k=tj:=by rfl)(hm:(X.B.C.nm c).contains x=ff:=by rfl)(pl:(backTo pos (RD es X.env)).any (·.1)=ff:=by rfl)
  (ht:SB (.Call (.Attribute o x av) es [] pos) X.env=(do
   let ov <-SB o X.env
   standAt av.atName
   let (f,first) <-holding [ov] (getMethod ov x (do return (<-importBound o X.env).getD tj))
   callWith pos f first (backTo pos (RD es X.env)) (backToKw pos (keywordEach [] X.env))):=by rfl):QE X (.Call (.Attribute o x av) es [] pos) (Rv c ev fa fA):=#[λz q=>by
 obtain⟨f,fd,G,hb,hmt⟩:=F.is;refine PySem.W.methodCall_KW (Sd (he.h z q.bnd) λu s1 #[xv,h,z,q]=>?_) ht;obtain⟨⟨i,ds⟩,e1,q1⟩:=q.o;obtain⟨a,dx,us,rfl,rfl,eh,l,zz,O,_⟩:=z.opI aO e1;exact Hw z.kIn O (F.cl.get x) hmt.at_ hmt.fn (y8 hm) (y7 pl hmt.kp (Sd (ha.h z q1.bnd) λus s1 #[ds,h1,l,z,q]=>#[z.kIn,Fx G (Y.room.mono (oi hk)) hb (z.sub (by simp +contextual [or_imp])) (by simp[l]) q]))]
theorem NL (ha:QA X es fA)(F:RCls X.toBz x c k' ps ev:=by assumption)(hk:bQ (k'+1) k=tj:=by rfl)(h:SC X x pos es:=by exact⟨rfl,by decide,by decide,rfl⟩):QE X (.Call (.Name x p) es [] pos) (RW (XQ c ev) fA):=#[λ{_ _ _ ws _ _} z q=>by obtain⟨f,fd,F1,hb,M⟩:=F.is;have hr:=Y.room.mono (oi hk);refine Re (yV z h.g F.mg (y7 h.pl M.kp (Sd (ha.h z q.bnd) λus s1 #[ds,h1,l,z,q]=>#[z.kIn,?_])) h.d);have e1:(s1.heap.push pX).get? s1.heap.objs.size=se pX:=Heap.get?_push_size s1.heap rfl;(have e2:=by have:=Heap.get?_push_size (s1.heap.push pX) (o:=uH (X.B.C.cl c) s1.heap.objs.size) rfl;rwa [Heap.size_push] at this);have e3:(s1.heap.push pX).Ns s1.heap.objs.size (λ_=>ng):=#[pX,([].toArray),_,e1,rfl,(λe he=>absurd he (by simp)),λ_=>rfl];have z2:=J.mut (ws':=[]) (tm:=.mi c []) z [s1.heap.objs.size+1,s1.heap.objs.size] (λb hb=>Heap.get?_none_of_le (by simp at hb;lia)) (λb o e=>Heap.get?_push_of_some _ (Heap.get?_push_of_some _ e)) (by simpa using #[#[_,e2],_,Heap.get?_push_of_some _ e1]) (λg _ r=>.mi (us:=[]) (r _ (by simp)) (r _ (by simp)) #[e2,by simpa using (Heap.Ns1.of_empty e3).at λo q=>Heap.get?_push_of_some _ q,cF (ky _)] rfl (iT _) (λ_ z=>by simp at z)) s1.toks;replace q:((ev (.at (hn h1)::ds) (hp h1 (.mi c []))).nox.bnd _).sat _ _:=q;rw[show hn h1=h1.length from aV h1,show hp h1 (.mi c [])=h1++[.mi c []]from gN _ _] at q;refine wpAny_call (Hy (f:=f) z.kIn M.makes M.init (beq_iff_eq.mp M.fn) (Ta (Fw F1 (hr.make _ us []) (by first |rfl|simp[Around.under,Code.envs,Code.isFrame,pushEnvs]) hb (ws:=(.at h1.length,.ref (s1.heap.objs.size+1))::ws) (z2.sub (by simp +contextual [or_imp])) (by simp[l]) q.bnd.unx) λr s' hq=>?_));cases r with| error e=>exact hq| ok fl =>cases fl with| ret u =>(obtain⟨d,h',z,q⟩:=hq;cases d with| non=>exact#[z.non,_,_,z.tl,q]| _=>exact q.elim)| next=>exact hq| brk=>exact hq| cont=>exact hq]
omit Y
theorem FB:∀{N:List Q7} {f:Q7} {n:Nat} {us:List Value} {v:Value},ZE N f n=tj->n<=us.length->∀g,(N.zip (if n<us.length then us.set n v else us++[v])).lookup g=if g=f then se v else(N.zip us).lookup g| g0::N,f,0,us,v,h,l,g=>by cases show g0=f from beq_iff_eq.mp h;by_cases e:g=g0;subst e;cases us<;>simp;have e1:=beq_eq_false_iff_ne.mpr e;cases us<;>simp[pN,e1,e]| g0::N,f,n+1,[],v,h,l,g=>by simp at l| g0::N,f,n+1,u::us,v,h,l,g=>by obtain⟨h1,h2⟩:=nW.mp h;have ih:=FB (v:=v) h2 (by simpa using l) g;(have n1:=by simpa using h1);by_cases e:g=g0;subst e;by_cases y:n<us.length<;>simp[y,n1];by_cases y:n<us.length<;>simp only[y,fm,Nat.succ_lt_succ_iff,if_true,if_false,pL,oa,iB,pN,beq_eq_false_iff_ne.mpr e] at ih ⊢<;>exact ih
theorem J.setI {a:Q5}(j:J X pins ρ h ws s)(hm:(.at i,.ref a)∈ws)(eh:h[i]?=se (.mi c ds))(O:Y0 s.heap a dx (X.B.C.cl c) mA)(sb:Heap.SameBut dx s.heap H')(e:Y0 H' a dx (X.B.C.cl c) λf=>((X.B.C.nm c).zip us').lookup f)(l:ds'.length=us'.length)(zz:us'.length<=(X.B.C.nm c).length)(sub:∀w∈ds'.zip us',w∈ws) :J X pins ρ (hs h i (.mi c ds')) ws { s with heap:=H',toks:=t}:=by rw[show hs h i (.mi c ds')=h.set i (.mi c ds')from eW _ _ _];cases j with | mk g I p W =>cases W _ hm with | at_ e0 =>cases I.hk.th _ _ _ eh e0 with | @mi _ _ us0 dx0 r r' O' _ _ _ =>(obtain rfl:dx=dx0:=by have z:=dX (O.obj.symm.trans O'.obj);exact dX (congrArg Obj.dict z));obtain⟨o1,_,_,h1,_⟩:=id e.ns;refine J.via I p .refl (I.hk.set (λb o z e=>(sb.2 b (by rintro rfl;exact z r')).trans e) (λb z=>?_) λa' e1=>?_) (λb o z e=>(sb.2 b (by rintro rfl;rw[r'] at z;cases z)).trans e) W t;by_cases n:b=dx;subst n;exact#[o1,h1];obtain⟨o,e⟩:=I.hk.al b _ z;exact#[o,(sb.2 b n).trans e];rw[e0] at e1;cases e1;exact .mi r r' e l zz λw q=>W w (sub w q)
include Y
theorem NM (hv:QE X e fb)(ha:QE X o fa)(hf:ZE (X.B.C.nm c) f n=tj:=by rfl)(hN:bQ (X.B.C.nm c).length 99=tj:=by rfl)(hs:U9 e (se (.Attribute o f aB)) pos.line X.env=pure ff:=by rfl):QS X (.Assign [.Attribute o f aB] e pos) (X2 c n fa fb):=#[λz q=>plainObj_wpAny_Assign_Attribute (Sd (hv.h z q.bnd) λv s1 #[y,h1,z,q]=>Sd (ha.h z q.bnd) λu s2 #[x,h2,z,q0]=>by obtain⟨⟨i,ds⟩,e1,q1⟩:=q0.o;obtain⟨eb,q⟩:=q1.i;rw[dz,aV] at eb;obtain⟨a,dx,us,rfl,rfl,eh,l,zz,O,z⟩:=z.opI aO e1;have F:=Y.fld c f (xQ hf);have hN:=oi hN;refine Hx z.kIn O F.cl.sa F.cl.po F.no.taker F.cl.hd (ns:=X.B.C.nm c) (λy hy=>?_) (by rw[S6];lia) λh' O' sb=>?_;refine kn.mp ?_;(cases e:(X.B.C.nm c).contains y with| true=>rfl| false=>exact absurd (y8 e) hy);have lu:=l.symm;refine#[_,_,(z.setI (ds':=if n<us.length then ds.set n y else ds++[y]) (us':=if n<us.length then us.set n v else us++[v]) (dG _ aO) eh O sb ?_ ?_ ?_ ?_).sub (by simp +contextual),?_];exact#[O'.obj,by simpa only[FB hf (show n<=us.length by exact lu▸eb)] using O'.ns,O'.ne];split<;>simp[l];have:=(CA hf).1;have:=(aQ.mp this).1;split;simpa using zz;simp;lia;intro w hw;split at hw;obtain⟨i',iw⟩:=bz hw;rw[bP,qW,qW] at iw;by_cases e:n=i';grind;rw[QX e,QX e] at iw;exact c7 _ (aK (by rw[bP];exact iw));rw[mB l] at hw;simp at hw;grind;(have e5:(bif bH n (Sn ds)then Yf ds n y else Ze ds [y])=if n<us.length then ds.set n y else ds++[y]:=by rw[aV,eW,gN,lu];by_cases w:n<ds.length;rw[QY w,cD.mpr w];rfl;rw[QX w,show bH n ds.length=ff from e9.mpr λz=>w (cD.mp z)];rfl);exact e5▸q) hs]
end
noncomputable def Gs.trunc (g:Gs) (H:Rs) (n:Nat):Gs:=#[λb=>match g.G b with| some (.own i)=>if i<n then se (.own i)else(H.get? b).map .dat| r=>r,g.ι.take n]
section
variable {B:Cb}{g:Gs}{H:Rs}{h h0:TH}{n:Nat}{a b:Q5}{r:Ro}{o:Sr}{i:Nat}{d e:D}{u:Value}{ds:List D}{us:List Value}
theorem qE (e:g.G b=se r)(z:∀i,r≠.own i):(g.trunc H n).G b=se r:=by unfold Gs.trunc;dsimp only;split;rename_i i e1;rw[e] at e1;cases e1;exact absurd rfl (z i);exact e
theorem o3 (e:g.G b=se (.own i))(z:i<n):(g.trunc H n).G b=se (.own i):=by unfold Gs.trunc;dsimp only;rw[e];exact QY z
theorem FC (e:g.G b=se (.own i))(z:¬i<n)(e1:H.get? b=se o):(g.trunc H n).G b=se (.dat o):=by unfold Gs.trunc;dsimp only;rw[e];dsimp only;rw[QX z,e1];rfl
theorem sw (f:Fz g a φ):Fz (g.trunc H n) a φ:=by obtain⟨o,e,q⟩:=f;exact#[o,qE e (by simp),q]
theorem sx {f:D->Option D}{g':Gs}(r:∀{x d u},DU B g x u->f x=se d->DU B g' d u){ds es:List D}(e:RB f ds=se es)(l:ds.length=us.length)(A:cE B g (ds.zip us)):es.length=us.length/\cE B g' (es.zip us):=by obtain⟨l1,k⟩:=jx e;refine#[by rw[l1,l],λw z=>?_];obtain⟨i,hi⟩:=bz z;rw[bP] at hi;(have lt:i<ds.length:=by exact l1▸(aQ.mp hi.1).1);obtain⟨y,h1,h2⟩:=k i ds[i] (aT lt);rw[hi.1] at h1;cases h1;exact r (A (ds[i],w.2) (aK (i:=i) (by rw[bP];exact#[aT lt,hi.2]))) h2
theorem FD (q:Hk B g h H):∀(m:Nat) {d e:D} {u:Value},DU B g d u->fz h n m d=se e->DU B (g.trunc H n) e u:=by intro m;induction m with| zero =>rintro _ _ _ _ e;cases e| succ m ih =>rintro d e u r z;have ih:=@ih;cases r with| non=>cases z;exact .non| bl=>cases z;exact .bl| int=>cases z;exact .int| str=>cases z;exact .str| fn f=>cases z;exact .fn (sw f)| lst f l zz A =>obtain⟨es,e1,rfl⟩:=iE z;obtain⟨l2,A2⟩:=sx ih e1 l A;exact .lst (qE f (by simp)) l2 zz A2| tup f l zz A =>obtain⟨es,e1,rfl⟩:=iE z;obtain⟨l2,A2⟩:=sx ih e1 l A;exact .tup (sw f) l2 zz A2| dic f nn k l zz A =>obtain⟨es,e1,rfl⟩:=iE z;obtain⟨l2,A2⟩:=sx ih e1 l A;exact .dic (sw f) nn (by rw[k,l,l2]) l2 zz A2| @at_ i a e0 =>replace z:(bif bH i n then se (D.at i) else match eg h i with| some (.ml ds)=>Uz (RB (fz h n m) ds) D.lst| _=>ng)=se e:=z;cases hb:bH i n with| true =>rw[hb] at z;cases z;exact .at_ (by show(g.ι.take n)[i]?=_;rwa [qT (cD.mp hb)])| false =>rw[hb] at z;(have ge:¬i<n:=λy=>by rw[cD.mpr y] at hb;cases hb);replace z:(match eg h i with| some (.ml ds)=>Uz (RB (fz h n m) ds) D.lst| _=>ng)=se e:=z;split at z;rename_i ds e1;rw[aW] at e1;obtain⟨es,e2,rfl⟩:=iE z;(cases q.th _ _ _ e1 e0 with | ml r e3 l zz A =>obtain⟨l2,A2⟩:=sx ih e2 l A;exact .lst (FC r ge e3) l2 zz A2);cases z
theorem Hk.trunc (q:Hk B g h H)(e:RB (fzo h n) (etk n h)=se h0):Hk B (g.trunc H n) h0 H:=by obtain⟨l,k⟩:=jx e;rw[rz] at l k;(have l0:h0.length=min n h.length:=by rw[l,i8]);(have cs:∀{b r},(g.trunc H n).G b=se r->(g.G b=se r/\∀i,r=.own i->i<n)\/∃o,r=.dat o/\H.get? b=se o:=λ{b r} z=>by cases e1:g.G b with| none=>unfold Gs.trunc at z;dsimp only at z;rw[e1] at z;cases z| some r0 =>cases r0 with| own i =>by_cases y:i<n;rw[o3 e1 y] at z;cases z;exact .inl #[rfl,λj e=>by cases e;exact y];obtain⟨o,e2⟩:=q.al b _ e1;rw[FC e1 y e2] at z;cases z;exact .inr #[o,rfl,e2]| _=>rw[qE e1 (by simp)] at z;cases z;exact .inl #[rfl,λj e=>by cases e]);refine#[λa o z=>?_,λa o z=>?_,λa r z=>?_,by simp[Gs.trunc,l0,q.len],λi t' a e1 e2=>?_,λj z=>?_];rcases z with z | z<;>rcases cs z with ⟨y,_⟩ | ⟨o',y,e1⟩;exact q.st a o (.inl y);cases y;exact e1;exact q.st a o (.inr y);cases y;rcases cs z with ⟨y,_⟩ | ⟨o',y,e1⟩;exact q.sl a o y;cases y;rcases cs z with ⟨y,_⟩ | ⟨o',y,e1⟩;exact q.al a r y;exact#[o',e1];(have lt:i<min n h.length:=by exact l0▸(aQ.mp e1).1);(have lt':i<h.length:=by lia);(have lt:i<n:=by lia);obtain⟨t,e3⟩:∃t,h[i]?=se t:=#[_,aT lt'];obtain⟨y,h1,h2⟩:=k i t (by rwa [qT lt]);rw[e1] at h1;cases h1;replace e2:(g.ι.take n)[i]?=se a:=e2;rw[qT lt] at e2;have all:=λ{ds es:List D} {us:List Value}=>@sx B g us (fz h n 9) (g.trunc H n) (FD q 9) ds es;(cases q.th _ _ _ e3 e2 with| ml r e l z A=>obtain⟨es,e4,rfl⟩:=iE h2;obtain⟨l2,A2⟩:=all e4 l A;exact .ml (o3 r lt) e l2 z A2| mr f l z A=>cases h2;exact .mr (qE f (by simp)) l z A| md r e nn kk l z A=>obtain⟨es,e4,rfl⟩:=iE h2;obtain⟨l2,A2⟩:=all e4 l A;exact .md (o3 r lt) e nn (by rw[kk,l,l2]) l2 z A2| mi r r' e l z A=>obtain⟨es,e4,rfl⟩:=iE h2;obtain⟨l2,A2⟩:=all e4 l A;exact .mi (o3 r lt) (o3 r' lt) e l2 z A2| mx r e=>cases h2;exact .mx (o3 r lt) e| mf r e f=>cases h2;exact .mf (o3 r lt) e (sw f)| no=>cases h2;exact .no);obtain⟨⟨j',r⟩,ps,e1,q1,q2⟩:=q.tb j z;exact#[#[j',qE r (by simp)],ps,e1,q1,λpos c z=>by obtain⟨c',e,f⟩:=q2 pos c z;exact#[c',e,sw f]]
inductive Fin (P:D->TH->Prop) (h:TH) (v:D) (h':TH):Prop
 | same (p:P v h')
 | cut (n:Nat) (v':D) (h0:TH) (l:h.length<=n) (l':h.length<=h'.length->n<=h'.length) (e:RB (fzo h' n) (etk n h')=se h0) (e2:fz h' n 9 v=se v') (p:P v' h0)
noncomputable def val:Fl->D| .nx _=>.non| .rt v=>v
theorem y9 {P:D->TH->Prop}{h h':TH}{v:D}{n:Nat}(l:h.length<=n)(l':h.length<=h'.length->n<=h'.length)(q:(RX.trunc n v h').sat P E):Fin P h v h':=by unfold RX.trunc at q;cases z:bZ (Sn h') n with| true=>rw[z] at q;exact .same q| false =>rw[z] at q;obtain⟨h0,e1,q⟩:=R.sat.o q;obtain⟨v0,e2,q⟩:=q.o;exact .cut n v0 h0 l l' e1 e2 q
def qF (E:Nat->TH->Prop)(n c:Nat)(h':TH):Prop:=E c h'\/∃h0,RB (fzo h' n) (etk n h')=se h0/\E c h0
theorem NN {keep:Bool}{n j:Nat}{f:RS}{ds:List D}{h:TH}{P:D->TH->Prop}(q:(Sy keep n j f ds h).sat P E):ds.length=n/\(f (Vn ds j) h).sat (λx h'=>Fin P h (val x) h') (qF E h.length):=by obtain⟨eb,q⟩:=R.sat.i q;refine#[by rw[<-aV];exact mD eb,?_];(have fin:∀{v h'},(bif keep then R.ok v h' else RX.trunc (Sn h) v h').sat P E->Fin P h v h':=λ{v h'} q=>by cases keep with| true=>exact .same q| false=>rw[show Sn h=h.length from aV h] at q;exact y9 (bE _) (λz=>z) q);split at q;rename_i e;exact e▸fin q;rename_i e;exact e▸fin q;rename_i c h' e;rw[e];(cases keep with| true=>exact .inl q| false =>replace q:(Zx (Sn h) c h').sat P E:=q;unfold Zx at q;rw[aV,aV] at q;cases z:bZ h'.length h.length with| true=>rw[z] at q;exact .inl q| false=>rw[z] at q;obtain⟨h0,e1,q⟩:=R.sat.o q;exact .inr #[h0,e1,q]);exact q.elim
theorem NO {m n j:Nat}{f:RS}{ds:List D}{h:TH}{P:D->TH->Prop}(q:(fnK m n j f ds h).sat P E):ds.length=n/\(f (Vn ds j) h).sat (λx h'=>Fin P h (val x) h') (qF E h.length):=by obtain⟨eb,q⟩:=R.sat.i q;refine#[by rw[<-aV];exact mD eb,?_];split at q;rename_i e;rw[e];obtain⟨e1,q⟩:=R.sat.i q;rw[dz,aV,aV] at e1;rw[aV] at q;exact y9 (ku _ _) (λ_=>e1) q;rename_i e;rw[e];obtain⟨e1,q⟩:=R.sat.i q;rw[dz,aV,aV] at e1;rw[aV] at q;exact y9 (ku _ _) (λ_=>e1) q;exact q.elim
end
noncomputable def X9 (T:Bz) (N:List Q7) (qual:Q7) (scope:U2) (f:Q5) (cd:Value) (A:Rg) (outer:List Env) (g:Gs) (h:TH) (s:Q4) (E:Nat->TH->Prop):Cz where
 toBz:=T
 A:=A.deeper (envOfC qual scope s.heap.objs.size f cd)
 N:=N
 g₀:=g
 s₀:=s
 env:=envOfC qual scope s.heap.objs.size f cd
 outer:=outer
 stack:=envOfC qual scope s.heap.objs.size f cd::outer
 fn:=λ_=>tj
 calm:=tj
 E:=qF E g.ι.length
 xe:=λe s'=>Rd (Rf T.B.P T.B.w) (A.deeper (envOfC qual scope s.heap.objs.size f cd)) (leaving (envOfC qual scope s.heap.objs.size f cd) e) (λ_ s''=>T.ER outer g s E e s'') (λe' s''=>T.ER outer g s E e' s'') s'
theorem NP {j i:Nat}(e:(Vn ds j)[i]?=se (se d)):ds[i]?=se d:=by rw[Cu,Ai] at e;split at e;rw[bo,jM] at e;obtain⟨d',e1,e2⟩:=e;rw[e1,dX e2];rw[mj] at e;split at e<;>cases e
section
variable {T:Bz}{N ps:List Q7}{qual:Q7}{scope:U2}{f:Q5}{cd:Value}{A:Rg}{outer:List Env}{g:Gs}{h:TH}{s s1:Q4}{E:Nat->TH->Prop}{ds:List D}{us:List Value}{j k:Nat}{P:D->TH->Prop}
theorem Iv.start (S:TI N ps scope)(hd:A.handled=ng)(ca:Ca T A outer g h s)(l:ds.length=us.length)(lp:ds.length=ps.length)(hL:N.length=ps.length+j)(W:cE T.B g (ds.zip us)) (x:InCallC s s.heap.objs.size (bindL (envOfC qual scope s.heap.objs.size f cd).kindOf (ps.zip us) λ_=>ng) (cellsFrom (s.heap.objs.size+1) scope.names []) (bindC (envOfC qual scope s.heap.objs.size f cd).kindOf (ps.zip us) λ_=>ng) s1) :∃g1,Iv (X9 T N qual scope f cd A outer g h s E) g1 (Vn ds j) h s1/\Gr g g1:=by obtain⟨h1,tk,rfl,hk⟩:=x.done;have ns:=x.toInCall.ns;let own:=λa=>a=s.heap.objs.size\/∃y,(cellsFrom (s.heap.objs.size+1) scope.names []).lookup y=se a;have nw:∀a,own a->g.G a=none:=λa z=>ca.hk.fresh (by refine Heap.get?_none_of_le ?_;rcases z with rfl | ⟨y,z⟩;exact bE _;exact eI (x.above y a (mG z)));(have al:∀a,own a->∃o,h1.get? a=se o:=λa z=>by rcases z with rfl | ⟨y,z⟩;obtain⟨o,_,_,e,_⟩:=ns;exact#[o,e];obtain⟨o,e,_⟩:=x.cell y a z;exact#[o,e]);have dec:∀a,Decidable (own a):=λa=>Classical.propDecidable _;let g1:Gs:=#[λa=>if own a then se .loc else g.G a,g.ι];have o1:∀a,own a->g1.G a=se .loc:=λa z=>QY z;have old:∀a r,g.G a=se r->g1.G a=se r:=λa r z=>(QX λy=>by rw[nw a y] at z;cases z).trans z;(have cs:∀a r,g1.G a=se r->g.G a=se r\/(own a/\r=.loc):=λa r z=>by by_cases y:own a;rw[o1 a y] at z;cases z;exact .inr #[y,rfl];exact .inl ((QX y).symm.trans z));have gr:Gr g g1:=#[λa r z _=>old a r z,[],by simp[g1]];(have hq:=by refine ca.hk.go gr.le rfl (λb r z _=>#[old b r z,λo=>hk b o]) (λa o z=>?_) (λa o z=>?_) λa r z=>?_;rcases z with z | z<;>rcases cs _ _ z with y | ⟨_,y⟩;exact hk _ _ (ca.hk.st a o (.inl y));cases y;exact hk _ _ (ca.hk.st a o (.inr y));cases y;rcases cs _ _ z with y | ⟨_,y⟩;obtain⟨n,sl,e⟩:=ca.hk.sl a o y;exact#[n,sl,hk _ _ e];cases y;rcases cs _ _ z with y | ⟨y,_⟩;obtain⟨o,e⟩:=ca.hk.al a r y;exact#[o,hk _ _ e];exact al a y);refine#[g1,#[#[ca.mod,S.kind,rfl,rfl,λy z c h1 h2=>name_of_addr x.apart (mG h1) (mG h2),λy hy=>?_,λ_=>hd,Around.frames_deeper ca.frames,λenv he=>?_],rfl,ca.bare,hq,λb o e=>old _ _ (ca.bs b o e),λa r z _=>old a r z,#[[],by simp[g1,X9]],o1 _ (.inl rfl),#[_,ns,λi y d e1 e2 e3=>?_],λy c e=>#[#[_,x.cell y c e],.inl (o1 _ (.inr #[y,e]))],?_],gr];rcases hy with hy | hy;exact Bi hy;exact absurd rfl (S.nofree _ (mG hy));rcases bj.mp he with rfl | he;exact#[by show scope.kind≠_;rw[S.kind];decide,_,rfl,.inl rfl];obtain⟨k,L,o,f,r⟩:=ca.fr env he;exact#[k,L,f,.inr #[o,r]];have ed:=NP e2;have lt:=(aQ.mp ed).1;have eu:us[i]?=se (us[i]'(l▸lt)):=aT _;(have hp:ps[i]?=se y:=by rw[<-S.pre,qT (by rwa [<-lp])];exact e1);(have ndP:=by exact S.pre▸S.nd.sublist (Aq _ _));refine#[_,gr.le.du (W (d,us[i]'(l▸lt)) (aK (by rw[bP];exact#[ed,eu]))),?_];rcases S.par y (aK hp)with k | k;exact .inl #[k,Bf ndP hp eu k];obtain⟨c,e⟩:=Bi k;refine .inr #[.inl k,c,e,?_];have q:=x.cell y c e;rw[Bh ndP hp eu (by show scope.names.lookup y≠_;rw[k];decide)] at q;exact q;rw[Cu];show _=N.length;simp[hL,lp]
theorem Fin.ce (ca:Ca T A outer g h s)(os:s'.os=s.os)(br:AllBare s'.gens)(x:Gr g g')(hk:Hk T.B g' h' s'.heap)(q:DU T.B g' v u)(p:Fin P h v h'):CE T.B g s P u s':=by cases p with| same p=>exact#[v,g',h',os,br,x,hk,q,p]| cut n v' h0 l l' e e2 p =>obtain⟨m,em⟩:=x.i;have e1:=ca.hk.len;refine#[v',g'.trunc s'.heap n,h0,os,br,#[λa r z f=>qE (x.f a r z f) (by rintro i rfl;rcases f with f | f<;>cases f),m.take (n-g.ι.length),?_],hk.trunc e,FD hk 9 q e2,p];show g'.ι.take n=_;rw[em,Au,dP Β]
theorem FE {dV kV cq pm cdv ct oc:Value}(lk:T.B.C.K.lookup f=se #[oc,od,.func (im name qual params body scope dV kV cq pm an cdv ct),dO])(hcd:kA T.B.C.K cdv qual=tj)(S:TI N ps scope)(hL:N.length=ps.length+j) (nz:∀{ds h P E},(ev ds h).sat P E->ds.length=ps.length/\(fs (Vn ds j) h).sat (λx h'=>Fin P h (val x) h') (qF E h.length)) (hb:∀A outer g h s E,Sq k (A.deeper (envOfC qual scope s.heap.objs.size f cdv))->QB (X9 T N qual scope f cdv A outer g h s E) body fs):YL T (k+1) f (im name qual params body scope dV kV cq pm an cdv ct) ps ev:=by refine#[λq=>(nz q).1,λ{A outer g h s args P E us ds} hr ca hbd l W q=>?_];obtain⟨lp,q⟩:=nz q;rw[<-ca.hk.len] at q;have bk:=λb o e=>ca.hk.st b o (.inl (ca.bs b o e));have KX:=ca.mod.kin.keeps bk;have m9:=ca.mod.nolimit.keeps bk;(have kc:∀y∈ps.zip us,scope.names.lookup y.1=se .local\/(scope.names.lookup y.1=se .cell/\((cellsFrom (s.heap.objs.size+1) scope.names []).lookup y.1).isSome=tj):=λ#[n,v] hy=>by rcases S.par n (bY hy).1 with q | q;exact .inl q;exact .inr #[q,wV _ _ _ (.inl q)]);refine codeAny_call_function hr.depth (KX _ _ lk) rfl S.co S.gen rfl (PySem.W.codeRec_of KX hcd) (hbd _ _ _ _ ?_);refine Vc S.kind kc λenv he s1 x=>?_;subst he;refine#[m9.keeps x.toInCall.keep,codeAny_func ?_];obtain⟨g1,I,gr⟩:=Iv.start S hr.hd ca l lp hL W x;refine SU ((hb A outer g h s E (hr.deeper _)).h (pins:=[]) (ws:=[]) #[g1,I,λ_ z=>by simp at z,λ_ z=>by simp at z] q) (λfl s' hs=>?_) λe s' hs=>hs;have gr:∀{g' ρ h'},Iv (X9 T N qual scope f cdv A outer g h s E) g' ρ h' s'->Gr g g':=λI'=>#[λa r z y=>I'.kp a r z (y.elim id λy=>absurd z (y▸ca.nl a)),I'.ip];cases fl with| ret u =>obtain⟨d,ρ,h',⟨g',I',_,W'⟩,p⟩:=hs;exact p.ce ca I'.os I'.bare (gr I') I'.hk (W' _ aO)| next =>obtain⟨ρ,h',⟨g',I',_,_⟩,p⟩:=hs;exact p.ce ca I'.os I'.bare (gr I') I'.hk .non| brk=>exact False.elim hs| cont=>exact False.elim hs
end
structure QG (X:Cz)(tg:Ru)(fg:RG):Prop where
 h:∀{pins ρ ρ' h ws s d u},J X pins ρ h ((d,u)::ws) s->fg d ρ=se ρ'->X.wp (assign tg X.env u) (λ_ s'=>J X pins ρ' h ws s') s
def GO (n:Nat)(fg:RG):Prop:=∀d ρ ρ',fg d ρ=se ρ'->ρ'.length=ρ.length/\∀i,n<=i->ρ'[i]?=ρ[i]?
structure ZO (X:Cz)(pins:List (Q5×Sr))(a:Q5):Prop where
 f:∀r,X.g₀.G a=se r->r.fix=ff
 p:∀p∈pins,p.1≠a
 c:∀x c,X.env.cells.lookup x=se c->c≠a
structure Wk (B:Cb)(tg:Ru)(it:Q5)(nx:Nx)(S:Nat->List (Q5×Sr)->Prop)(wi:WL):Prop where
 step:∀{X:Cz} {i:Nat} {fp pins ρ h ws s o},X.B=B->X.calm=tj->S i fp->(∀p∈fp,ZO X pins p.1)->J X (pins++fp) ρ h (wi++ws) s->nx h i=se o->∀{E},Rd (Rf B.P B.w) X.A (pyNext (.ref it)) (λr s1=>match o with
  | none=>r=ng/\J X pins ρ h (wi++ws) s1
  | some d=>∃u,r=se u/\Rd (Rf B.P B.w) X.A (SF tg (.ref it) u) (λ_ s2=>∃cZ,S (i+1) cZ/\cZ.map (·.1)=fp.map (·.1)/\J X (pins++cZ) ρ h ((d,u)::(wi++ws)) s2) E s1) E s
 self:∀{A:Rg} {i fp s Q E},S i fp->(∀p∈fp,s.heap.get? p.1=se p.2)->Q (.ref it) s->Rd (Rf B.P B.w) A (pyIter (.ref it)) Q E s
inductive IR (X:Cz) (pins:List (Q5×Sr)) (ρ:R4) (ws:WL) (tg:Ru) (P:Nx->TH->Prop) (itv:Value) (s:Q4):Prop
 | mk (it:Q5) (nx:Nx) (h:TH) (S:Nat->List (Q5×Sr)->Prop) (wi:WL) (fp:List (Q5×Sr)) (e:itv=.ref it) (w:Wk X.B tg it nx S wi) (s0:S 0 fp) (ow:∀p∈fp,ZO X pins p.1) (j:J X (pins++fp) ρ h (wi++ws) s) (p:P nx h)
structure QI (X:Cz)(tg e:Ru)(f:RI):Prop where
 h:∀{pins ρ h ws s P},J X pins ρ h ws s->(f ρ h).sat P X.E->X.wp (SB e X.env) (λv s1=>X.wp (pyIter v) (IR X pins ρ ws tg P) s1) s
section
variable {X:Cz}{k:Nat}[Y:Yx X k] {m:Bool}{a b c e o tg iter:Ru}{es:List Ru}{x y:Q7}{pos p q px py pz:Ue}{fT:RT}{i j n l kt:Nat}{st:SD}{body:List SD}{fs:RS}{fg:RG}{fi:RI}{pins fp cZ:List (Q5×Sr)}{ρ:R4}{h:TH}{ws:WL}{s:Q4}{d:D}{u:Value}{H':Rs}{it:Q5}{ob ob':Sr}{t:Nat}
omit Y
theorem fB (Y:Yx X k)(hi:X.N[i]?=se x:=by rfl)(hx:Loc X.env.scope x:=by first | exact Or.inl rfl | exact rd rfl)(hf:X.fn x=tj\/X.env.scope.names.lookup x=se .local:=by first | exact .inl rfl | exact .inr rfl):QG X (.Name x pos) (rN i):=#[λz e=>by cases e;exact wpAny_assign_Name (z.store Y.nd hi hx hf λ_ z=>by rw[eW];exact z)]
theorem FF (Y:Yx X k)(ht:∀d ρ ρ',fg d ρ=se ρ'->∃ds,d=.tup ds/\ds.length=(assignEach es X.env).length/\∀{pins h ws s} {us:List Value},ds.length=us.length->J X pins ρ h (ds.zip us++ws) s->X.wp (assignInOrder ((assignEach es X.env).map (·.2)) us) (λ_ s'=>J X pins ρ' h ws s') s) (pn:(assignEach es X.env).findIdx? (·.1)=none:=by rfl):QG X (.Tuple es kt pos) fg:=#[λ{pins ρ ρ' h ws s d u} z e=>by obtain⟨ds,rfl,hl,hg⟩:=ht _ _ _ e;obtain⟨a,us,rfl,l,zz,f,z⟩:=z.opS aO rfl;exact assign_Tuple_tuple (z.hd Y) f (by simp[<-hl,l]) pn λh' hx=>hg l ((z.kept (λb o e=>hx b o (cF (Heap.lt_size e)) e) s.toks).sub (by simp +contextual [or_imp]))]
theorem sC (Y:Yx X k)(h1:QG X (.Name x px) (rN i))(h2:QG X (.Name y py) (rN j)):QG X (.Tuple [.Name x px,.Name y py] kt pos) (WH i j):=FF Y λd ρ ρ' e=>by unfold WH at e;split at e;cases e;refine#[_,rfl,rfl,λ{pins h ws s us} l z=>?_];obtain⟨u1,r,rfl,l2⟩:=oZ l;obtain⟨u2,r,rfl,l3⟩:=oZ l2;exact Sa (Sd (h1.h z rfl) λ_ _ z=>Sa (Sd (h2.h z rfl) λ_ _ z=>VF z));cases e
theorem FG (Y:Yx X k)(h1:QG X (.Name x px) (rN i))(h2:QG X (.Name y py) (rN j))(h3:QG X (.Name zz pz) (rN l)):QG X (.Tuple [.Name x px,.Name y py,.Name zz pz] kt pos) (rN3 i j l):=FF Y λd ρ ρ' e=>by unfold rN3 at e;split at e;cases e;refine#[_,rfl,rfl,λ{pins h ws s us} l z=>?_];obtain⟨u1,r,rfl,l2⟩:=oZ l;obtain⟨u2,r,rfl,l3⟩:=oZ l2;obtain⟨u3,r,rfl,l4⟩:=oZ l3;exact Sa (Sd (h1.h z rfl) λ_ _ z=>Sa (Sd (h2.h z rfl) λ_ _ z=>Sa (Sd (h3.h z rfl) λ_ _ z=>VF z)));cases e
theorem vL (h:i<n):GO n (rN i):=λd ρ ρ' e=>by cases e;rw[eW];grind
theorem vM (h1:i<n)(h2:j<n):GO n (WH i j):=λd ρ ρ' e=>by unfold WH at e;split at e;cases e;simp only[eW];grind;cases e
theorem NQ (h1:i<n)(h2:j<n)(h3:l<n):GO n (rN3 i j l):=λd ρ ρ' e=>by unfold rN3 at e;split at e;cases e;simp only[eW];grind;cases e
theorem J.unp (j:J X (pins++fp) ρ h ws s):J X pins ρ h ws s:=by cases j with | mk g I p W=>exact#[g,I,λy z=>p y (c7 _ z),W]
theorem J.turns0 (j:J X (pins++fp) ρ h ws s)(ow:∀p∈fp,ZO X pins p.1)(k:∀b o,(∀p∈fp,b≠p.1)->s.heap.get? b=se o->H'.get? b=se o)(cZ:List (Q5×Sr))(e:∀p∈cZ,(∃o,(p.1,o)∈fp)/\H'.get? p.1=se p.2)(t:Nat):∃g',Iv X g' ρ h { s with heap:=H',toks:=t}/\(∀y∈pins++cZ,g'.G y.1=se (.pin y.2))/\cE X.B g' ws/\∀b,s.heap.get? b=ng->g'.G b=none:=by classical cases j with | mk g I p W =>let my:=λb=>∃o,(b,o)∈fp;have pg:∀{b},my b->∃o,g.G b=se (.pin o):=λ{b} #[o,z]=>#[o,p (b,o) (dG _ z)];have nk:∀{b},¬my b->∀o,s.heap.get? b=se o->H'.get? b=se o:=λ{b} z o=>k b o λq hq e=>z #[q.2,by exact e▸hq];let g':Gs:=#[λb=>if my b then(if∃o,(b,o)∈cZ then(H'.get? b).map .pin else ng)else g.G b,g.ι];have o1:∀{b},¬my b->g'.G b=g.G b:=λz=>QX z;(have o2:∀{b r},my b->g'.G b=se r->∃o,r=.pin o/\H'.get? b=se o:=λ{b r} z y=>by replace y:(if my b then(if∃o,(b,o)∈cZ then(H'.get? b).map Ro.pin else ng)else g.G b)=se r:=y;rw[QY z] at y;split at y;(cases e1:H'.get? b with| none=>rw[e1] at y;cases y| some o=>rw[e1] at y;cases y;exact#[o,rfl,rfl]);cases y);(have np:∀{b r},g.G b=se r->(∀o,r≠.pin o)->¬my b:=λ{b r} z n y=>by obtain⟨o,e⟩:=pg y;rw[z] at e;cases e;exact n o rfl);(have hk:Hk X.B g' h H':=by refine I.hk.go #[λa o z=>by rw[o1 (np z (by simp)),z],[],by simp[g']] rfl (λb r z y=>?_) (λa o z=>?_) (λa o z=>?_) λa r z=>?_;have n:=np z (by obtain⟨i,y | y⟩:=y<;>subst y<;>simp);exact#[by rw[o1 n,z],nk n];(all_goals by_cases n:my a);rcases z with z | z<;>obtain⟨o',e1,e2⟩:=o2 n z<;>cases e1;exact e2;rw[o1 n] at z;exact nk n _ (I.hk.st a o z);obtain⟨o',e1,e2⟩:=o2 n z;cases e1;rw[o1 n] at z;obtain⟨m,sl,e1⟩:=I.hk.sl a o z;exact#[m,sl,nk n _ e1];obtain⟨o',e1,e2⟩:=o2 n z;exact#[o',e2];rw[o1 n] at z;obtain⟨o,e1⟩:=I.hk.al a r z;exact#[o,nk n _ e1]);(have keep:∀{b r},g.G b=se r->¬my b->g'.G b=se r:=λz n=>by rw[o1 n,z]);have le:Le g g':=#[λa o z=>keep z (np z (by simp)),[],by simp[g']];(have fx:∀a r,X.g₀.G a=se r->r.fix=tj->¬my a:=λa r z f #[o,y]=>by have:=(ow _ y).f r z;rw[f] at this;cases this);have cn:∀{y c},X.env.cells.lookup y=se c->¬my c:=λ{y c} e #[o,z]=>(ow _ z).c y c e rfl;have cl:∀{y c},X.env.cells.lookup y=se c->∀{v},s.heap.IsCell c v->H'.IsCell c v:=λ{y c} e {v} #[o,ho,hd]=>#[o,nk (cn e) _ ho,hd];refine#[g',#[I.ok,I.os,I.bare,hk,λb o e=>le.d _ _ (I.bs b o e),λa r z f=>keep (I.kp a r z f) (fx a r z f),I.ip,keep I.lf (np I.lf (by simp)),?_,λy c e=>?_,I.len],λy z=>?_,le.held W,λb e=>?_];obtain⟨m,⟨o,es,ep,ho,r⟩,hl⟩:=I.lc;refine#[m,#[o,es,ep,nk (np I.lf (by simp)) _ ho,r],λi y d e1 e2 e3=>?_];obtain⟨u,dq,l⟩:=hl i y d e1 e2 e3;refine#[u,le.du dq,?_];rcases l with l | ⟨kk,c,e,z⟩;exact .inl l;exact .inr #[kk,c,e,cl e z];obtain⟨⟨v,z⟩,r⟩:=I.ce y c e;refine#[#[v,cl e z],?_];rcases r with r | ⟨⟨o,r⟩,f⟩;exact .inl (keep r (cn e));exact .inr #[#[o,keep r (cn e)],f];rcases c8.mp z with z | z;exact keep (p y (c7 _ z)) λ#[o,w]=>(ow _ w).p y z rfl;obtain⟨⟨o,w⟩,e1⟩:=e y z;show(if my y.1 then(if∃o,(y.1,o)∈cZ then(H'.get? y.1).map Ro.pin else ng)else g.G y.1)=_;rw[QY #[o,w],QY #[y.2,z],e1];rfl;have n:=I.hk.fresh e;(have z:¬my b:=λy=>by obtain⟨o,e⟩:=pg y;rw[n] at e;cases e);rw[o1 z,n]
theorem J.turns (j:J X (pins++fp) ρ h ws s)(ow:∀p∈fp,ZO X pins p.1)(k:∀b o,(∀p∈fp,b≠p.1)->s.heap.get? b=se o->H'.get? b=se o)(cZ:List (Q5×Sr))(e:∀p∈cZ,(∃o,(p.1,o)∈fp)/\H'.get? p.1=se p.2)(t:Nat):J X (pins++cZ) ρ h ws { s with heap:=H',toks:=t} :=let #[g,I,p,W,_]:=j.turns0 ow k cZ e t;#[g,I,p,W]
theorem J.turnT {ds:List D}{us:List Value}(j:J X (pins++fp) ρ h (ds.zip us++ws) s)(ow:∀p∈fp,ZO X pins p.1)(k:∀b o,(∀p∈fp,b≠p.1)->s.heap.get? b=se o->H'.get? b=se o)(cZ:List (Q5×Sr))(e:∀p∈cZ,(∃o,(p.1,o)∈fp)/\H'.get? p.1=se p.2)(n:s.heap.get? T=ng)(eT:H'.get? T=se { cls:=.type "tuple",data:=.seq us.toArray})(l:ds.length=us.length)(zz:us.length<=sizeLine)(t:Nat):J X (pins++cZ) ρ h ((.tup ds,.ref T)::ws) { s with heap:=H',toks:=t}:=by obtain⟨g,I,p,W,f⟩:=j.turns0 ow k cZ e t;have x:=Gr.upd (r:=se (.dat { cls:=.type "tuple",data:=.seq us.toArray})) (f T n);exact J.via (t:=t) I p x (I.hk.role (λr z=>by rw[f T n] at z;cases z) _ (λ_ _ _ e=>e) λr z=>#[_,eT,λo' y=>by cases z;rcases y with y | y<;>cases y;rfl,λo' y=>by cases z;cases y]) (λ_ _ _ e=>e) (oW (.tup #[_,Gs.upd_same,λ_ e=>#[_,e,rfl,_,rfl]] l zz (x.le.held λw z=>W w (c7 _ z))) (x.le.held λw z=>W w (dG _ z)))
theorem J.turn (j:J X (pins++[(it,ob)]) ρ h ws s)(ow:ZO X pins it)(k:∀b o,b≠it->s.heap.get? b=se o->H'.get? b=se o)(e:H'.get? it=se ob')(t:Nat):J X (pins++[(it,ob')]) ρ h ws { s with heap:=H',toks:=t} :=j.turns (by simpa using ow) (λb o z=>k b o (by simpa using z)) _ (by simpa using e) t
theorem J.drop (j:J X (pins++[(it,ob)]) ρ h ws s)(ow:ZO X pins it)(k:∀b o,b≠it->s.heap.get? b=se o->H'.get? b=se o)(t:Nat):J X pins ρ h ws { s with heap:=H',toks:=t}:=by simpa using j.turns (by simpa using ow) (λb o z=>k b o (by simpa using z)) [] (by simp) t
theorem J.pin (j:J X pins ρ h ws s)(k:∀b o,s.heap.get? b=se o->H'.get? b=se o)(fp:List (Q5×Sr))(n:∀p∈fp,s.heap.get? p.1=ng/\H'.get? p.1=se p.2)(t:Nat):J X (pins++fp) ρ h ws { s with heap:=H',toks:=t}/\∀p∈fp,ZO X pins p.1:=by classical cases j with | mk g I p W =>have nw:=λy z=>I.hk.fresh (n y z).1;let my:=λb=>∃o,(b,o)∈fp;let g':Gs:=#[λb=>if my b then(H'.get? b).map .pin else g.G b,g.ι];have o1:∀{b},¬my b->g'.G b=g.G b:=λz=>QX z;have o2:∀{b},my b->∃o,H'.get? b=se o/\g'.G b=se (.pin o):=λ{b} #[o,z]=>#[o,(n _ z).2,by show(if my b then(H'.get? b).map Ro.pin else g.G b)=_;rw[QY #[o,z],(n _ z).2];rfl];have old:∀{b r},g.G b=se r->g'.G b=se r:=λ{b r} z=>(o1 λ#[o,y]=>by rw[nw _ y] at z;cases z).trans z;have gr:Gr g g':=#[λa r z _=>old z,[],by simp[g']];(have hk:=by refine(I.hk.kept k).go gr.le rfl (λb r z _=>#[old z,λ_ e=>e]) (λa o z=>?_) (λa o z=>?_) λa r z=>?_;(all_goals by_cases y:my a);obtain⟨o',e1,e2⟩:=o2 y;rw[e2] at z;rcases z with z | z<;>cases z;exact e1;rw[o1 y] at z;exact k _ _ (I.hk.st a o z);obtain⟨o',e1,e2⟩:=o2 y;rw[e2] at z;cases z;rw[o1 y] at z;obtain⟨m,sl,e⟩:=I.hk.sl a o z;exact#[m,sl,k _ _ e];obtain⟨o',e1,_⟩:=o2 y;exact#[o',e1];rw[o1 y] at z;obtain⟨o,e⟩:=I.hk.al a r z;exact#[o,k _ _ e]);refine#[#[g',I.go gr hk (λb o _=>k b o) t,λy z=>?_,gr.le.held W],λy z=>#[λr e=>?_,λq hq e=>?_,λx c e e2=>?_]];rcases c8.mp z with z | z;exact old (p y z);obtain⟨o,e1,e2⟩:=o2 #[y.2,z];rw[(n y z).2] at e1;cases e1;exact e2;(cases f:r.fix with| false=>rfl| true=>have:=I.kp _ _ e f;rw[nw y z] at this;cases this);have:=p q hq;rw[e,nw y z] at this;cases this;obtain⟨⟨v,o,ho,_⟩,_⟩:=I.ce x c e;rw[e2,(n y z).1] at ho;cases ho
variable [Y:Yx X k]
include Y
theorem FH (hc:QT X c fT)(hb:QB X body fs){m:Nat}(z:J X pins ρ h ws s)(q:(Y8 fT fs m ρ h).sat P X.E):X.wp (exec (.While c body [] pos) X.env) (SR X pins ws P) s:=by refine wpAny_While (codeAny_whileLoop (λn s'=>∃ ρ h,J X pins ρ h ws s'/\(Y8 fT fs n ρ h).sat P X.E) ?_ m #[ρ,h,z,q]);rintro n s1 ⟨ρ1,h1,z1,q1⟩;cases n with| zero=>exact q1.elim| succ n =>refine SE Y.po (Sd (hc.h z1 q1.bnd) λb s2 #[h2,z2,q2]=>?_);cases b with| true =>(refine SE Y.po (Sd (hb.h z2 q2.bnd) λf s3 t=>?_);cases f with| next=>obtain⟨ρ3,h3,z3,q3⟩:=t;exact#[n,ky _,ρ3,h3,z3,q3]| ret v=>exact t| brk=>exact t.elim| cont=>exact t.elim)| false =>exact UT #[_,_,z2,q2]
theorem NR (hc:QT X c fT)(hb:QB X body fs):QS X (.While c body [] pos) (UE w fT fs):=#[λz q=>by unfold UE at q;split at q;exact FH hc hb z q;split at q;exact FH hc hb z q;exact q.elim]
theorem zb (hi:QI X tg iter fi)(hg:Yx X k->QG X tg fg)(hb:QB X body fs)(hs:∀x,foldedSetIterable iter X.env x=pure x:=by intro _;rfl):QS X (.For tg iter body [] pos) (S8 fi fg fs):=#[λ{pins ρ _ ws _ P} z q=>by refine wpAny_For (Sd (hi.h z q.bnd) λv s1 h1=>Sd h1 λitv s2 #[it,nx,h2,S,wi,fp,e,w,s0,ow,j,q]=>?_) hs;subst e;refine codeAny_forLoop_any (λm s'=>∃i cZ ρ h,cZ.map (·.1)=fp.map (·.1)/\S i cZ/\J X (pins++cZ) ρ h (wi++ws) s'/\(rGo nx fg fs m i ρ h).sat P X.E) ?_ 1000 #[0,fp,ρ,h2,rfl,s0,j,q];rintro m s3 ⟨i,fp3,ρ3,h3,e3,S3,j3,q3⟩;cases m with| zero=>exact q3.elim| succ m =>rw[xP] at q3;(have ow3:∀p∈fp3,ZO X pins p.1:=λp hp=>by have:=e3▸aU.mpr #[p,hp,rfl];obtain⟨p',dJ,e'⟩:=aU.mp this;exact e'▸ow p' dJ);split at q3;rename_i e2;refine SE Y.po (Sd (w.step rfl Y.calm S3 ow3 j3 e2) λr s4 #[hr,j4]=>?_);subst hr;exact UT #[_,_,j4.sub (by simp +contextual),q3];rename_i d e2;obtain⟨ρ1,e4,q4⟩:=q3.o;refine SE Y.po (Sd (w.step rfl Y.calm S3 ow3 j3 e2) λr s4 #[u,hr,h4]=>?_);subst hr;refine SE Y.po (Sd h4 λ_ s5 #[fp5,S5,e5,j5]=>?_);refine SE Y.po (Sd ((hg Y).h j5 e4) λ_ s6 j6=>?_);refine SE Y.po (Sd (hb.h j6 q4.bnd) λf s7 t=>?_);(cases f with| next=>obtain⟨ρ7,h7,z7,q7⟩:=t;exact#[m,ky _,i+1,fp5,ρ7,h7,e5.trans e3,S5,z7,q7]| ret v=>obtain⟨d,ρ7,h7,z7,q7⟩:=t;exact#[d,ρ7,h7,z7.unp.sub (by simp +contextual [or_imp]),q7]| brk=>exact t.elim| cont=>exact t.elim);exact q3.elim]
end
theorem FI {H:Rs}{l:List Q5}(z:∀b∈l,∃o,H.get? b=se o):(V7 l H).map (·.1)=l:=by induction l with| nil=>rfl| cons b l ih =>obtain⟨o,e⟩:=z b aO;unfold V7 at ih ⊢;rw[qU,e];simp only[uF,be];rw[ih λb hb=>z b (a7 _ hb)]
abbrev At (as:List Q5)(S:Nat->Rs->Prop)(i:Nat)(fp:List (Q5×Sr)):Prop:=fp.map (·.1)=as/\∀H:Rs,(∀p∈fp,H.get? p.1=se p.2)->S i H
inductive NV (X:Cz) (pins:List (Q5×Sr)) (ρ:R4) (h:TH) (ws:WL) (s:Q4) (H':Rs) (d:D) (u:Value):Prop
 | old (j:J X pins ρ h ((d,u)::ws) s)
 | tup (T:Q5) (ds:List D) (us:List Value) (ed:d=.tup ds) (eu:u=.ref T) (n:s.heap.get? T=ng) (e:H'.get? T=se { cls:=.type "tuple",data:=.seq us.toArray}) (l:ds.length=us.length) (z:us.length<=sizeLine) (j:J X pins ρ h (ds.zip us++ws) s)
section
variable {B:Cb}{tg:Ru}{it:Q5}{nx:Nx}{wi:WL}{as:List Q5}{SI:Nat->Rs->Prop}
theorem zc (keep:∀{i H H'},SI i H->(∀b∈as,∀o,H.get? b=se o->H'.get? b=se o)->SI i H')(ob:∀{i H},SI i H->∀b∈as,∃o,H.get? b=se o)
  (next:∀{X:Cz} {i:Nat} {pins ρ h ws s o},X.B=B->X.A.handled=ng->SI i s.heap->J X pins ρ h (wi++ws) s->nx h i=se o->∀{E},Rd (Rf B.P B.w) X.A (pyNext (.ref it)) (λr s1=>match o with
   | none=>r=ng/\∃H' t,s1={ s with heap:=H',toks:=t}/\∀b o,b∉as->s.heap.get? b=se o->H'.get? b=se o
   | some d=>∃u,r=se u/\Rd (Rf B.P B.w) X.A (SF tg (.ref it) u) (λ_ s2=>∃H' t,s2={ s with heap:=H',toks:=t}/\(∀b o,b∉as->s.heap.get? b=se o->H'.get? b=se o)/\SI (i+1) H'/\NV X pins ρ h (wi++ws) s H' d u) E s1) E s)
  (self:∀{A:Rg} {i s Q E},SI i s.heap->Q (.ref it) s->Rd (Rf B.P B.w) A (pyIter (.ref it)) Q E s):Wk B tg it nx (At as SI) wi where
 self:=λ#[_,st] e q=>self (st _ e) q
 step:=λ{X i fp pins ρ h ws s o} eB hc #[ea,st] ow j e {E}=>by
  have hd:X.A.handled=none:=let #[_,I]:=j.inv;I.ok.hd hc
  have at_:∀p∈fp,s.heap.get? p.1=se p.2:=λp hp=>by cases j with | mk g I pp W=>exact I.hk.st _ _ (.inr (pp p (dG _ hp)))
  have nf:∀{H':Rs},(∀b o,b∉as->s.heap.get? b=se o->H'.get? b=se o)->∀b o,(∀p∈fp,b≠p.1)->s.heap.get? b=se o->H'.get? b=se o:=λk b o z=>k b o λy=>by rw[<-ea] at y;obtain⟨p,hp,e⟩:=aU.mp y;exact z p hp e.symm
  refine Sd (next eB hd (st _ at_) j e) λr s1 hq=>?_
  cases o with
  | none =>
   obtain⟨hr,H',t,rfl,k⟩:=hq;exact#[hr,by simpa using j.turns ow (nf k) [] (by simp) t]
  | some d =>
   obtain⟨u,hr,hq⟩:=hq;refine#[u,hr,Sd hq λ_ s2 #[H',t,e2,k,gJ,nv]=>?_];subst e2;have mem:∀p∈V7 as H',(∃o,(p.1,o)∈fp)/\H'.get? p.1=se p.2:=λp hp=>by obtain⟨hb,e⟩:=Ba hp;rw[<-ea] at hb;obtain⟨p',dJ,e'⟩:=aU.mp hb;exact#[#[p'.2,e'▸dJ],e]
   have ma:=FI (ob gJ);refine#[V7 as H',#[ma,λH hH=>keep gJ λb hb o e=>hH _ (A9 hb e)],by rw[ma,ea],?_]
   cases nv with
   | old j'=>exact j'.turns ow (nf k) _ mem t
   | tup T ds us ed eu n eT l z j'=>subst ed eu;exact j'.turnT ow (nf k) _ mem n eT l z t
theorem vO (nt:["enumerate","zip","dict_itemiterator","dict_reverseitemiterator","odict_iterator","itertools.zip_longest","itertools.pairwise"].contains nm=ff)(ob:∀{i H},SI i H->∃o vs,H.get? it=se o/\o.cls=.type nm/\o.data=.fields vs/\∀H':Rs,H'.get? it=se o->SI i H') (next:∀{X:Cz} {i:Nat} {pins ρ h ws s o},X.B=B->X.A.handled=ng->SI i s.heap->J X pins ρ h (wi++ws) s->nx h i=se o->∀{Q E},(∀r H' t,(∀b o,b≠it->s.heap.get? b=se o->H'.get? b=se o)->(match o with| none=>r=ng| some d=>SI (i+1) H'/\∃u,r=se u/\J X pins ρ h ((d,u)::(wi++ws)) s)->Q r { s with heap:=H',toks:=t})->Rd (Rf B.P B.w) X.A (pyNext (.ref it)) Q E s) (self:∀{A:Rg} {i s Q E},SI i s.heap->Q (.ref it) s->Rd (Rf B.P B.w) A (pyIter (.ref it)) Q E s):Wk B tg it nx (At [it] SI) wi :=zc (λst k=>by obtain⟨o,_,e,_,_,f⟩:=ob st;exact f _ (k it (by simp) o e)) (λst b hb=>by obtain⟨o,_,e,_⟩:=ob st;rw[cT.mp hb];exact#[o,e]) (λ{X i pins ρ h ws s o} eB hd st j e {E}=>next eB hd st j e λr H' t k q=>by cases o with| none=>exact#[q,H',t,rfl,λb o hb=>k b o (by simpa using hb)]| some d =>obtain⟨gJ,u,hr,j'⟩:=q;obtain⟨o,vs,e1,c,dd,_⟩:=ob gJ;exact#[u,hr,Ht e1 c dd nt #[H',t,rfl,λb o hb=>k b o (by simpa using hb),gJ,.old j']]) self
variable {X:Cz}{k:Nat}[Y:Yx X k] {pins:List (Q5×Sr)}{ρ:R4}{h:TH}{ws:WL}{s:Q4}{H':Rs}{P:Nx->TH->Prop}{x:D}{a:Q5}{ds:List D}
theorem o4 {S0:Nat->Rs->Prop}(w:Wk X.B tg it nx (At as S0) wi)(j:J X pins ρ h (wi++ws) s)(k:∀b o,s.heap.get? b=se o->H'.get? b=se o)(st:S0 0 H')(keep:∀{H},(∀b∈as,∀o,H'.get? b=se o->H.get? b=se o)->S0 0 H)(n:∀b∈as,s.heap.get? b=ng/\∃o,H'.get? b=se o)(q:P nx h)(t:Nat):IR X pins ρ ws tg P (.ref it) { s with heap:=H',toks:=t}:=by(have mem:∀p∈V7 as H',s.heap.get? p.1=ng/\H'.get? p.1=se p.2:=λp hp=>by obtain⟨hb,e⟩:=Ba hp;exact#[(n _ hb).1,e]);obtain⟨j',ow⟩:=j.pin k (V7 as H') mem t;refine#[it,nx,h,_,wi,V7 as H',rfl,w,#[?_,λH hH=>keep λb hb o e=>hH _ (A9 hb e)],ow,j',q];exact FI λb hb=>(n b hb).2
theorem NS (e:VS x h i=se o)(j:J X pins ρ h ([(x,.ref a)]++ws) s):∃us,(bif RQ x then s.heap.IsTuple a us else s.heap.IsList a us)/\match o with| none=>us[i]?=ng| some d=>∃u,us[i]?=se u/\J X pins ρ h ((d,u)::([(x,.ref a)]++ws)) s:=by obtain⟨ds,e1,rfl⟩:=iE e;obtain⟨a',us,ea,l,z,f,j⟩:=j.opS aO e1;cases ea;refine#[us.toArray,?_,?_];(cases ht:RQ x with| true=>rw[ht] at f;exact f| false=>rw[ht] at f;obtain⟨n,f⟩:=f;exact#[_,f,rfl,n,rfl]);rw[aW];cases e4:ds[i]? with| none=>simpa [<-l] using e4| some d=>obtain⟨u,e5,j⟩:=j.item l e4;exact#[u,by simpa using e5,j]
theorem NT:Wk B tg it (VS x) (At [it] λi H=>Vv (RQ x) H it a i) [(x,.ref a)]:=by refine vO (nm:=if RQ x then "tuple_iterator"else "list_iterator") (by cases RQ x<;>decide) (λ{i H} st=>?_) (λ{X i pins ρ h ws s o} eB hd st j e {Q E} q=>?_) λ{A i s Q E} st q=>?_;(cases ht:RQ x with| true=>rw[ht] at st;obtain⟨o,e,c,d⟩:=st;exact#[o,_,e,c,d,λH' e'=>#[o,e',c,d]]| false=>rw[ht] at st;obtain⟨o,e,c,d⟩:=st;exact#[o,_,e,c,d,λH' e'=>#[o,e',c,d]]);obtain⟨us,f,r⟩:=NS e j;(cases ht:RQ x with| true =>(rw[ht] at st f q;cases o with| none=>exact wpAny_pyNext_tuple_end hd st f r λh' eb=>q ng h' s.toks (λb o hb e=>eb b o hb e) rfl| some d=>obtain⟨u,e5,j⟩:=r;exact wpAny_pyNext_tuple_item st f e5 λh' gJ sb=>q (se u) h' s.toks (λb o hb e=>sb.extBut b o hb e) #[gJ,u,rfl,j])| false =>rw[ht] at st f q;cases o with| none=>exact Ux hd st f r λh' eb=>q ng h' s.toks (λb o hb e=>eb b o hb e) rfl| some d=>obtain⟨u,e5,j⟩:=r;exact Uj st f e5 λh' gJ sb=>q (se u) h' s.toks (λb o hb e=>sb.extBut b o hb e) #[gJ,u,rfl,j]);cases ht:RQ x with| true=>rw[ht] at st;exact wpAny_pyIter_tupleiter st q| false=>rw[ht] at st;exact wpAny_pyIter_listiter st q
theorem NU {St:Nat->Rs->Prop}(nt:["enumerate","zip","dict_itemiterator","dict_reverseitemiterator","odict_iterator","itertools.zip_longest","itertools.pairwise"].contains nm=ff)(ob:∀{i H},SI i H->∃o vs,H.get? it=se o/\o.cls=.type nm/\o.data=.fields vs/\∀H':Rs,H'.get? it=se o->SI i H') (W:∀A:Rg,A.handled=ng->Walks B.P B.w A it fw [it] n Pv St) (st:∀{X:Cz} {i pins ρ h ws s},X.B=B->J X pins ρ h (wi++ws) s->SI i s.heap->St i s.heap) (gJ:∀{i H},St i H->SI i H) (hx:∀{X:Cz} {i pins ρ h ws s o},X.B=B->J X pins ρ h (wi++ws) s->nx h i=se o->match o with| none=>i=n| some d=>i<n/\∀v,Pv i v->J X pins ρ h ((d,v)::(wi++ws)) s) (self:∀{A:Rg} {i s Q E},SI i s.heap->Q (.ref it) s->Rd (Rf B.P B.w) A (pyIter (.ref it)) Q E s):Wk B tg it nx (At [it] SI) wi :=vO nt ob (λ{X i pins ρ h ws s o} eB hd s0 j e {Q E} q=>by have r:=hx eB j e;cases o with| none=>subst r;exact(W X.A hd).done s _ _ (st eB j s0) λh' tk kk=>q ng h' tk (λb o hb=>kk b o (by simpa using hb)) rfl| some d=>exact(W X.A hd).item i s _ _ r.1 (st eB j s0) λv h' tk hv s1 kk=>q (se v) h' tk (λb o hb=>kk b o (by simpa using hb)) #[gJ s1,v,rfl,r.2 v hv]) self
end
section
variable {X:Cz}{k:Nat}[Y:Yx X k] {tg e a b c:Ru}{fa fb fc:RE}{fA:RA}{p pos:Ue}{pC:List Ru}{kt:Nat}{tp:Ue}
omit Y in
theorem NW {H:Rs}{it a:Q5}{t:Bool}{i:Nat}(st:Vv t H it a i):∃o,H.get? it=se o/\∀H':Rs,H'.get? it=se o->Vv t H' it a i:=by
 unfold Vv at st ⊢
 cases t<;>obtain⟨o,e,c⟩:=st<;>exact#[o,e,λH' e'=>#[o,e',c]]
theorem zd {k:Ry}(h:(RM P w).is k u=tj):DU B g (kd k) u:=by rcases kC h with ⟨i,t,rfl,rfl⟩ | ⟨x,t,rfl,rfl⟩;exact .int;exact .str
theorem NX {it a:Q5}:Wk B tg it (nKs ks) (At [it] λi H=>H.IsKeyIter it a i ks.length ep) [(.dic ks ds,.ref a),(.fn ep,.ref a)] :=vO (nm:="dict_keyiterator") Γ (λ{i H} st=>by obtain⟨o,e,c,d⟩:=st;exact#[o,_,e,c,d,λH' e'=>#[o,e',c,d]]) (λ{X i pins ρ h ws s o} eB hd st j e {Q E} q=>by subst eB;(have da:∃us:List Value,ks.length=us.length/\s.heap.DictAt (RM X.B.P X.B.w) a (ks.zip us) ep:=by cases j with | mk g I p W =>cases W (.dic ks ds,.ref a) (by simp)with | dic f n k l z A =>cases W (.fn ep,.ref a) (by simp)with | fn f' =>obtain⟨o1,e1,f⟩:=f;obtain⟨o2,e2,f'⟩:=f';obtain⟨o1,es,ep',h1,h2,h3,r⟩:=f _ (I.hk.st _ _ (.inl e1));obtain⟨o2,es',h4,h5⟩:=f' _ (I.hk.st _ _ (.inl e2));rw[h1] at h4;cases h4;rw[h3] at h5;cases h5;exact#[_,by rw[k,l],o1,es,h1,h2,h3,r]);obtain⟨us,l,da⟩:=da;(have zl:(ks.zip us).length=ks.length:=by simp[l]);rw[<-zl] at st;cases e;cases e4:eg ks i with| none =>rw[e4] at q;rw[aW] at e4;exact wpAny_pyNext_dict_end hd st da Β λh' eb=>q ng h' s.toks (λb o hb e=>eb b o hb e) rfl| some k0 =>rw[e4] at q;rw[aW] at e4;obtain⟨v,hv⟩:∃v,us[i]?=se v:=#[us[i]'(by exact l▸(aQ.mp e4).1),by simp];exact wpAny_pyNext_dict_item st da (bP.mpr #[e4,hv]) λbD h' hk gJ sb=>q (se bD) h' s.toks (λb o hb e=>sb.extBut b o hb e) #[by exact zl▸gJ,bD,rfl,j.add λg=>zd hk]) λst q=>wpAny_pyIter_keyiter st q
theorem FJ (nt:["enumerate","zip","dict_itemiterator","dict_reverseitemiterator","odict_iterator","itertools.zip_longest","itertools.pairwise"].contains T=ff) (W:∀A:Rg,A.handled=ng->Walks B.P B.w A it [it] [it] x.cps.size (SignAt x) λi h=>h.IsStrIter it T x t i) (sf:∀{A:Rg} {i s Q E},s.heap.IsStrIter it T x t i->Q (.ref it) s->Rd (Rf B.P B.w) A (pyIter (.ref it)) Q E s) :Wk B tg it (nStr x) (At [it] λi H=>H.IsStrIter it T x t i) [] :=NU nt (λst=>by obtain⟨o,e,c,d⟩:=st;exact#[o,_,e,c,d,λH' e'=>#[o,e',c,d]]) W (λ_ _ st=>st) (λst=>st) (λ{X i pins ρ h ws s o} eB j e=>by unfold nStr at e;cases hb:bQ i (Sn x.cps.toList)with| false=>rw[hb] at e;cases e| true =>rw[hb] at e;have e1:=dX e;have le:=oi hb;rw[aV] at le;cases e4:eg x.cps.toList i with| none =>rw[e4] at e1;rw[aW] at e4;subst e1;simp at e4;exact Nat.le_antisymm le e4| some c =>rw[e4] at e1;rw[aW] at e4;subst e1;simp at e4;refine#[by grind,λv hv=>?_];obtain⟨c',u,h1,rfl⟩:=hv;rw[e4] at h1;cases h1;exact j.add λ_=>.str) sf
theorem NY (h:QE X e fa):QI X tg e (Td fa):=#[λ{pins ρ _ ws _ P} z q=>Sd (h.h z q.bnd) λu s1 #[x,h,z,q]=>by split at q;rename_i ks ds;(have op:∃a ep dN,u=.ref a/\(a==Tw)=ff/\dN.length=ks.length/\s1.heap.DictAt (RM X.B.P X.B.w) a dN ep/\J X pins ρ h ([(.dic ks ds,.ref a),(.fn ep,.ref a)]++ws) s1:=by cases z with | mk g I p W =>cases W _ aO with | dic f n kl l zz A =>obtain⟨o,e1,f⟩:=f;have hq:=I.hk.st _ _ (.inl e1);obtain⟨o',es,ep,e2,r⟩:=f _ hq;rw[hq] at e2;cases e2;refine#[_,ep,_,rfl,n,by simp[kl,l],#[o,es,hq,r],g,I,p,λw z=>?_];simp only[oa,AB,bj] at z;rcases z with rfl | rfl | z;exact W _ aO;exact .fn #[o,e1,λH e=>#[o,es,e,r.2.1]];exact W _ (a7 _ z));obtain⟨a,ep,dN,rfl,n,l,da,z⟩:=op;refine wpAny_pyIter_dict n da ?_;exact o4 NX z (λ_ _=>Heap.get?_push_of_some _) #[_,Heap.get?_push_size _ rfl,rfl,by rw[l];rfl] (λkk=>#[_,kk _ (by simp) _ (Heap.get?_push_size _ rfl),rfl,by rw[l];rfl]) (by simpa using #[gY,_,Heap.get?_push_size _ rfl]) q s1.toks;rename_i x;obtain⟨t,rfl⟩:=z.str;have z:=z.tl;cases ha:x.cps.all (·<128);exact wpAny_pyIter_wide ha (o4 (FJ Γ (λA hA=>Walks.strWide hA _ x t) λst q=>wpAny_pyIter_striter_wide st q) z (λ_ _=>Heap.get?_push_of_some _) #[_,Heap.get?_push_size _ rfl,rfl,rfl] (λkk=>#[_,kk _ (by simp) _ (Heap.get?_push_size _ rfl),rfl,rfl]) (by simpa using #[gY,_,Heap.get?_push_size _ rfl]) q s1.toks);exact wpAny_pyIter_ascii ha (o4 (FJ Γ (λA hA=>Walks.strAscii hA _ x t) λst q=>wpAny_pyIter_striter_ascii st q) z (λ_ _=>Heap.get?_push_of_some _) #[_,Heap.get?_push_size _ rfl,rfl,rfl] (λkk=>#[_,kk _ (by simp) _ (Heap.get?_push_size _ rfl),rfl,rfl]) (by simpa using #[gY,_,Heap.get?_push_size _ rfl]) q s1.toks);obtain⟨ds,e1,q⟩:=q.o;obtain⟨a,us,rfl,l,zz,f,_⟩:=z.opS aO e1;(have new:∀t,t=RQ x->IR X pins ρ ws tg P (.ref s1.heap.objs.size) { s1 with heap:=s1.heap.push (Sz t a),toks:=s1.toks}:=λt et=>by(have st:Vv (RQ x) (s1.heap.push (Sz t a)) s1.heap.objs.size a 0:=by exact et▸p8 (Heap.get?_push_size _ rfl));obtain⟨o,e2,f⟩:=NW st;exact o4 NT z (λ_ _=>Heap.get?_push_of_some _) st (λkk=>f _ (kk _ (by simp) _ e2)) (by simpa using #[gY,_,e2]) q s1.toks);cases ht:RQ x with| true=>rw[ht] at f;exact wpAny_pyIter_tuple f (new tj ht.symm)| false=>rw[ht] at f;obtain⟨n,f⟩:=f;exact R5 #[_,f,rfl,n,rfl] (new ff ht.symm)]
theorem NZ {lo c:Int}(hn:∀h i,nx h i=se (bif bH i n then se (.int (lo+ .ofNat i*c))else ng)):Wk B tg it nx (At [it] λi H=>IsRangeIter H it (lo+i*c) (n-i) c) [] :=vO Γ (λst=>#[_,_,st,rfl,rfl,λH' e'=>e']) (λ{X i pins ρ h ws s o} eB hd st j e {Q E} q=>by rw[hn] at e;cases e;cases hb:bH i n with| false =>rw[hb] at q;exact wpAny_pyNext_range_end hd st (by rw[<-zL,cD] at hb;lia) λh' eb=>q ng h' s.toks (λb o hb e=>eb b o hb e) rfl| true =>rw[hb] at q;(have e1:lo+((i+1:Nat))*c=lo+i*c+c:=by push_cast;rw[kW,we,Int.add_assoc]);(have e2:(n:Int)-((i+1:Nat):Int)=n-i-1:=by lia);refine wpAny_pyNext_range_item st Β λh' gJ sb=>q _ h' _ (λb o hb e=>sb.extBut b o hb e) #[by rw[e1,e2];exact gJ,_,rfl,j.add λ_=>.int]) λst q=>wpAny_pyIter_rangeiter st q
include Y in
theorem N0 (ha:QA X [a] fA)(h:SC X "range" pos [a]:=by exact⟨rfl,by decide,by decide,rfl⟩):QI X tg (.Call (.Name "range" p) [a] [] pos) (rIr fA):=#[λ{pins ρ _ ws _ P} z q=>Re (iu z h.g (Y.no _) boot_range (i9 h.pl (f9 h.pl (Sd (ha.h (pos:=pos) z q.bnd) λus s1 #[ds,h1,l,z,q]=>by
 split at q
 .rename_i n;obtain⟨hb,q⟩:=q.i;obtain⟨u,rfl,z⟩:=one l z;obtain⟨t,rfl⟩:=z.int;have hb:n<2^62:=by simpa [cD] using hb
  refine call_range_1 (wpAny_pyIter_range (IsRange.new ..) (small_one (by lia) (by lia) (by simp) (by simp;lia)) ?_)
  have z1:J X pins ρ h1 ([]++ws) { s1 with heap:=s1.heap.push { cls:=.type "range",data:=.fields ([.int 0 s1.toks,.int (qQ n) t,.int 1 (s1.toks+1)].toArray)},toks:=s1.toks+1+1}:=z.tl.kept (λ_ _=>Heap.get?_push_of_some _) _
  have e2:Builtin.Range.rangeSize 0 (qQ n) 1=(n:Int)-((0:Nat):Int):=by rw[rangeSize_one];split<;>simp_all
  refine o4 (as:=[_]) (S0:=λi H=>IsRangeIter H _ (0+(i:Nat)*1) ((n:Int)-(i:Nat)) 1) (NZ (n:=n) (λh i=>by unfold nRg;simp)) z1 (λ_ _=>Heap.get?_push_of_some _) ?_ ?_ (λb hb=>by rw[cT.mp hb];exact#[gY,_,Heap.get?_push_size _ rfl]) q _
  .rw[e2];exact Heap.get?_push_size _ rfl
  .intro H kk;rw[e2] at kk;exact kk _ (by simp) _ (Heap.get?_push_size _ rfl)
 .cases q))) h.n h.d)]
theorem N1 {e it a:Q5}(ne:e≠it)(nt:RQ x=ff):Wk B (.Tuple pC kt tp) e (nEn x) (At [e,it] λi H=>(∃old,IsEnum H e it i old)/\H.IsListIter it a i) [(x,.ref a)] :=zc (λst k=>by obtain⟨⟨old,he⟩,de⟩:=st;exact#[#[old,k e (by simp) _ he],de.at λo x=>k it (by simp) o x]) (λst b hb=>by obtain⟨⟨old,he⟩,o,e1,_⟩:=st;simp only[bj,gM,or_false] at hb;rcases hb with rfl | rfl;exact#[_,he];exact#[o,e1]) (λ{X i pins ρ h ws s o} eB hd st j q {E}=>by obtain⟨⟨old,he⟩,de⟩:=st;obtain⟨ds,e1,rfl⟩:=iE q;obtain⟨a',us,ea,l,z,f,j⟩:=j.opS aO e1;cases ea;rw[nt] at f;obtain⟨n,f⟩:=f;have f:s.heap.IsList a us.toArray:=#[_,f,rfl,n,rfl];rw[aW];cases e4:ds[i]? with| none=>exact wpAny_pyNext_enum_end hd he de f (by simpa [<-l] using e4) λh1 hb=>#[rfl,h1,s.toks,rfl,λb o hb' eo=>hb b o (λz=>hb' (by simp[z])) eo]| some d =>obtain⟨u,e5,j⟩:=j.item l e4;refine wpAny_pyNext_enum_item he de f (by simpa using e5) ne λh1 ho hit1 hT i0 hk=>#[_,rfl,?_];refine wpAny_letOwnedTupleGo_enum ho λh2 tL nQ=>?_;have hTe:=eD (Heap.lt_size he);exact#[h2,s.toks+1,rfl,λb o hb eo=>nQ.extBut b o (λz=>hb (by simp[z])) (hk b o (λz=>hb (by simp[z])) (λz=>hb (by simp[z])) eo),#[#[_,by exact tL],hit1.at λo x=>(nQ.2 it ne.symm).trans x],.tup _ [.int (.ofNat i),d] [.int i s.toks,u] rfl rfl gY (nQ.extBut _ _ hTe hT) rfl (show 2<=sizeLine by decide) ((j.add (u:=.int i s.toks) λ_=>.int).sub (by simp +contextual [or_imp]))]) λst q=>wpAny_pyIter_enum st.1.choose_spec q
include Y in
theorem N3 (ha:QE X a fa)(h:SC X "enumerate" pos [a]:=by exact⟨rfl,by decide,by decide,rfl⟩)(hs:RD [a] X.env=[(ff,SB a X.env)]:=by rfl):QI X (.Tuple pC kt tp) (.Call (.Name "enumerate" p) [a] [] pos) (rIe fa):=#[λ{pins ρ _ ws _ P} z q=>Re (iu z h.g (Y.no _) HX (i9 h.pl (f9 h.pl (by
 rw[hs];refine Calls.spliced_cons (Sd (ha.h z q.bnd) λu s1 #[x,h1,z,q]=>Calls.spliced_nil ?_);obtain⟨ds,e1,q⟩:=q.o;obtain⟨nt,q⟩:=q.i;have nt:RQ x=ff:=by simpa using nt
 obtain⟨a,us,rfl,l,zz,f,_⟩:=z.opS aO e1;rw[nt] at f;obtain⟨n,f⟩:=f;refine call_enumerate_list #[_,f,rfl,n,rfl] λh1 he de i0 hk=>wpAny_pyIter_enum he ?_;obtain⟨o,e2,c,d⟩:=id de;refine o4 (as:=[s1.heap.objs.size+1,s1.heap.objs.size]) (N1 (a:=a) (Nat.succ_ne_self _) nt) z hk #[#[_,he],de] (λkk=>#[#[_,kk _ (by simp) _ he],o,kk _ (by simp) _ e2,c,d]) (λb hb=>?_) q s1.toks
 simp only[bj,gM,or_false] at hb;rcases hb with rfl | rfl
 .exact#[Heap.get?_none_of_le (k8 _),_,he]
 .exact#[gY,_,e2]))) h.n h.d)]
theorem N4 (j:J X pins ρ h w s):∀ds (aI:List (Bool×Q5)) o,ds.length=aI.length->(∀(n:Nat) d p,ds[n]?=se d->aI[n]?=se p->(d,Value.ref p.2)∈w/\RQ d=p.1)->eZ h i ds=se o->∃xss:Nat->Array Value,(∀n p,aI[n]?=se p->SeqAt p.1 s.heap p.2 (xss n))/\match o with| none=>∃n:Nat,n<aI.length/\(xss n)[i]?=ng| some ys=>ys.length=aI.length/\∃us:List Value,us.length=aI.length/\(∀n:Nat,n<aI.length->(xss n)[i]?=us[n]?)/\J X pins ρ h (ys.zip us++w) s:=by intro ds aI o l;revert o;refine Fj (λo _ e=>?_) (λd ds p aI l ih o m e=>?_) l;cases e;exact#[λ_=>([].toArray),λn p z=>by simp at z,rfl,[],rfl,λn z=>by simp at z,j];obtain⟨m0,t0⟩:=m 0 d p rfl rfl;have ih:=λo=>ih o λn d p h1 h2=>m (n+1) d p (by exact h1) (by exact h2);replace e:(match eS h d with| none=>ng| some xs=>match eZ h i ds with| none=>ng| some ng=>se ng| some (se ys)=>match eg xs i with| some x=>se (se (x::ys))| none=>se ng)=se o:=e;(have op:∀{w'} {xs:List D},(∀y∈w,y∈w')->eS h d=se xs->J X pins ρ h w' s->∃us:List Value,xs.length=us.length/\SeqAt p.1 s.heap p.2 us.toArray/\J X pins ρ h (xs.zip us++w') s:=λ{w' xs} mm e1 jj=>by obtain⟨a',us,ea,l,z,f,j⟩:=jj.opS (mm _ m0) e1;cases ea;refine#[us,l,?_,j];rw[t0] at f;cases ht:p.1 with| true=>rw[ht] at f;exact f| false=>rw[ht] at f;obtain⟨n,f⟩:=f;exact#[_,f,rfl,n,rfl]);split at e;cases e;rename_i xs e1;split at e;cases e;rename_i e2;cases e;obtain⟨xss,h1,n,h2,h3⟩:=ih _ e2;obtain⟨us,_,h4,_⟩:=op (λ_ z=>z) e1 j;exact#[λn=>n.casesOn us.toArray xss,λn q hq=>by cases n with| zero=>cases hq;exact h4| succ n=>exact h1 n q (by exact hq),n+1,by simpa using h2,h3];rename_i ys e2;obtain⟨xss,h1,l2,us2,l3,h3,j3⟩:=ih _ e2;obtain⟨us,l4,h4,j4⟩:=op (λ_ z=>dG _ z) e1 j3;rw[aW] at e;(have hs:∀n q,(p::aI)[n]?=se q->SeqAt q.1 s.heap q.2 (Nat.casesOn n us.toArray xss):=λn q hq=>by cases n with| zero=>cases hq;exact h4| succ n=>exact h1 n q (by exact hq));refine#[λn=>n.casesOn us.toArray xss,hs,?_];split at e;rename_i x e5;cases e;obtain⟨u,e6,j5⟩:=j4.item l4 e5;refine#[by simpa using l2,u::us2,by simpa using l3,λn hn=>?_,j5.sub (by simp +contextual [or_imp])];(cases n with| zero=>show us.toArray[i]?=se u;simpa using e6| succ n=>exact h3 n (by simpa using hn));rename_i e5;cases e;exact#[0,by simp,show us.toArray[i]?=ng by simpa [<-l4] using e5]
theorem N5 {b:Nat}{aI:List (Bool×Q5)}(df:aI.length≠0)(hm:aI.length<=100)(aD:∀p∈aI,p.2<b)(l:ds.length=aI.length)(m:∀(n:Nat) d p,ds[n]?=se d->aI[n]?=se p->(d,Value.ref p.2)∈wi/\RQ d=p.1) :Wk B tg (b+aI.length+2) (nZp ds) (At (jK b (aI.length+3)) (Zl b aI)) wi :=zc (λst kk=>st.keep λc h1 h2 o g=>kk c (Wc.mpr #[h1,h2]) o g) (λst c hc=>by obtain⟨o,e,_⟩:=st.obj c (Wc.mp hc).1 (Wc.mp hc).2;exact#[o,e]) (λ{X i pins ρ h ws s o} eB hd st j q {E}=>by subst eB;obtain⟨o',e1,rfl⟩:=iE q;obtain⟨xss,hs,r⟩:=N4 j ds aI o' l (λn d p h1 h2=>by obtain⟨a,b⟩:=m n d p h1 h2;exact#[c7 _ a,b]) e1;(have kp:∀c,c∉jK b (aI.length+3)->Kp b aI.length c:=λc hc=>by have o7:¬(b<=c/\c<b+aI.length+3):=λz=>hc (Wc.mpr z);unfold Kp;lia);refine BH hd df hm aD st hs (λh' ay vl vx z1 t1 sz kk=>?_) λhex h' kk=>?_;(cases o' with| none =>exfalso;obtain⟨n,hn,e⟩:=r;rw[vx n hn,wj] at e;exact NAG.gl76 hn vl e| some ys =>obtain⟨yl,us,ul,ux,j'⟩:=r;(have ev:ay=us:=i7 λn=>by by_cases hn:n<aI.length;rw[<-vx n hn,ux n hn];rw[fh Β,fh Β]);subst ev;refine#[_,rfl,?_];obtain⟨_,_,hf1,o9⟩:=z1.zip;refine letGo hf1 o9 λh2 f hf2 hz2 nQ=>?_;(have eO:b+aI.length+2<s.heap.objs.size:=by obtain⟨_,_,_,hz⟩:=st.zip;exact Heap.lt_size hz);have up:∀c o,c≠b+aI.length+2->h'.get? c=se o->h2.get? c=se o:=λc o hc g=>nQ.extBut _ _ hc g;refine#[h2,s.toks,rfl,λc o hc g=>up c o (λz=>hc (Wc.mpr (by lia))) (kk c o (kp c hc) g),?_,.tup _ ys ay rfl rfl gY (up _ _ (eD eO) t1) (by rw[yl,vl]) (bW (by exact vl▸hm) (show 100<=sizeLine by decide)) j'];obtain⟨old,ol,ho⟩:=z1.own;refine#[#[_,_,hf2,hz2],up _ _ Β z1.cG,#[old,ol,up _ _ Β ho],λj p hp=>(z1.it j p hp).at λo g=>up _ _ ?_ g];have:=(aQ.mp hp).1;lia);cases o' with| none=>exact#[rfl,h',s.toks,rfl,λc o hc g=>kk c o (kp c hc) g]| some ys =>exfalso;obtain⟨yl,us,ul,ux,j'⟩:=r;obtain⟨n,hn,e⟩:=hex;rw[ux n hn,wj] at e;exact NAG.gl76 hn ul e) λst q=>uP st q
theorem FK {aI:List (Bool×Q5)}(df:aI.length≠0)(hm:aI.length<=100)(aD:∀p∈aI,p.2<s.heap.objs.size)(l:ds.length=aI.length)(m:∀(n:Nat) d p,ds[n]?=se d->aI[n]?=se p->(d,Value.ref p.2)∈wi/\RQ d=p.1) (z:J X pins ρ h (wi++ws) s) (st:Zl s.heap.objs.size aI 0 H') (k:∀c o,s.heap.get? c=se o->H'.get? c=se o) (q:P (nZp ds) h):IR X pins ρ ws tg P (.ref (s.heap.objs.size+aI.length+2)) { s with heap:=H'} :=o4 (N5 df hm aD l m) z k st (λkk=>st.keep λc h1 h2 o g=>kk c (Wc.mpr #[h1,h2]) o g) (λc hc=>#[Heap.get?_none_of_le (Wc.mp hc).1,by obtain⟨o,e,_⟩:=st.obj c (Wc.mp hc).1 (Wc.mp hc).2;exact#[o,e]]) q s.toks
theorem J.seqAt (j:J X pins ρ h w s)(m:(x,u)∈w)(e:eS h x=se ds):∃a xs,u=.ref a/\SeqAt (RQ x) s.heap a xs/\a<s.heap.objs.size:=by obtain⟨a,us,ea,l,z,f,j⟩:=j.opS m e;refine#[a,us.toArray,ea,?_];(have k:SeqAt (RQ x) s.heap a us.toArray:=by cases ht:RQ x with| true=>rw[ht] at f;exact f| false=>rw[ht] at f;obtain⟨n,f⟩:=f;exact#[_,f,rfl,n,rfl]);exact#[k,xo k]
include Y in
theorem N6 (h1:QE X a fa)(h2:QE X b fb)(h:SC X "zip" pos [a,b]:=by exact⟨rfl,by decide,by decide,rfl⟩)(hs:RD [a,b] X.env=[(ff,SB a X.env),(ff,SB b X.env)]:=by rfl):QI X tg (.Call (.Name "zip" p) [a,b] [] pos) (Z2 fa fb):=#[λ{pins ρ _ ws _ P} z q=>Re (iu z h.g (Y.no _) w4 (i9 h.pl (f9 h.pl (by
 rw[hs];refine Calls.spliced_cons (Sd (h1.h z q.bnd) λu s1 #[x,_,z,q]=>Calls.spliced_cons (Sd (h2.h z q.bnd) λv s1 #[y,_,z,q]=>Calls.spliced_nil ?_));obtain⟨_,e1,q⟩:=q.o;obtain⟨_,e2,q⟩:=q.o;obtain⟨c1,xs,rfl,k1,l1⟩:=z.seqAt (a7 _ aO) e1;obtain⟨c2,ys,rfl,k2,l2⟩:=z.seqAt aO e2;refine BJ (p:=(RQ x,c1)) (q:=(RQ y,c2)) k1 k2 λh' z1 kk=>uP (aI:=[(RQ x,c1),(RQ y,c2)]) z1 ?_;refine FK (aI:=[(RQ x,c1),(RQ y,c2)]) (wi:=[(y,.ref c2),(x,.ref c1)]) (by simp) (by simp) (by simpa using #[l1,l2]) rfl (λn d p h1 h2=>?_) z z1 kk q
 match n,h1,h2 with
 | 0,h1,h2=>cases h1;cases h2;simp
 | 1,h1,h2=>cases h1;cases h2;simp
 | n+2,h1,h2=>cases h1))) h.n h.d)]
include Y in
theorem N7 (h1:QE X a fa)(h2:QE X b fb)(h3:QE X c fc)(h:SC X "zip" pos [a,b,c]:=by exact⟨rfl,by decide,by decide,rfl⟩)(hs:RD [a,b,c] X.env=[(ff,SB a X.env),(ff,SB b X.env),(ff,SB c X.env)]:=by rfl):QI X tg (.Call (.Name "zip" p) [a,b,c] [] pos) (rIz3 fa fb fc):=#[λ{pins ρ _ ws _ P} z q=>Re (iu z h.g (Y.no _) w4 (i9 h.pl (f9 h.pl (by
 rw[hs];refine Calls.spliced_cons (Sd (h1.h z q.bnd) λu s1 #[x,_,z,q]=>Calls.spliced_cons (Sd (h2.h z q.bnd) λv s1 #[y,_,z,q]=>Calls.spliced_cons (Sd (h3.h z q.bnd) λv s1 #[y',_,z,q]=>Calls.spliced_nil ?_)));obtain⟨_,e1,q⟩:=q.o;obtain⟨_,e2,q⟩:=q.o;obtain⟨_,e3,q⟩:=q.o;obtain⟨c1,xs,rfl,k1,l1⟩:=z.seqAt (a7 _ (a7 _ aO)) e1;obtain⟨c2,ys,rfl,k2,l2⟩:=z.seqAt (a7 _ aO) e2;obtain⟨c3,zs,rfl,k3,l3⟩:=z.seqAt aO e3;refine II (p:=(RQ x,c1)) (q:=(RQ y,c2)) (r:=(RQ y',c3)) k1 k2 k3 λh' z1 kk=>uP (aI:=[(RQ x,c1),(RQ y,c2),(RQ y',c3)]) z1 ?_;refine FK (aI:=[(RQ x,c1),(RQ y,c2),(RQ y',c3)]) (wi:=[(y',.ref c3),(y,.ref c2),(x,.ref c1)]) (by simp) (by simp) (by simpa using #[l1,l2,l3]) rfl (λn d p h1 h2=>?_) z z1 kk q
 match n,h1,h2 with
 | 0,h1,h2=>cases h1;cases h2;simp
 | 1,h1,h2=>cases h1;cases h2;simp
 | 2,h1,h2=>cases h1;cases h2;simp
 | n+3,h1,h2=>cases h1))) h.n h.d)]
end
structure CF where
 cl:List (Q7×Q5)
 C:Q5
 s:Q4
 g:Gs
noncomputable def Wv (X:Cz) (scope:U2) (N:List Q7) (c:CF):Cz where
 toBz:=X.toBz
 A:=X.A
 N:=N
 g₀:=c.g
 s₀:=c.s
 env:=Vp scope c.cl c.C X.env
 outer:=X.stack
 stack:=X.stack
 fn:=λ_=>ff
 calm:=X.calm
 E:=λ_ _=>False
 xe:=λ_ _=>False
structure SCo (X:Cz)(scope:U2)(N:List Q7)(fr:xaf)(n:Nat)(iter:Ru):Prop where
 nd:N.Nodup
 len:N.length=n+fr.length
 fr:fr.map (λi=>X.N[i]?)=(N.drop n).map se
 sc:∀x∈N.drop n,scope.names.lookup x=se .free
 fi:YK X.env ((scope.names.filter λy=>y.2 == .free).map (·.1))
 kind:scope.kind=.function
 cell:∀y∈scope.names,y.2≠.cell
 nm:∀y∈scope.names,y.2=.local->scope.names.lookup y.1=se .local
 fs:∀x,foldedSetIterable iter X.env x=pure x
theorem Yx.comp (Y:Yx X k)(h:N.Nodup):Yx (Wv X scope N c) k:=#[Y.room,Y.calm,Y.blt,h,PassesOwn.never,λ_ z=>Y.en z,Y.en,Y.fld]
section
variable {X:Cz}{pins pins' fp:List (Q5×Sr)}{ρ ρ':R4}{h:TH}{ws:WL}{s:Q4}{g:Gs}{fr:xaf}{n i:Nat}{d:D}{scope:U2}{N:List Q7}{iter:Ru}{cl:List (Q7×Q5)}{C l:Q5}{lo:Sr}{H':Rs}{m:Q7->Option Value}{tk:Nat}
theorem J.pinS (j:J X pins ρ h ws s)(f:∀p∈pins',p∈pins):J X pins' ρ h ws s:=by cases j with | mk g I p W=>exact#[g,I,λy z=>p y (f y z),W]
theorem J.weak (j:J X pins ρ h ws s)(l:ρ'.length=ρ.length)(f:∀(i:Nat) d,ρ'[i]?=se (se d)->ρ[i]?=se (se d)):J X pins ρ' h ws s:=by cases j with | mk g I p W =>exact#[g,#[I.ok,I.os,I.bare,I.hk,I.bs,I.kp,I.ip,I.lf,by obtain⟨m,a,b⟩:=I.lc;exact#[m,a,λi x d e1 e2 e3=>b i x d e1 (f i d e2) e3],I.ce,by exact l▸I.len],p,W]
theorem FL:∀{fr:xaf} {i:Nat} {d:D},(Zf ρ fr)[i]?=se (se d)->∃j,fr[i]?=se j/\ρ[j]?=se (se d)| [],i,d,e=>by cases i<;>cases e| j::fr,0,d,e=>by rw[Ct,List.getElem?_cons_zero] at e;refine#[j,rfl,?_];split at e;rename_i e1;rw[e1,dX e];cases dX e| j::fr,i+1,d,e=>by exact FL (i:=i) e
theorem N8:∀fr:xaf,(Zf ρ fr).length=fr.length:=by intro fr;induction fr with| nil =>exact rfl| cons j fr ih =>rw[Ct,fm,ih,fm]
theorem FN (e:(bf n ng++Zf ρ fr)[i]?=se (se d)):n<=i/\∃j,fr[i-n]?=se j/\ρ[j]?=se (se d):=by rw[Ai] at e;split at e;rw[mj] at e;split at e<;>cases e;rename_i z;rw[n6] at e z;exact#[pW z,FL e]
def Gs.less (g:Gs) (fp:List (Q5×Sr)):Gs:=#[λa=>open Classical in if∃o,(a,o)∈fp then ng else g.G a,g.ι]
theorem sH (z:∃o,(a,o)∈fp):(g.less fp).G a=none:=QY z
theorem lB (z:¬∃o,(a,o)∈fp):(g.less fp).G a=g.G a:=QX z
theorem sJ (z:(g.less fp).G a=se r):g.G a=se r:=by by_cases y:∃o,(a,o)∈fp;rw[sH y] at z;cases z;rwa [lB y] at z
theorem Iv.less (I:Iv X g ρ h s)(p:∀p∈fp,g.G p.1=se (.pin p.2))(ow:∀p∈fp,ZO X pins p.1):Iv X (g.less fp) ρ h s:=by(have keep:∀{a r},g.G a=se r->(∀o,r≠.pin o)->(g.less fp).G a=se r:=λ{a r} z n=>by rw[lB λ#[o,y]=>by rw[p _ y] at z;cases z;exact n o rfl,z]);have le:Le g (g.less fp):=#[λa o z=>keep z (by simp),[],by simp[Gs.less]];have hk:=I.hk.go le rfl (λb r z y=>#[keep z (by obtain⟨i,y | y⟩:=y<;>subst y<;>simp),λ_ e=>e]) (λa o z=>I.hk.st a o (z.imp sJ sJ)) (λa o z=>I.hk.sl a o (sJ z)) λa r z=>I.hk.al a r (sJ z);refine#[I.ok,I.os,I.bare,hk,λb o e=>le.d _ _ (I.bs b o e),λa r z f=>?_,I.ip,keep I.lf (by simp),?_,λy c e=>?_,I.len];rw[lB λ#[o,y]=>by have:=(ow _ y).f r z;rw[f] at this;cases this];exact I.kp a r z f;obtain⟨m,ns,hl⟩:=I.lc;exact#[m,ns,λi y d e1 e2 e3=>by obtain⟨u,dq,l⟩:=hl i y d e1 e2 e3;exact#[u,le.du dq,l]];obtain⟨v,r⟩:=I.ce y c e;refine#[v,?_];have nc:¬∃o,(c,o)∈fp:=λ#[o,z]=>(ow _ z).c y c e rfl;rw[lB nc];exact r
theorem Iv.block (I:Iv X g ρ h s)(S:SCo X scope N fr n iter)(p:∀p∈fp,g.G p.1=se (.pin p.2))(old:∀b o,s.heap.get? b=se o->H'.get? b=se o)(nl:s.heap.get? l=ng)(nC:s.heap.get? C=ng)(ne:l≠C)(el:H'.get? l=se lo)(ns:H'.Ns C m) (i3:∀x c,cl.lookup x=se c->X.env.cells.lookup x=se c) (ka:∀y∈scope.names,y.2=.free->∃c,cl.lookup y.1=se c) :∃g1,Iv (Wv X scope N #[cl,C,s,(g.less fp).hid s.heap X.env.locals]) g1 (bf n ng++Zf ρ fr) h { s with heap:=H',toks:=tk}/\(∀q ∈[(l,lo)]++fp,g1.G q.1=se (.pin q.2))/\Le g g1:=by have hn:=I.hk.hid I.nf;have q0:=hn.kept old;have fl:=hn.fresh nl;have fC:=hn.fresh nC;obtain⟨oC,esC,epC,eC,_⟩:=id ns;have q1:=q0.role (λr z=>by rw[fl] at z;cases z) (se (.pin lo)) (λ_ _ _ e=>e) λr z=>#[lo,el,λo' y=>by cases z;rcases y with y | y<;>cases y;rfl,λo' y=>by cases z;cases y];(have fC':((g.hid s.heap X.env.locals).upd l (se (.pin lo))).G C=none:=by rw[Gs.upd_ne (Ne.symm ne),fC]);have q2:=q1.role (λr z=>by rw[fC'] at z;cases z) (se .loc) (λ_ _ _ e=>e) λr z=>#[oC,eC,λo' y=>(by cases z;rcases y with y | y<;>cases y),λo' y=>by cases z;cases y];(have up:∀{a r},(g.hid s.heap X.env.locals).G a=se r->(((g.hid s.heap X.env.locals).upd l (se (.pin lo))).upd C (se .loc)).G a=se r:=λ{a r} z=>by rw[Gs.upd_ne (by rintro rfl;rw[fC] at z;cases z),Gs.upd_ne (by rintro rfl;rw[fl] at z;cases z),z]);have upf:∀{a r},g.G a=se r->r≠.loc->(((g.hid s.heap X.env.locals).upd l (se (.pin lo))).upd C (se .loc)).G a=se r:=λ{a r} z n=>up (by rw[jd (by exact z▸λy=>n (dX y)),z]);have le:Le g (((g.hid s.heap X.env.locals).upd l (se (.pin lo))).upd C (se .loc)):=#[λa o z=>upf z (by simp),[],by simp[Gs.upd,Gs.hid]];have jU:=λx e=>S.fi.mem (aU.mpr #[(x,NameKind.free),bi.mpr #[mG e,rfl],rfl]);(have tM:∀x,((relabel scope X.env).names.lookup x=se .cell\/(relabel scope X.env).names.lookup x=se .free)->scope.names.lookup x=se .free:=λx hx=>by rcases hx with hx | hx;obtain⟨k,e,z⟩:=w6 hx;rcases z with z | ⟨z,_⟩;subst z;exact absurd rfl (S.cell _ (mG e));subst z;exact e;obtain⟨k,e,z⟩:=w6 hx;rcases z with z | ⟨_,z⟩;subst z;exact e;cases z);refine#[_,#[#[I.ok.mod,S.kind,I.ok.glob,I.ok.blt,λx y c h1 h2=>I.ok.inj x y c (i3 x c h1) (i3 y c h2),λx hx=>?_,I.ok.hd,I.ok.frames,λenv he=>?_],rfl,I.bare,q2,λb o e=>le.d _ _ (I.bs b o e),λa r z f=>?_,#[[],by simp[Gs.upd,Gs.hid,Gs.less,Wv]],Gs.upd_same,#[m,ns,λi x v e1 e2 e3=>?_],λx c e=>?_,?_],λq hq=>?_,le];obtain⟨c,e⟩:=ka (x,.free) (mG (tM x hx)) rfl;exact#[c,e];obtain⟨k,L,f,r⟩:=I.ok.fr env he;refine#[k,L,f,.inr ?_];(have ny:∀{r},g.G L=se r->(∀o,r≠.pin o)->¬∃o,(L,o)∈fp:=λz n #[o,y]=>by rw[p _ y] at z;cases z;exact n _ rfl);show∃o,((g.less fp).hid s.heap X.env.locals).G L=_;rcases r with rfl | ⟨o,r⟩;obtain⟨o,e⟩:=I.hk.al _ _ I.lf;exact#[o,by rw[ly (by rw[lB (ny I.lf (by simp))];exact I.lf) e,QY rfl]];have r:=I.kp _ _ r rfl;exact#[o,by rw[jd (by rw[lB (ny r (by simp)),r];simp),lB (ny r (by simp)),r]];refine up ?_;have z:((g.less fp).hid s.heap X.env.locals).G a=se r:=z;by_cases y:∃o,(a,o)∈fp;rw[jd (by rw[sH y];simp),sH y] at z;cases z;unfold Gs.hid at z ⊢;dsimp only at z ⊢;rwa [lB y] at z;obtain⟨hi,j,ej,e2'⟩:=FN e2;(have nj:(N.drop n)[i-n]?=se x:=by rw[ur,show n+(i-n)=i by simp_all];exact e1);(have ex:=by have q:=congrArg (λl=>l[i-n]?) S.fr;simp only[bo,ej,uF,nj] at q;exact dX q);have hx:=S.sc x (aK nj);obtain⟨m',_,hl⟩:=I.lc;(have hv:Vis X.env.scope x:=by rcases jU x hx with z | z;exact .inr (.inl z);exact .inr (.inr z));obtain⟨u,r,lk⟩:=hl j x v ex e2' hv;refine#[u,le.du r,.inr #[?_,?_]];rcases H5 hx with z | z;exact .inl z;exact .inr z;obtain⟨c,ec⟩:=ka (x,.free) (mG hx) rfl;rcases lk with ⟨z,_⟩ | ⟨_,c',ec',o,ho,hd⟩;rcases jU x hx with y | y<;>(rw[z] at y;cases y);have q:=i3 x c ec;rw[ec'] at q;cases q;exact#[c,ec,o,old _ _ ho,hd];obtain⟨⟨v,o,ho,hd⟩,r⟩:=I.ce x c (i3 x c e);refine#[#[v,o,old _ _ ho,hd],.inr #[?_,rfl]];rcases r with r | ⟨⟨o',r⟩,_⟩;exact#[o,up (by rw[ly r ho,QX (I.cne (i3 x c e))])];exact#[o',upf r (by simp)];show _=N.length;rw[dW,n6,N8,S.len];rcases c8.mp hq with z | z;rw[cT.mp z,Gs.upd_ne ne,Gs.upd_same];exact upf (p q z) (by simp)
theorem Iv.out (I:Iv X g ρ h s)(nl:s.heap.get? l=ng)(nC:s.heap.get? C=ng)(ne:l≠C)(I6:Iv (Wv X scope N #[cl,C,s,g.hid s.heap X.env.locals]) g6 ρ6 h6 s6)(pl:g6.G l=se (.pin lo))(eC:s6.heap.get? C=se oC)(W:cE X.B g6 ws)(p:∀p∈pins,g.G p.1=se (.pin p.2)) :∃g7,Iv X g7 ρ h6 s6/\(∀q∈pins++[(C,oC)],g7.G q.1=se (.pin q.2))/\cE X.B g7 ws/\g7.G l=ng/\ZO X pins C:=by have fl:=(I.hk.hid I.nf).fresh nl;have fC:=(I.hk.hid I.nf).fresh nC;have gl:=I.hk.fresh nl;have gC:=I.hk.fresh nC;(have q1:=I6.hk.role (λr z=>by rw[pl] at z;cases z;exact .inl #[_,.inl rfl]) ng (λ_ _ _ e=>e) λr z=>by cases z);have lC:g6.G C=se .loc:=I6.lf;have q2:=q1.role (a:=C) (λr z=>by rw[Gs.upd_ne (Ne.symm ne),lC] at z;cases z;exact .inr rfl) (se (.pin oC)) (λ_ _ _ e=>e) λr z=>#[oC,eC,λo' y=>by cases z;rcases y with y | y<;>cases y;rfl,λo' y=>by cases z;cases y];(have up:∀{a r},g6.G a=se r->a≠l->a≠C->((g6.upd l ng).upd C (se (.pin oC))).G a=se r:=λ{a r} z n1 n2=>by rw[Gs.upd_ne n2,Gs.upd_ne n1,z]);have x:Gr (g.hid s.heap X.env.locals) ((g6.upd l ng).upd C (se (.pin oC))):=#[λa r z f=>by rcases f with f | f;exact up (I6.kp a r z f) (by rintro rfl;rw[fl] at z;cases z) (by rintro rfl;rw[fC] at z;cases z);subst f;exfalso;by_cases y:g.G a=se .loc;obtain⟨o,e⟩:=I.hk.al a _ y;rw[ly y e] at z;by_cases w:a=X.env.locals;rw[QY w] at z;cases z;rw[QX w] at z;cases z;rw[jd y] at z;exact y z,I6.ip];obtain⟨I7,gr⟩:=I.back x q2 I6.os I6.bare;have le:Le g6 (g.back ((g6.upd l ng).upd C (se (.pin oC)))):=#[λa o z=>by rw[kO λy=>?_];exact up z (by rintro rfl;rw[pl] at z;cases z) (by rintro rfl;rw[lC] at z;cases z);obtain⟨o',e⟩:=I.hk.al a _ y;have:=I6.kp a _ (ly y e) (by by_cases w:a=X.env.locals<;>simp[w,Ro.fix]);rw[z] at this;by_cases w:a=X.env.locals;rw[QY w] at this;cases this;rw[QX w] at this;exact absurd this (by simp),[],by simp[Gs.back,Gs.upd]];refine#[_,I7,λq hq=>?_,le.held W,?_,#[λr z=>?_,λq hq e=>?_,λy c e e2=>?_]];rcases c8.mp hq with z | z;exact gr.f _ _ (p q z) (.inl rfl);rw[cT.mp z,kO (by rw[gC];simp),Gs.upd_same];rw[kO (by rw[gl];simp),Gs.upd_ne ne,Gs.upd_same];(cases f:r.fix with| false=>rfl| true=>have:=I.kp _ _ z f;rw[gC] at this;cases this);have:=p q hq;rw[e,gC] at this;cases this;obtain⟨⟨v,o,ho,_⟩,_⟩:=I.ce y c e;rw[e2,nC] at ho;cases ho
end
section
variable {X:Cz}{k:Nat}[Y:Yx X k] {tg iter fF c:Ru}{jZ:List Ru}{scope:U2}{N:List Q7}{fr:xaf}{n i:Nat}{fi:RI}{fg:RG}{fT:RT}{fa:RE}{mm:Bool}{pos pos1 py jq:Ue}{y:Q7}
include Y in
theorem FO {pins:List (Q5×Sr)}{ρ:R4}{h:TH}{ws:WL}{s:Q4}{P:D->TH->Prop}{use:Option (Value->Sem Unit)}{QQ:Value->Q4->Prop}(z:J X pins ρ h ws s)(q:(Wq mm fi n fr fg fT fa ρ h).sat P X.E)(S:SCo X scope N fr n iter)
  (hend:∀s6 l C oC mC,RP X (pins++[(C,oC)]) ρ ws P (.ref l) s6->s6.heap.get? C=se oC->LCg.NsObj oC mC->ZO X pins C->compPost (Rf X.B.P X.B.w) X.A X.xe use QQ (.ref l) C (.ok .next) s6)
  (hi:QI X tg iter fi) (hk:GO n fg) (hg:∀c:CF,QG (Wv X scope N c) tg fg) (ht:∀(c:CF) {pins ρ h ws s P},J (Wv X scope N c) pins ρ h ws s->(fT ρ h).sat P (λ_ _=>False) ->
   Rd (Rf X.B.P X.B.w) X.A (forIn jZ tj λc' r=>if r=tj then do let ok <-isTrue c' (Vp scope c.cl c.C X.env) (SB c' (Vp scope c.cl c.C X.env));pure (ForInStep.yield ok) else pure (ForInStep.yield r)) (TR (Wv X scope N c) pins ρ ws P) NoE s)
  (he:∀c:CF,QE (Wv X scope N c) fF fa):Rd (Rf X.B.P X.B.w) X.A (comprehension (.ListComp fF [#[tg,iter,jZ,0]] scope pos) scope X.env pos1 (newList []) ff (SB iter X.env) use) QQ X.xe s:=by
 obtain⟨g0,I0⟩:=z.inv;obtain⟨cl,ecl,i3,ka⟩:=H3 λy hy hf=>I0.ok.has y.1 (S.fi.mem (aU.mpr #[y,bi.mpr #[hy,by rw[hf];rfl],rfl]))
 refine wpAny_comprehension_free (use:=use) rfl S.fs ecl S.kind S.nm (Sd (hi.h z q.bnd) λv s1 h1=>Sd h1 λitv s2 h2=>?_);obtain⟨it,nx,h2,Sx,wi,fp,rfl,w,s0,ow,j,q⟩:=h2;cases j with | mk g I p W =>
 have pp:∀y∈pins,g.G y.1=se (.pin y.2):=λy z=>p y (c7 _ z);have pf:∀y∈fp,g.G y.1=se (.pin y.2):=λy z=>p y (dG _ z)
 refine R6 (wpAny_newFunctionEnv S.cell (by intro y hy;simp at hy) (λh₁ o6₁ iY₁=>?_) S.kind)
 dsimp only at o6₁ iY₁ ⊢
 generalize hH2:s2.heap.push { cls:=.type "list",dict:=ng,data:=.seq ([]:List Value).toArray}=HA at o6₁ iY₁ ⊢
 have hC:HA.objs.size=s2.heap.objs.size+1:=by rw[<-hH2,Heap.size_push]
 have tQ:s2.heap.objs.size≠HA.objs.size:=by rw[hC];exact cF (ky _)
 have old:∀b o,s2.heap.get? b=se o->h₁.get? b=se o:=λb o e =>
  iY₁.extBut b o (by rw[hC];exact cF (ig (Heap.lt_size e))) (Heap.get?_push_of_some _ (hH2▸Heap.get?_push_of_some _ e))
 have aE:h₁.get? s2.heap.objs.size=se (Vt [] 0):=iY₁.extBut _ _ tQ (Heap.get?_push_of_some _ (hH2▸Heap.get?_push_size _ rfl));have nl:s2.heap.get? s2.heap.objs.size=none:=gY
 have nC:s2.heap.get? HA.objs.size=none:=Heap.get?_none_of_le (by rw[hC];exact k8 _)
 generalize s2.heap.objs.size=l at aE tQ nl;generalize HA.objs.size=C at o6₁ iY₁ tQ nC;obtain⟨g1,I1,p1,kP⟩:=I.block (tk:=s2.toks+([]:List (Q7×Value)).length) S pf old nl nC tQ aE o6₁ i3 ka
 let Xc:=Wv X scope N #[cl,C,s2,(g.less fp).hid s2.heap X.env.locals]
 have lf:∀q∈fp,q.1≠l:=λq hq e=>by have:=I.hk.al _ _ (pf q hq);rw[e,nl] at this;obtain⟨_,z⟩:=this;cases z
 have cl':∀x c,cl.lookup x=se c->∃o,s2.heap.get? c=se o:=λx c e=>let #[#[v,o,ho,_],_]:=I.ce x c (i3 x c e);#[o,ho]
 have own:∀lo,∀q∈fp,ZO Xc [(l,lo)] q.1:=λlo q hq=>#[λr e=>by have e:((g.less fp).hid s2.heap X.env.locals).G q.1=se r:=e;rw[jd (by rw[sH #[_,hq]];simp),sH #[_,hq]] at e;exact absurd e (by simp),λy hy e=>lf q hq (by rw[<-e,cT.mp hy]),λx c e=>(ow q hq).c x c (i3 x c e)]
 have ownl:∀cZ:List (Q5×Sr),cZ.map (·.1)=fp.map (·.1)->ZO Xc cZ l:=λcZ ef=>#[λr e=>by
  have e:((g.less fp).hid s2.heap X.env.locals).G l=se r:=e;have:(g.less fp).G l=none:=by
   cases e1:(g.less fp).G l with
   | none=>rfl
   | some r=>obtain⟨_,z⟩:=I.hk.al _ _ (sJ e1);rw[nl] at z;cases z
  rw[jd (by rw[this];simp),this] at e;exact absurd e (by simp),λy hy e=>by
   have:y.1∈fp.map (·.1):=by rw[<-ef];exact uo hy
   obtain⟨q,hq,e2⟩:=aU.mp this;exact lf q hq (e2.trans e),λx c e e2=>by obtain⟨o,z⟩:=cl' x c e;rw[e2,nl] at z;cases z]
 have loop:∀s₃,s₃={ s2 with heap:=h₁,toks:=s2.toks+([]:List (Q7×Value)).length} ->
   U6 (Rf X.B.P X.B.w) X.A (.compLoop (.ListComp fF [#[tg,iter,jZ,0]] scope pos) 0 (.ref it) (.ref l) (Vp scope cl C X.env)) (compPost (Rf X.B.P X.B.w) X.A X.xe use QQ (.ref l) C) s₃:=by
  rintro s₃ rfl;refine H4 (λm s'=>∃(i:Nat) (ds:List D) (us:List Value) (c:Nat) (cZ:List (Q5×Sr)) (h':TH),J Xc ([(l,Vt us c)]++cZ) (bf n ng++Zf ρ fr) h' (wi++(ds.zip us++ws)) s'/\Sx i cZ/\cZ.map (·.1)=fp.map (·.1)/\ds.length=us.length/\us.length+m<=1000 /\
   (Y3 nx fg fT fa (bf n ng++Zf ρ fr) m i h').sat (λys h=>(RX.mk mm (ds++ys) h).sat P X.E) X.E) ?_ 1000
   #[0,[],[],0,fp,h2,#[g1,I1,p1,kP.held W],s0,rfl,rfl,by simp,by simpa using q.bnd]
  rintro m s5 ⟨i,ds,us,c,cZ,h5,j5,st5,ef,l5,m5,q5⟩;cases m with
  | zero=>exact q5.elim
  | succ m =>
   rw[qe] at q5;have ow5:∀q∈cZ,ZO Xc [(l,Vt us c)] q.1:=λq hq=>by
    have:q.1∈fp.map (·.1):=by rw[<-ef];exact uo hq
    obtain⟨q',hU,e2⟩:=aU.mp this;rw[<-e2];exact own _ q' hU
   split at q5
   .rename_i e5;refine Sd (w.step (X:=Xc) rfl Y.calm st5 ow5 j5 e5 (E:=NoE)) λr s6 hq=>?_;obtain⟨rfl,j6⟩:=hq;cases j6 with | mk g6 I6 p6 W6 =>
    obtain⟨mC,hnC,_⟩:=I6.lc;obtain⟨oC,eC,nC6⟩:=LCg.ns_obj hnC;have pl:=p6 _ aO;obtain⟨g7,I7,p7,W7,n7,oC7⟩:=(I.less pf ow).out nl nC tQ I6 pl eC W6 (pins:=pins) λy z=>by rw[lB λ#[o,w]=>(ow _ w).p y z rfl];exact pp y z
    have r7:=yY I7 p7 (ws:=ws) (λw z=>W7 w (dG _ z)) l5 (bW (by lia) (show 1000<=sizeLine by decide)) n7 (λ_ _ e=>e) (I6.hk.st _ _ (.inr pl)) (by have q5:(RX.mk mm (ds++[]) h5).sat P X.E:=q5;rwa [mw] at q5) s6.toks
    exact hend s6 l C oC mC r7 eC nC6 oC7
   .rename_i d e5;refine Sd (w.step (X:=Xc) rfl Y.calm st5 ow5 j5 e5 (E:=NoE)) λr s6 hq=>?_;obtain⟨u,rfl,hq⟩:=hq;obtain⟨ρ1,e6,q5⟩:=q5.o;refine Sd hq λ_ s7 #[fp7,st7,ef7,j7]=>Sd ((hg _).h j7 e6) λ_ s8 j8=>Sd (ht _ j8 q5.bnd.unx) λok s9 #[h9,j9,q9]=>?_;obtain⟨gl,gk⟩:=hk _ _ _ e6;have weak:∀{pins h ws s},J Xc pins ρ1 h ws s->J Xc pins (bf n ng++Zf ρ fr) h ws s:=λj=>j.weak gl.symm λi d e=>by rw[gk i (FN e).1];exact e
    cases ok with
    | false=>exact#[m,ky _,i+1,ds,us,c,fp7,h9,weak j9,st7,ef7.trans ef,l5,by lia,q9]
    | true =>
     refine Sd ((he _).h j9 q9.bnd.unx) λv sA #[dv,hA,jA,qA]=>?_;have lA:sA.heap.get? l=se (Vt us c):=by cases jA with | mk g I p W=>exact I.hk.st _ _ (.inr (p _ aO))
     refine wpAny_list_append_plain (items:=us.toArray) #[c,lA] (λh' dJ iY=>?_) (by rw[gT];exact bW (by lia) (show 1000<=sizeLine by decide))
     obtain⟨c',e'⟩:=dJ;have jB:=(weak jA).pinS (pins':=fp7++[(l,Vt us c)]) (by simp +contextual [or_imp])
     have jC:=jB.turn (ob':=Vt (us++[v]) c') (ownl fp7 (ef7.trans ef)) (λb o hb e=>iY.extBut b o hb e) (by simpa using e') sA.toks
     refine#[m,ky _,i+1,ds++[dv],us++[v],c',fp7,hA,(jC.pinS (by simp +contextual [or_imp])).sub ?_,st7,ef7.trans ef,by simp[l5],by simp;lia,?_]
     .rw[mB l5];simp +contextual [or_imp]
     .refine(qA.bnd).mono λys h q=>?_;have q:(RX.mk mm (ds++dv::ys) h).sat P X.E:=q;simpa using q
   .exact q5.elim
 refine codeAny_compStart_list (loop _ rfl) (w.self s0 (λy hy=>?_) (loop _ rfl));exact old _ _ (I.hk.st _ _ (.inr (pf y hy)))
include Y
theorem FP (S:SCo X scope N fr n iter)(hi:QI X tg iter fi)(hk:GO n fg)(hg:∀c:CF,QG (Wv X scope N c) tg fg)(ht:∀c {pins ρ h ws s P},J (Wv X scope N c) pins ρ h ws s->(fT ρ h).sat P (λ_ _=>False)->Rd (Rf X.B.P X.B.w) X.A (forIn jZ tj λc' r=>if r=tj then do let ok <-isTrue c' (Vp scope c.cl c.C X.env) (SB c' (Vp scope c.cl c.C X.env));pure (ForInStep.yield ok) else pure (ForInStep.yield r)) (TR (Wv X scope N c) pins ρ ws P) NoE s) (he:∀c:CF,QE (Wv X scope N c) fF fa):QE X (.ListComp fF [#[tg,iter,jZ,0]] scope pos) (Wq mm fi n fr fg fT fa):=#[λz q=>FO z q S (λs6 l C oC mC r eC nC oC'=>#[mC,nC.ns eC,λh' iY=>by obtain⟨d,h,j,p⟩:=r;exact#[d,h,j.drop oC' (λb o hb e=>iY.extBut b o hb e) s6.toks,p]]) hi hk hg ht he]
theorem FQ (S:SCo X scope N fr n iter)(hi:QI X tg iter fi)(hk:GO n fg)(hg:∀c:CF,QG (Wv X scope N c) tg fg)(ht:∀c {pins ρ h ws s P},J (Wv X scope N c) pins ρ h ws s->(fT ρ h).sat P (λ_ _=>False)->Rd (Rf X.B.P X.B.w) X.A (forIn jZ tj λc' r=>if r=tj then do let ok <-isTrue c' (Vp scope c.cl c.C X.env) (SB c' (Vp scope c.cl c.C X.env));pure (ForInStep.yield ok) else pure (ForInStep.yield r)) (TR (Wv X scope N c) pins ρ ws P) NoE s) (he:∀c:CF,QE (Wv X scope N c) fF fa) (hy:X.N[i]?=se y) (qK:X.env.scope.names.lookup y=se .local) (tC:U9 (.ListComp fF [#[tg,iter,jZ,0]] scope pos) (se (.Name y py)) jq.line X.env=pure tj):QS X (.Assign [.Name y py] (.ListComp fF [#[tg,iter,jZ,0]] scope pos) jq) (Rn (Wq mm fi n fr fg fT fa) (rN i)):=#[λ{pins ρ h ws s P} z q=>by rw[exec_Assign_Name_used _ _ _ _ tC];refine Q3 (wpAny_standAt (Q3 ?_));show Rd _ X.A (do let _ <-comprehension (.ListComp fF [#[tg,iter,jZ,0]] scope pos) scope X.env _ (newList []) ff (SB iter X.env) (se (assign (.Name y py) X.env))) _ _ s;refine Q3 (Sd (FO z q.bnd S (λs6 l C oC mC r eC nC oC'=>?_) hi hk hg ht he) λ_ s' hq=>Q8 (Q8 hq));obtain⟨d,h6,j,q⟩:=r;obtain⟨ρ',e,q⟩:=q.o;cases e;exact wpAny_assign_Name (j.store Y.nd hy (.inl qK) (.inr qK) λs7 j7=>by(have e7:=by cases j7 with | mk g I p W=>exact I.hk.st _ _ (.inr (p _ (dG _ aO))));refine#[mC,nC.ns e7,λh' iY=>#[_,h6,j7.drop oC' (λb o hb e=>iY.extBut b o hb e) s7.toks,?_]];rw[<-eW];exact q)]
theorem ze (hk:GO n fg)(S:SCo X scope N fr n iter)(hi:QI X tg iter fi)(hg:∀c:CF,Yx (Wv X scope N c) k->QG (Wv X scope N c) tg fg)(he:∀c:CF,Yx (Wv X scope N c) k->QE (Wv X scope N c) fF fa):QE X (.ListComp fF [#[tg,iter,[],0]] scope pos) (UJ N mm fi n fr fg Si fa) :=FP S hi hk (λc=>hg c (Y.comp S.nd)) (λc {pins ρ h ws s P} z q=>wpAny_tests_nil #[_,z,q]) λc=>he c (Y.comp S.nd)
theorem FR (hk:GO n fg)(S:SCo X scope N fr n iter)(hi:QI X tg iter fi)(hg:∀c:CF,Yx (Wv X scope N c) k->QG (Wv X scope N c) tg fg)(ht:∀cc:CF,Yx (Wv X scope N cc) k->QT (Wv X scope N cc) c fT)(he:∀c:CF,Yx (Wv X scope N c) k->QE (Wv X scope N c) fF fa):QE X (.ListComp fF [#[tg,iter,[c],0]] scope pos) (UJ N mm fi n fr fg fT fa) :=FP S hi hk (λc=>hg c (Y.comp S.nd)) (λc {pins ρ h ws s P} z q=>wpAny_tests_one ((ht c (Y.comp S.nd)).h z q)) λc=>he c (Y.comp S.nd)
theorem FS (hk:GO n fg)(S:SCo X scope N fr n iter)(hi:QI X tg iter fi)(hg:∀c:CF,Yx (Wv X scope N c) k->QG (Wv X scope N c) tg fg)(he:∀c:CF,Yx (Wv X scope N c) k->QE (Wv X scope N c) fF fa) (hy:X.N[i]?=se y:=by rfl) (qK:X.env.scope.names.lookup y=se .local:=by rfl) (tC:U9 (.ListComp fF [#[tg,iter,[],0]] scope pos) (se (.Name y py)) jq.line X.env=pure tj:=by rfl):QS X (.Assign [.Name y py] (.ListComp fF [#[tg,iter,[],0]] scope pos) jq) (Rn (UJ N mm fi n fr fg Si fa) (rN i)) :=FQ S hi hk (λc=>hg c (Y.comp S.nd)) (λc {pins ρ h ws s P} z q=>wpAny_tests_nil #[_,z,q]) (λc=>he c (Y.comp S.nd)) hy qK tC
theorem FU (hk:GO n fg)(S:SCo X scope N fr n iter)(hi:QI X tg iter fi)(hg:∀c:CF,Yx (Wv X scope N c) k->QG (Wv X scope N c) tg fg)(ht:∀cc:CF,Yx (Wv X scope N cc) k->QT (Wv X scope N cc) c fT)(he:∀c:CF,Yx (Wv X scope N c) k->QE (Wv X scope N c) fF fa) (hy:X.N[i]?=se y:=by rfl) (qK:X.env.scope.names.lookup y=se .local:=by rfl) (tC:U9 (.ListComp fF [#[tg,iter,[c],0]] scope pos) (se (.Name y py)) jq.line X.env=pure tj:=by rfl):QS X (.Assign [.Name y py] (.ListComp fF [#[tg,iter,[c],0]] scope pos) jq) (Rn (UJ N mm fi n fr fg fT fa) (rN i)) :=FQ S hi hk (λc=>hg c (Y.comp S.nd)) (λc {pins ρ h ws s P} z q=>wpAny_tests_one ((ht c (Y.comp S.nd)).h z q)) (λc=>he c (Y.comp S.nd)) hy qK tC
end
structure SM (X:Cz)(o:Ru)(m:Q7)(av:Ue)(es:List Ru)(ax:Ue):Prop where
 base:attributeBase o m X.env (SB o X.env)=SB o X.env
 few:((backTo ax (RD es X.env)).all (λx=>! x.1)&&(backToKw ax (keywordEach [] X.env)).all (λx=>x.1.isSome)
  &&decide (es.length+([]:List Keyword).length+(if([]:List Keyword).isEmpty then 0 else 1)<30))=tj
 line:(av.endLine==ax.line)=tj
 pl:(backTo ax (RD es X.env)).any (·.1)=ff
abbrev zf (s:Q4)(u:Value)(T:String):Prop:=s.TypeIs u T/\∀a,u=.ref a->∃ob,s.heap.get? a=se ob/\ob.dict=ng
section
variable {X:Cz}{k:Nat}[Y:Yx X k] {pins:List (Q5×Sr)}{ρ:R4}{h:TH}{ws:WL}{s:Q4}{P:D->TH->Prop}{x y:D}{u v:Value}{ds:List D}{us:List Value}{o a b e:Ru}{es:List Ru}{fa fb fc:RE}{fA:RA}{av ax:Ue}{name:Q7}{T id:String}{C:D->TH->Prop}{G:D->List D->TH->Prop}{ks:List Ry}
omit Y in
theorem J.tyL (j:J X pins ρ h ((x,u)::ws) s)(e:eL h x=se ds):zf s u "list":=by obtain⟨a,us,rfl,l,z,⟨n,f⟩,_⟩:=j.opL aO e;exact#[#[_,f,rfl],λb q=>by cases q;exact#[_,f,rfl]]
omit Y in
theorem sK (e:VN h x=se (i,ds)):eL h x=se ds:=by
 unfold VN at e
 split at e
 .split at e
  .rename_i i' _ e1;cases e;show(match eg h _ with | some (.ml ds)=>se ds| _=>ng)=_;rw[e1]
  .cases e
 .cases e
omit Y in
theorem J.tyD (j:J X pins ρ h ((x,u)::ws) s)(e:Yi x h=tj):zf s u "dict":=by
 unfold Yi at e
 split at e
 .rename_i p e1;obtain⟨kl,a,us,rfl,l,z,⟨n,f⟩,_⟩:=j.opD aO e1;refine#[f.typeIs,λb q=>?_];cases q;obtain⟨ob,_,_,h1,h2,_⟩:=f;exact#[ob,h1,h2.2.1]
 .cases e
omit Y in
theorem bm (pa:PlainAttrs T)(slot:Slot T name id)(hty:typeOf (.builtin id)=pure (.type "method_descriptor"))(sm:SM X o name av es ax)(ho:QE X o fa)(ha:QA X es fA)(z:J X pins ρ h ws s)(q:(fa ρ h).sat (λx h=>C x h/\(fA ρ h).sat (λys h=>G x ys h) X.E) X.E)
  (hC:∀{x u h s},J X pins ρ h ((x,u)::ws) s->C x h->zf s u T) (hm:∀{x u h s ds us},ds.length=us.length->J X pins ρ h (ds.zip us++(x,u)::ws) s->G x ds h->X.wp (call (.builtin id) (u::us)) (RP X pins ρ ws P) s):X.wp (SB (.Call (.Attribute o name av) es [] ax) X.env) (RP X pins ρ ws P) s :=
 Uk sm.base sm.few sm.line rfl (Sd (ho.h z q) λu s1 #[x,h1,z,c,q]=>by obtain⟨t1,t2⟩:=hC z c;exact#[T,id,pa,slot,hty,t1,t2,Calls.callWith_builtin sm.pl (f9 sm.pl (Sd (ha.h (pos:=ax) z q) λus s2 #[ds,h2,l,z,q]=>hm l z q))])
omit Y in
theorem J.lset {i n:Nat}{a:Q5}{ds':List D}{us':List Value}{f:Array Value->Array Value}(j:J X pins ρ h ws s)(m:(.at i,.ref a)∈ws)(eh:h[i]?=se (.ml ds))(e:s.heap.get? a=se (Vt us n))(hf:f us.toArray=us'.toArray)(l:ds'.length=us'.length)(z:us'.length<=sizeLine)(sub:∀w∈ds'.zip us',w∈ws)(t:Nat):J X pins ρ (hs h i (.ml ds')) ws { s with heap:=s.heap.update a (Obj.mapSeq f),toks:=t}:=by have q:=PySem.IsL.update e f;rw[hf] at q;exact j.setL m eh (λb o hb e=>(Heap.get?_update_other s.heap (Obj.mapSeq f) (Ne.symm hb)).trans e) q l z sub t
theorem zg:16777216<=sizeLine:=Γ
theorem N9 (ho:QE X o fa)(ha:QA X es fA)(sm:SM X o "append" av es ax:=by exact⟨rfl,rfl,rfl,rfl⟩):QE X (.Call (.Attribute o "append" av) es [] ax) (Wu fa fA):=#[λ{pins ρ h ws s P} z q=>by refine bm re PySem.F.slot_list_append PySem.F.type_list_append sm ho ha z (q.bnd.mono λx h q=>?_) (C:=λx h=>∃p,VN h x=se p) (G:=λx ys h=>(match ys with| [y]=>Rz (VN h x) λp=>RU (bH (Sn p.2) 16777216) (R.ok D.non (hs h p.1 (.ml (Ze p.2 [y]))))| _=>R.no).sat P X.E) (λz #[p,e]=>z.tyL (sK e)) λ{x u h s ds us} l z q=>?_;obtain⟨p,e,q⟩:=q.o;exact#[#[p,e],q.bnd];split at q;rename_i y;obtain⟨⟨i,ds⟩,e,q1⟩:=q.o;obtain⟨lt,q2⟩:=q1.i;obtain⟨v,rfl,z⟩:=one l z;obtain⟨a,us,rfl,rfl,eh,l,zz,⟨n,f⟩,z⟩:=z.opM (a7 _ aO) e;(have lt:ds.length<16777216:=by rw[aV] at lt;simpa [cD] using lt);have:=zg;refine TB F.slot_list_append #[_,f,rfl] F.entry_list_append (F.args_list_append_2 _ _) (PySem.list_append a us.toArray n v (by exact zz)) #[f,#[.non,_,((z.lset (us':=us++[v]) (ds':=ds++[y]) (by simp) eh f (by simp) (by simp[l]) (by simp;exact l▸lt) (λw hw=>?_) s.toks).sub (by simp +contextual [or_imp])).add λ_=>.non,?_]];rw[mB l] at hw;simp at hw ⊢;grind;rw[gN] at q2;exact q2;exact q.elim]
theorem Oa (ho:QE X o fa)(ha:QA X es fA)(sm:SM X o "extend" av es ax:=by exact⟨rfl,rfl,rfl,rfl⟩):QE X (.Call (.Attribute o "extend" av) es [] ax) (rExt fa fA):=#[λ{pins ρ h ws s P} z q=>by refine bm re PySem.F.slot_list_extend PySem.F.type_list_extend sm ho ha z (q.bnd.mono λx h q=>?_) (C:=λx h=>∃p,VN h x=se p) (G:=λx ys h=>(match ys with| [y]=>Rz (VN h x) λp=>Rz (eL h y) λes=>RU (bQ (Sn p.2+Sn es) 16777216) (R.ok D.non (hs h p.1 (.ml (Ze p.2 es))))| _=>R.no).sat P X.E) (λz #[p,e]=>z.tyL (sK e)) λ{x u h s ds us} l z q=>?_;obtain⟨p,e,q⟩:=q.o;exact#[#[p,e],q.bnd];split at q;obtain⟨⟨i,ds⟩,e,q1⟩:=q.o;obtain⟨es,e2,q2⟩:=q1.o;obtain⟨lt,q3⟩:=q2.i;obtain⟨v,rfl,z⟩:=one l z;obtain⟨b,vs,rfl,l2,zh,⟨n2,f2⟩,z⟩:=z.opL aO e2;obtain⟨a,us,rfl,rfl,eh,l,zz,⟨n,f⟩,z⟩:=z.opM (dG _ (a7 _ aO)) e;(have lt:ds.length+es.length<=16777216:=by simpa [aV] using lt);(have i0:us.toArray.size+vs.toArray.size<=sizeLine:=by have:=zg;simp;lia);(have tD:¬(! us.toArray.isEmpty&&Builtin.List.listTooLong (us.toArray.size+vs.toArray.size))=tj:=by rw[Bm i0,zM];exact qN);refine TB F.slot_list_extend #[_,f,rfl] F.entry_list_extend (F.args_list_extend_2 _ _) (AutoSeq1.list_extend_list_list_0 a us.toArray n b vs.toArray n2 tD (by exact zz) (by exact oj i0)) #[f,f2,#[.non,_,((z.lset (us':=us++vs) (ds':=ds++es) (by simp) eh f (by simp) (by simp[l,l2]) (by simpa using i0) (λw hw=>?_) s.toks).sub (by simp +contextual [or_imp])).add λ_=>.non,?_]];rw[mB l] at hw;simp at hw ⊢;grind;rw[gN] at q3;exact q3;exact q.elim]
theorem Ob (ho:QE X o fa)(sm:SM X o "pop" av [] ax:=by exact⟨rfl,rfl,rfl,rfl⟩):QE X (.Call (.Attribute o "pop" av) [] [] ax) (Yd fa):=#[λ{pins ρ h ws s P} z q=>by refine bm re PySem.F.slot_list_pop PySem.F.type_list_pop sm ho qD z (q.bnd.mono λx h q=>?_) (C:=λx h=>∃p,VN h x=se p) (G:=λx ys h=>ys=[]/\(Rz (VN h x) λp=>Rz (eg p.2 (Sn p.2-1)) λy=>R.ok y (hs h p.1 (.ml (Zu p.2)))).sat P X.E) (λz #[p,e]=>z.tyL (sK e)) λ{x u h s ds us} l z #[ed,q0]=>?_;obtain⟨p,e,_⟩:=q.o;exact#[#[p,e],rfl,q];subst ed;cases us with| cons _ _=>cases l| nil =>obtain⟨⟨i,ds⟩,e,q1⟩:=q0.o;obtain⟨y,e2,q2⟩:=q1.o;obtain⟨a,us,rfl,rfl,eh,l,zz,⟨n,f⟩,z⟩:=z.opM aO e;rw[aW,aV] at e2;obtain⟨v,e3,_⟩:=z.item l e2;have mv:(y,v)∈ds.zip us:=aK (bP.mpr #[e2,e3]);refine TB F.slot_list_pop #[_,f,rfl] F.entry_list_pop (F.args_list_pop_1 _) (MeetsSeq.list_pop_last a us.toArray n v (by simpa [l] using e3) (by exact zz)) #[f,#[y,_,(z.lset (ds':=ds.dropLast) (by simp) eh f (by rw[gT,List.eraseIdxIfInBounds_toArray,HL]) (by simp[l]) (by simp;exact oj zz) (λw hw=>?_) s.toks).sub (by simp +contextual [or_imp,mv]),?_]];obtain⟨j,hj⟩:=bz hw;rw[bP] at hj;simp only[n5] at hj;obtain⟨h1,h2⟩:=hj;have hm:w∈ds.zip us:=aK (i:=j) (bP.mpr ?_);simp[hm];constructor;split at h1;exact h1;cases h1;split at h2;exact h2;cases h2;rw[u7] at q2;exact q2]
theorem Oc (ho:QE X o fa)(sm:SM X o "clear" av [] ax:=by exact⟨rfl,rfl,rfl,rfl⟩):QE X (.Call (.Attribute o "clear" av) [] [] ax) (rClr fa):=#[λ{pins ρ h ws s P} z q=>by refine bm re PySem.F.slot_list_clear PySem.F.type_list_clear sm ho qD z (q.bnd.mono λx h q=>?_) (C:=λx h=>∃p,VN h x=se p) (G:=λx ys h=>ys=[]/\(Rz (VN h x) λp=>R.ok .non (hs h p.1 (.ml []))).sat P X.E) (λz #[p,e]=>z.tyL (sK e)) λ{x u h s ds us} l z #[ed,q0]=>?_;obtain⟨p,e,_⟩:=q.o;exact#[#[p,e],rfl,q];subst ed;cases us with| cons _ _=>cases l| nil =>obtain⟨⟨i,ds⟩,e,q1⟩:=q0.o;obtain⟨a,us,rfl,rfl,eh,l,zz,⟨n,f⟩,z⟩:=z.opM aO e;exact TB F.slot_list_clear #[_,f,rfl] F.entry_list_clear (F.args_list_clear_1 _) (AutoSeq1.list_clear_list_0 a us.toArray n (by exact zz)) #[f,#[.non,_,((z.lset (by simp) eh f rfl rfl (by simp) (by simp) s.toks).sub (by simp +contextual [or_imp])).add λ_=>.non,q1]]]
theorem Od (ho:QE X o fa)(ha:QA X es fA)(sm:SM X o "index" av es ax:=by exact⟨rfl,rfl,rfl,rfl⟩):QE X (.Call (.Attribute o "index" av) es [] ax) (rIdx fa fA):=#[λ{pins ρ h ws s P} z q=>by refine bm re PySem.F.slot_list_index PySem.F.type_list_index sm ho ha z (q.bnd.mono λx h q=>?_) (C:=λx h=>∃p,eL h x=se p) (G:=λx ys h=>(match ys with| [D.int n]=>Rz (eL h x) λds=>Rz (RB X8 ds) λns=>Rz (YG n ns) λj=>R.ok (D.int (.ofNat j)) h| _=>R.no).sat P X.E) (λz #[p,e]=>z.tyL e) λ{x u h s ds us} l z q=>?_;obtain⟨p,e,q⟩:=q.o;exact#[#[p,e],q.bnd];split at q;rename_i n;obtain⟨ds,e,q⟩:=q.o;obtain⟨ns,e2,q⟩:=q.o;obtain⟨j,e3,q⟩:=q.o;obtain⟨v,rfl,z⟩:=one l z;obtain⟨t,rfl⟩:=z.int;obtain⟨a,us,rfl,l,zz,⟨c,f⟩,z⟩:=z.opL (a7 _ aO) e;(have at_:∀{i:Nat} {w:Value},us[i]?=se w->∃t,w=.int (ns.getD i 0) t:=λ{i w} hw=>by cases z with | mk g I p W=>exact y6 e2 l (λw z=>W w (c7 _ z)) hw);obtain⟨f1,f2⟩:=Jq e3;have nl:=(jx e2).1;(have jl:=by exact l▸nl▸(aQ.mp f1).1);(have line:sizeLine<2^63-1:=Γ);refine TB F.slot_list_index #[_,f,rfl] F.entry_list_index (F.args_list_index_2 _ _) (PySem.SeqAt.list_indexAt a us.toArray c ng ([].toArray) (.int n t) (ZF (.int n t)) j (by exact jl) (by lia) ?_ λm hm eO=>?_) #[f,λy hy=>?_,?_];obtain⟨t',e4⟩:=at_ (aT jl);show ZF _ us[j]=tj;rw[e4];simp[ZF,bR,f1];obtain⟨t',e4⟩:=at_ (aT hm);show ZF _ us[m]=ff;(have hm2:m<ns.length:=by rw[nl,l];exact hm);have:=f2 m ns[m] eO (aT hm2);rw[e4];simpa [ZF,bR,hm2] using this;obtain⟨i,hi⟩:=bz (zK.mpr hy);obtain⟨t',e4⟩:=at_ (by exact hi);exact e4▸SeqAt.EqAt.int_int _ _ _ _;exact(z.sub (by simp +contextual [or_imp])).gint q;exact q.elim]
omit Y
theorem Oe {j kk:Ry}(n:j=kk->kk∉r.map (·.1)):UB ((j,u)::r) kk v=if j=kk then(j,v)::r else(j,u)::UB r kk v:=by unfold UB;by_cases e:j=kk;subst e;rw[QY rfl,QY (by simp),be,QY rfl];congr 1;refine(cz λx hx=>?_).trans (wQ _);rw[QX λz=>n rfl (by exact z▸uo hx)];rfl;rw[QX e,wO,Q1 e,Bool.false_or];by_cases z:(r.any λkv=>decide (kv.1=kk))=tj;rw[QY z,QY z,be,QX e];rw[QX z,QX z];rfl
theorem zi:∀{ks:List Ry} {us:List Value},ks.length=us.length->(ks.zip us).map (·.1)=ks| [],[],_=>rfl| k::ks,u::us,l=>by rw[iB,be,zi (by simpa using l)]
theorem FW {e:D}  (nd:ks.Nodup)(l:ks.length=ds.length)(l2:ds.length=us.length):∃us',UB (ks.zip us) kk v=(U0 kk ks).zip us'/\(U0 kk ks).length=(Wr kk e ks ds).length/\(Wr kk e ks ds).length=us'.length/\us'.length<=us.length+1/\∀w∈(Wr kk e ks ds).zip us',w=(e,v)\/w∈ds.zip us:=by revert nd;refine yX (λ_=>#[[v],rfl,rfl,rfl,bE _,λw z=>.inl (by simpa [Wr] using z)]) (λj ks d ds u us l l2 ih nd=>?_) l l2;have e1:U0 kk (j::ks)=bif Yl j kk then j::ks else j::U0 kk ks:=rfl;have e2:Wr kk e (j::ks) (d::ds)=bif Yl j kk then e::ds else d::Wr kk e ks ds:=rfl;obtain⟨n1,n2⟩:=eG.mp nd;have ll:=l.trans l2;rw[e1,e2,oE,iB,Oe λz=>by rw[zi ll,<-z];exact n1];by_cases z:j=kk;rw[QZ z,QY z];exact#[v::us,rfl,by simpa using l,by simpa using l2,by simp,λw hw=>by rcases bj.mp hw with hw | hw;exact .inl hw;exact .inr (a7 _ hw)];rw[Q1 z,QX z];obtain⟨us',f1,f2,f3,f4,f5⟩:=ih n2;refine#[u::us',by rw[f1];rfl,by simpa using f2,by simpa using f3,by simpa using f4,λw hw=>?_];rcases bj.mp hw with hw | hw;exact .inr (by exact hw▸aO);exact(f5 w hw).imp id (a7 _)
theorem Of  (l:ks.length=ds.length)(l2:ds.length=us.length):∃us',without (ks.zip us) kk=(Vo kk ks).zip us'/\(Vo kk ks).length=(UW kk ks ds).length/\(UW kk ks ds).length=us'.length/\us'.length<=us.length/\∀w∈(UW kk ks ds).zip us',w∈ds.zip us:=by refine yX #[[],rfl,rfl,rfl,bE _,λw z=>z] (λj ks d ds u us l l2 ih=>?_) l l2;have e1:Vo kk (j::ks)=bif Yl j kk then Vo kk ks else j::Vo kk ks:=rfl;have e2:UW kk (j::ks) (d::ds)=bif Yl j kk then UW kk ks ds else d::UW kk ks ds:=rfl;obtain⟨us',f1,f2,f3,f4,f5⟩:=ih;(have e3:without ((j,u)::ks.zip us) kk=if j=kk then without (ks.zip us) kk else(j,u)::without (ks.zip us) kk:=by unfold without;by_cases z:j=kk<;>simp[z]);rw[e1,e2,oE,iB,e3];by_cases z:j=kk;rw[QZ z,QY z];exact#[us',f1,f2,f3,oj f4,λw hw=>a7 _ (f5 w hw)];rw[Q1 z,QX z];refine#[u::us',by rw[f1];rfl,by simpa using f2,by simpa using f3,by simpa using f4,λw hw=>?_];rcases bj.mp hw with hw | hw;exact hw▸aO;exact a7 _ (f5 w hw)
theorem FX:∀{ls:List Ry} {es:List D} {vs:List Value} {ks:List Ry} {ds:List D} {us:List Value},ks.Nodup->ks.length=ds.length->ds.length=us.length->ls.length=es.length->es.length=vs.length->∃us',merged (ks.zip us) (ls.zip vs)=(XZ ks ds ls es).1.zip us'/\(XZ ks ds ls es).1.length=(XZ ks ds ls es).2.length/\(XZ ks ds ls es).2.length=us'.length/\us'.length<=us.length+vs.length/\∀w∈(XZ ks ds ls es).2.zip us',w∈es.zip vs\/w∈ds.zip us| [],[],[],ks,ds,us,_,l,l2,_,_=>#[us,rfl,l,l2,by simp,λw z=>.inr z]| j::ls,e::es,v::vs,ks,ds,us,nd,l,l2,m,m2=>by obtain⟨us1,f1,f2,f3,f4,f5⟩:=FW nd l l2;obtain⟨us2,g1,g2,g3,g4,g5⟩:=FX (Jr nd).1 f2 f3 (by simpa using m) (by simpa using m2);refine#[us2,?_,g2,g3,by simp;lia,λw hw=>?_];show merged (UB (ks.zip us) j v) (ls.zip vs)=_;exact f1▸g1;rcases g5 w hw with z | z;exact .inl (a7 _ z);rcases f5 w z with z | z;exact .inl (by exact z▸aO);exact .inr z
include Y
theorem Og (ho:QE X o fa)(he:QE X a fb)(hf:QE X b fc)(sm:SM X o "get" av [a,b] ax:=by exact⟨rfl,rfl,rfl,rfl⟩)(h1:RD [a,b] X.env=(ff,SB a X.env)::RD [b] X.env:=by rfl)(h2:RD [b] X.env=(ff,SB b X.env)::RD [] X.env:=by rfl):QE X (.Call (.Attribute o "get" av) [a,b] [] ax) (Yu fa fb fc):=#[λ{pins ρ h ws s P} z q=>by refine bm rf AY PySem.F.type_dict_get sm ho (su he (su hf qD h2) h1) z (q.bnd.mono λx h q=>?_) (G:=λx ys h=>∃y z,ys=[y,z]/\(Rz (eK h x) λp=>Rz (dk y) λk=>match lk k p.1 p.2 with| some d=>R.ok d h| none=>R.ok z h).sat P X.E) (λz e=>z.tyD e) λ{x u h s ds us} l z #[y,w,ed,q0]=>?_;obtain⟨e,q⟩:=q.i;exact#[e,R.sat.unb (q.bnd.mono λy h q=>R.sat.unb (R.sat.unb (q.bnd.mono λw h q=>#[y,w,rfl,q])))];subst ed;obtain⟨p,e,q1⟩:=q0.o;obtain⟨kk,e2,q2⟩:=q1.o;obtain⟨u1,u2,rfl,z⟩:=two l z;(have hk:(RM X.B.P X.B.w).is kk u1=tj:=by obtain⟨_,_,r⟩:=z.at (d:=y) (u:=u1) (by simp);exact oY r e2);obtain⟨kl,a,us,rfl,l,zz,⟨n,f⟩,z⟩:=z.opD (a7 _ (a7 _ aO)) e;refine U7 AY f.typeIs PySem.F.entry_dict_get (PySem.F.args_dict_get_3 _ _ _) (meets_dict_get_default (RM X.B.P X.B.w) a hk n u2) #[_,f.mapOf,?_];rcases vK kk kl l with ⟨a1,a2⟩ | ⟨d,v,a1,a2,a3⟩;rw[a1] at q2;exact a2▸#[_,_,(z.tok _).sub (by simp +contextual [or_imp]),q2];rw[a1] at q2;exact a2▸#[_,_,(z.tok _).sub (by simp +contextual [or_imp,a3]),q2]]
theorem Oh (ho:QE X o fa)(he:QE X a fb)(sm:SM X o "pop" av [a] ax:=by exact⟨rfl,rfl,rfl,rfl⟩)(h1:RD [a] X.env=(ff,SB a X.env)::RD [] X.env:=by rfl):QE X (.Call (.Attribute o "pop" av) [a] [] ax) (Y2 fa fb):=#[λ{pins ρ h ws s P} z q=>by refine bm rf AZ PySem.F.type_dict_pop sm ho (su he qD h1) z (q.bnd.mono λx h q=>?_) (G:=λx ys h=>∃y,ys=[y]/\(Rz (X7 h x) λp=>Rz (dk y) λk=>Rz (lk k p.2.1 p.2.2) λd=>R.ok d (hs h p.1 (.md (Vo k p.2.1) (UW k p.2.1 p.2.2)))).sat P X.E) (λz e=>z.tyD e) λ{x u h s ds us} l z #[y,ed,q0]=>?_;obtain⟨e,q⟩:=q.i;exact#[e,R.sat.unb (q.bnd.mono λy h q=>R.sat.unb #[y,rfl,q])];subst ed;obtain⟨⟨i,ks,ds⟩,e,q1⟩:=q0.o;obtain⟨kk,e2,q2⟩:=q1.o;obtain⟨d,e3,q3⟩:=q2.o;obtain⟨u1,rfl,z⟩:=one l z;(have hk:(RM X.B.P X.B.w).is kk u1=tj/\(keyPart u1).isSome=tj:=by obtain⟨_,_,r⟩:=z.at aO;refine#[oY r e2,?_];cases r<;>first |rfl|cases e2);obtain⟨kl,a,us,rfl,rfl,eh,l,zz,⟨n,f⟩,z⟩:=z.opMd (a7 _ aO) e;obtain⟨us',f1,f2,f3,f4,f5⟩:=Of kl l;rcases vK kk kl l with ⟨a1,a2⟩ | ⟨d',v,a1,a2,a3⟩;rw[a1] at e3;cases e3;rw[a1] at e3;cases e3;refine U7 AZ f.typeIs PySem.F.entry_dict_pop (PySem.F.args_dict_pop_2 _ _) (meets_dict_pop_there (RM X.B.P X.B.w) a hk.1 [] (.inl rfl) hk.2) #[_,v,f,Β,a2,λh' pD kQ=>#[_,_,(z.setD (by simp) eh (λb o hb e=>kQ.extBut b o hb e) n (by exact f1▸pD) f2 f3 (by exact bW f4 zz) (λw hw=>?_) _).sub (by simp +contextual [or_imp,a3]),q3]];exact c7 _ (f5 w hw)]
theorem Oi (ho:QE X o fa)(he:QE X a fb)(sm:SM X o "update" av [a] ax:=by exact⟨rfl,rfl,rfl,rfl⟩)(h1:RD [a] X.env=(ff,SB a X.env)::RD [] X.env:=by rfl):QE X (.Call (.Attribute o "update" av) [a] [] ax) (rUpd fa fb):=#[λ{pins ρ h ws s P} z q=>by refine bm rf AU PySem.F.type_dict_update sm ho (su he qD h1) z (q.bnd.mono λx h q=>?_) (G:=λx ys h=>∃y,ys=[y]/\(Rz (X7 h x) λp=>Rz (X7 h y) λr=>RU (! Nat.beq p.1 r.1&&(ZA p.2.1&&bQ (Sn p.2.1+Sn r.2.1) 1000)) (R.ok D.non (hs h p.1 (.md (XZ p.2.1 p.2.2 r.2.1 r.2.2).1 (XZ p.2.1 p.2.2 r.2.1 r.2.2).2)))).sat P X.E) (λz e=>z.tyD e) λ{x u h s ds us} l z #[y,ed,q0]=>?_;obtain⟨e,q⟩:=q.i;exact#[e,R.sat.unb (q.bnd.mono λy h q=>R.sat.unb #[y,rfl,q])];subst ed;obtain⟨⟨i,ks,ds⟩,e,q1⟩:=q0.o;obtain⟨⟨j,ls,es⟩,e2,q2⟩:=q1.o;obtain⟨eb,q3⟩:=q2.i;simp only[cI,kR] at eb;obtain⟨eb1,eb2,eb3⟩:=eb;obtain⟨u1,rfl,z⟩:=one l z;obtain⟨kl2,a2,vs,rfl,rfl,cN,l2,zh,⟨n2,f2⟩,z⟩:=z.opMd aO e2;obtain⟨kl,a1,us,rfl,rfl,eh,l,zz,⟨n,f⟩,z⟩:=z.opMd (dG _ (a7 _ aO)) e;(have ne:a1≠a2:=by cases z with | mk g I p W =>cases W (.at i,.ref a1) (by simp)with | at_ i1 =>cases W (.at j,.ref a2) (by simp)with | at_ i2 =>have r1:=sv eh g I.hk i1;have r2:=sv cN g I.hk i2;rintro rfl;rw[r1] at r2;cases r2;simp[gW] at eb1);obtain⟨us',f3,f4,f5,f6,f7⟩:=FX (u6 eb2) kl l kl2 l2;(have lt:=by simpa [aV] using eb3);(have h1000:1000<=sizeLine:=Γ);refine U7 AU f.typeIs PySem.F.entry_dict_update (PySem.F.args_dict_update_2 _ _) (meets_dict_update (RM X.B.P X.B.w) a1 a2 ne n2) #[_,_,f,f2,by simp;lia,λh' pD _ kQ=>#[_,_,((z.setD (by simp) eh (λb o hb e=>kQ.extBut b o hb e) n (by exact f3▸pD) f4 f5 (by lia) (λw hw=>?_) s.toks).sub (by simp +contextual [or_imp])).add λ_=>.non,q3]];rcases f7 w hw with z | z;simp[z];simp[z]]
end
theorem Oj {xs:List α}:∀n,n<=xs.length->(aR n).filterMap (xs[·]?)=xs.take n:=by intro n;induction n with| zero =>rintro _;simp| succ n ih =>rintro h;rw[og,List.filterMap_append,ih (by exact eI h),pP];rfl
theorem Om {xs:List α}:∀n,n<=xs.length->((aR n).map λ(k:Nat)=>(((n:Int)-1)+-1*k).toNat).filterMap (xs[·]?)=(xs.take n).reverse:=by intro n;induction n with| zero =>rintro _;rfl| succ n ih =>rintro h;rw[pJ,be,cB,qU];(have e:((λ(k:Nat)=>((((n+1:Nat):Int) - 1) + -1*k).toNat)∘iU)=λ(k:Nat)=>(((n:Int) - 1) + -1*k).toNat:=funext λk=>by exact NAG.gl35);(have e0:((((n+1:Nat)) - 1) + -1*((0:Nat):Int)).toNat=n:=by simp_all);rw[e,e0,ih (by exact eI h),aT (show n<xs.length by assumption),pP,aT (show n<xs.length by assumption),wz];rfl
theorem vP {us:List Value}{lo hi st:Option Int}(e:RC lo hi st us.length=(a,b,c))(q:(sliceRange a b c).filterMap (us[·]?)=r):UC us.toArray lo hi st=r.toArray:=by unfold UC;rw[gT,e];simpa using q
theorem Oo (us:List Value):UC us.toArray ng ng (se 1)=us.toArray:=by refine vP (show RC ng ng (se 1) us.length=(0,(us.length:Int),1)by simp[RC]) ?_;(have c:(if(1:Int)>0 then[Δ,0<(us.length:Int),((us.length:Int)-0+1-1)/1]else[Δ,0>(us.length:Int),(0-us.length-1-1)/(-1)]).toNat=us.length:=by lia);show AD _ ((aR (if 1>0 then[Δ,(0:Int)<us.length,((us.length:Int)-0+1-1)/1]else[Δ,(0:Int)>us.length,(0-(us.length:Int)-1-1)/(-1)]).toNat).map λ(k:Nat)=>(0+1*(k:Int)).toNat)=_;rw[c,show(λ(k:Nat)=>((0:Int)+1*k).toNat)=λk=>k from funext λk=>Β,uz,Oj _ (bE _),mu]
theorem Op (us:List Value):UC us.toArray ng ng (se (-1))=us.reverse.toArray:=by refine vP (show RC ng ng (se (-1)) us.length=((us.length:Int)-1,-1,-1)by simp[RC]) ?_;(have c:(if(-1)>0 then[Δ,(us.length:Int)-1< -1,(-1-((us.length:Int)-1)+-1-1)/ -1]else[Δ,(us.length:Int)-1>-1,(us.length-1- -1- -1-1)/(- -1)]).toNat=us.length:=by lia);show AD _ ((aR (if(-1)>0 then[Δ,(us.length:Int)-1< -1,(-1-((us.length:Int)-1)+-1-1)/ -1]else[Δ,(us.length:Int)-1>-1,(us.length-1- -1- -1-1)/(- -1)]).toNat).map λ(k:Nat)=>(((us.length:Int)-1)+-1*k).toNat)=_;rw[c,Om _ (bE _),mu]
theorem Oq (us:List Value)(b:Bool):UC us.toArray (se (if b then 0 else 1)) ng (se 2)=(NAP.U1 b us).toArray:=by(have e2:∀i,(RC (se i) ng (se 2) us.length).2.1=us.length:=λi=>by simp[RC]);(have e3:∀i,(RC (se i) ng (se 2) us.length).2.2=2:=λi=>by simp[RC]);cases b with| true =>rw[<-(xk us).1];(have e1:(RC (se 0) ng (se 2) us.length).1=0:=by(have:max 0 (min 0 (us.length:Int))=0:=by rfl);simpa [RC] using this);refine vP (a:=0) (b:=us.length) (c:=2) (show RC (se 0) ng (se 2) us.length=_ from Prod.ext e1 (Prod.ext (e2 0) (e3 0))) ?_;unfold sliceRange;congr 1;(have c:(if(2:Int)>0 then[Δ,(0:Int)<us.length,((us.length:Int)-0+2-1)/2]else[Δ,(0:Int)>us.length,(0-us.length-2-1)/(-2)]).toNat=(us.length+1)/2:=by rw[QY Γ];split<;>lia);show(aR (ue _)).map _=_;rw[c];refine cz λk _=>?_;rfl| false =>rw[<-(xk us).2];rcases pU us.length with z | z;have:us=[]:=nZ.mp z;subst this;rfl;(have e1:(RC (se 1) ng (se 2) us.length).1=1:=by(have:max (0:Int) (min 1 us.length)=1:=by exact NAG.gl36 z);simpa [RC] using this);refine vP (a:=1) (b:=us.length) (c:=2) (show RC (se 1) ng (se 2) us.length=_ from Prod.ext e1 (Prod.ext (e2 1) (e3 1))) ?_;unfold sliceRange;congr 1;(have c:(if(2:Int)>0 then[Δ,(1:Int)<us.length,((us.length:Int)-1+2-1)/2]else[Δ,(1:Int)>us.length,(1-us.length-2-1)/(-2)]).toNat=us.length/2:=by rw[QY Γ];split<;>lia);show(aR (ue _)).map _=_;rw[c];refine cz λk _=>?_;rfl
theorem zj:∀{ds:List D} {us:List Value} (b:Bool),ds.length=us.length->(ZJ ds b).length=(NAP.U1 b us).length/\(NAP.U1 b us).length<=us.length/\∀w∈(ZJ ds b).zip (NAP.U1 b us),w∈ds.zip us| [],[],_,_=>#[rfl,bE _,λw z=>by simpa [NAP.U1] using z]| d::ds,u::us,tj,l=>(by obtain⟨h1,h2,h3⟩:=zj ff (by simpa using l);refine#[congrArg iU h1,Nat.succ_le_succ h2,λw hw=>?_];rcases bj.mp hw with hw | hw;exact hw▸aO;exact a7 _ (h3 w hw))| d::ds,u::us,ff,l=>by obtain⟨h1,h2,h3⟩:=zj tj (by simpa using l);exact#[h1,oj h2,λw hw=>a7 _ (h3 w hw)]
theorem FY {ds:List D}{us:List Value}(l:ds.length=us.length)(a b:Nat):((ds.drop a).take b).length=((us.drop a).take b).length/\((us.drop a).take b).length<=us.length/\∀w∈((ds.drop a).take b).zip ((us.drop a).take b),w∈ds.zip us:=by refine#[by simp[l],by simp;lia,λw hw=>?_];obtain⟨i,hi⟩:=bz hw;rw[bP,wF,wF] at hi;split at hi;rw[ur,ur] at hi;exact aK (bP.mpr hi);cases hi.1
inductive OR (X:Cz) (pins:List (Q5×Sr)) (ρ:R4) (ws:WL) (P:Option Int->TH->Prop) (u:Value) (s:Q4):Prop
 | mk (o:Option Int) (h:TH) (j:J X pins ρ h ws s) (e:IsPart u o) (p:P o h)
structure QO (X:Cz)(e:Option Ru)(f:RO):Prop where
 h:∀{pins ρ h ws s P},J X pins ρ h ws s->(f ρ h).sat P X.E->X.wp (evalPart e X.env) (OR X pins ρ ws P) s
section
variable {X:Cz}{k:Nat}[Y:Yx X k] {o a b e:Ru}{fa fb:RE}{fl fu:RO}{pos p2:Ue}{m:Bool}{x y:Q7}{i n:Nat}{st:SD}{ρ:R4}{h:TH}{pins:List (Q5×Sr)}{ws:WL}{s:Q4}{ds:List D}
omit Y
theorem vQ:QO X ng rO0:=#[λz q=>by exact Q8 #[ng,_,z,.none,q]]
theorem vR (h:QE X a fa):QO X (se a) (Z1 fa):=#[λz q=>by refine Sd (h.h z q.bnd) λu s1 #[x,h1,z,q]=>?_;split at q;obtain⟨t,rfl⟩:=z.int;exact#[_,_,z.tl,.int _ t,q];exact q.elim]
theorem Os {x:D}(z4:J X pins ρ h ((x,v)::ws) s4)(sl:s4.heap.IsSliceOf sa vl vu .none)(pl:IsPart vl l)(pu:IsPart vu u)(q:(gSl m x l u h).sat P X.E)(hp:∀v,subscripted sli ff v (.ref sa)=operate [.ref sa,v] (getItem v (.ref sa))):X.wp (subscriptTail a sli v (.ref sa)) (RP X pins ρ ws P) s4:=by unfold gSl at q;split at q;rename_i z;obtain⟨hz,q⟩:=q.i;obtain⟨t,rfl⟩:=z4.str;obtain⟨l,rfl,rfl⟩:=part_of pl;obtain⟨u,rfl,rfl⟩:=part_of pu;have hz:=oi hz;refine VR (typeIs_str s4 z t) AV.lookup (getItem_meets (typeIs_str s4 z t) Γ AV PySem.F.entry_str_getitem (PySem.F.args_str_getitem_2 _ _) (meets_str_getitem_slice z t sa l u ng rfl) #[sl,?_]) (hp _);unfold Xt at hz q;unfold sliceMade slicePicked;by_cases y:((Builtin.Str.strSliceIndices (l.map (·.1)) (u.map (·.1)) 1 z.length).length==z.length)=tj;rw[QY y] at hz q;rw[QY (by exact y)];exact#[_,_,z4,q];rw[QX y] at hz q;rw[QX (by exact y)];exact#[hz,z4.tl.gstr q];rename_i ds;obtain⟨hw,q⟩:=q.i;obtain⟨c,us,rfl,le,zz,f,z5⟩:=z4.opS aO rfl;(have dZ:=by exact gT▸le.symm);refine VR f.typeIs wU.lookup (NAH.XO f sl pl pu (by rw[dZ];simp only[kR,Bool.and_eq_false_iff] at hw;rintro⟨h1,h2⟩;rcases hw with hw | hw<;>simp_all [gW]) ?_ (by exact gT▸zz)) (hp _);rw[dZ];obtain⟨g1,g2,g3⟩:=FY le (NAH.Ud ds.length 0 l) (NAH.Ud ds.length ds.length u-NAH.Ud ds.length 0 l);(have z6:J X pins ρ h ((cutD ds l u).zip ((us.drop (NAH.Ud ds.length 0 l)).take (NAH.Ud ds.length ds.length u-NAH.Ud ds.length 0 l))++ws) s4:=z5.sub λw hw=>by rcases c8.mp hw with hw | hw;exact c7 _ (g3 w hw);simp[hw]);exact#[_,_,z6.dat gY (λ_ _=>Heap.get?_push_of_some _) (Heap.get?_push_size _ rfl) (λg A r=>.tup #[_,r,λ_ e=>#[_,e,rfl,_,rfl]] g1 (bW g2 zz) A) s4.toks,q];rename_i x' n1 n2;obtain⟨ds,e1,q⟩:=q.o;(have nt:RQ x=ff:=by cases x<;>first |rfl|exact absurd rfl (n2 _));obtain⟨c,us,rfl,le,zz,f,z5⟩:=z4.opS aO e1;rw[nt] at f;obtain⟨n,f⟩:=f;have il:s4.heap.IsList c us.toArray:=#[_,f,rfl,n,rfl];refine VR il.typeIs slot_list_getitem.lookup (VH il sl pl pu .none (by simp) ?_ (by exact gT▸zz)) (hp _);rw[HK,<-le];obtain⟨g1,g2,g3⟩:=FY le (NAH.Ud ds.length 0 l) (NAH.Ud ds.length ds.length u-NAH.Ud ds.length 0 l);(have z6:J X pins ρ h ((cutD ds l u).zip ((us.drop (NAH.Ud ds.length 0 l)).take (NAH.Ud ds.length ds.length u-NAH.Ud ds.length 0 l))++ws) s4:=z5.sub λw hw=>by rcases c8.mp hw with hw | hw;exact c7 _ (g3 w hw);simp[hw]);exact z6.pushL g1 (bW g2 zz) q s4.toks
theorem Ot {lo hi:Option Ru}(he:QE X a fa)(hl:QO X lo fl)(hu:QO X hi fu):QE X (.Subscript a (.Slice lo hi ng p2) pos) (rSl m fa fl fu):=#[λ{pins ρ _ ws _ P} z q=>Subscript_ (Sd (he.h z q.bnd) λv s1 #[x,_,z,q]=>wpAny_Slice (Sd (hl.h z q.bnd) λvl s2 #[l,_,z,pl,q]=>Sd (hu.h z q.bnd) λvu s3 #[u,h3,z,pu,q]=>by exact Q8 (Os (z.kept (λ_ _=>Heap.get?_push_of_some _) s3.toks) (Heap.IsSliceOf.new ..) pl pu q λv=>by with_unfolding_all rfl)))]
theorem FZ {lo hi st:Option Ru}{G:D->Option Int->Option Int->Option Int->TH->Prop}(he:QE X a fa)(hl:QO X lo fl)(hu:QO X hi fu)(hs:QO X st ft)(z:J X pins ρ h ws s)(q:(fa ρ h).sat (λx h=>(fl ρ h).sat (λl h=>(fu ρ h).sat (λu h=>(ft ρ h).sat (λt h=>G x l u t h) X.E) X.E) X.E) X.E) (hG:∀{x l u t h},G x l u t h->t≠se 0/\∃ds:List D,eL h x=se ds/\∀us:List Value,ds.length=us.length->∃(ds':List D) (us':List Value),UC us.toArray l u t=us'.toArray/\ds'.length=us'.length/\us'.length<=us.length/\(∀w∈ds'.zip us',w∈ds.zip us)/\(RX.mk m ds' h).sat P X.E) (hp:∀u v,∃ops,subscripted (.Slice lo hi st p2) ff u v=operate ops (getItem u v)):X.wp (SB (.Subscript a (.Slice lo hi st p2) pos) X.env) (RP X pins ρ ws P) s :=Subscript_ (Sd (he.h z q) λv s1 #[x,_,z,q]=>wpAny_Slice (Sd (hl.h z q) λvl s2 #[l,_,z,pl,q]=>Sd (hu.h z q) λvu s3 #[u,h3,z,pu,q]=>Sd (hs.h z q) λvt s4 #[t,h4,z,pt,q]=>by have z5:J X pins ρ h4 ((x,v)::ws) { s4 with heap:=s4.heap.push { cls:=.type "slice",data:=.fields ([vl,vu,vt].toArray)}}:=z.kept (λ_ _=>Heap.get?_push_of_some _) s4.toks;obtain⟨t0,ds,e1,q⟩:=hG q;obtain⟨c,us,rfl,le,zz,⟨n,f⟩,z6⟩:=z5.opL aO e1;obtain⟨ds',us',g0,g1,g2,g3,q⟩:=q us le;have il:Heap.IsList (s4.heap.push { cls:=.type "slice",data:=.fields ([vl,vu,vt].toArray)}) c us.toArray:=#[_,f,rfl,n,rfl];obtain⟨ops,hp⟩:=hp (.ref c) (.ref s4.heap.objs.size);show Rd (Rf X.B.P X.B.w) X.A (subscriptTail a (.Slice lo hi st p2) (.ref c) (.ref s4.heap.objs.size)) (RP X pins ρ ws P) X.xe { s4 with heap:=s4.heap.push { cls:=.type "slice",data:=.fields ([vl,vu,vt].toArray)}};refine VR il.typeIs slot_list_getitem.lookup (VH il (Heap.IsSliceOf.new ..) pl pu pt t0 ?_ (by exact gT▸zz)) hp;rw[g0];(have z7:J X pins ρ h4 (ds'.zip us'++ws) { s4 with heap:=s4.heap.push { cls:=.type "slice",data:=.fields ([vl,vu,vt].toArray)}}:=z6.sub λw hw=>by rcases c8.mp hw with hw | hw;exact c7 _ (g3 w hw);simp[hw]);exact z7.pushL g1 (bW g2 zz) q s4.toks))
theorem Ou {i1 i2:Int}{j1 j2:Nat}{q1 q2:Ue}{bb:Bool}(he:QE X a fa)(h1:i1=(if bb then 0 else 1):=by rfl)(h2:i2=2:=by rfl):QE X (.Subscript a (.Slice (se (.Constant (.int i1) j1 q1)) ng (se (.Constant (.int i2) j2 q2)) p2) pos) (Zp m bb fa):=#[λ{pins ρ h ws s P} z q=>by subst h1 h2;refine FZ (G:=λx l u t h=>l=se (if bb then 0 else 1)/\u=ng/\t=se 2/\(Rz (eL h x) λds=>RX.mk m (ZJ ds bb) h).sat P X.E) (m:=m) he (vR yW) vQ (vR yW) z (q.bnd.mono λx h q=>?_) (λ{x l u t h} #[el,eu,et,q]=>?_) λu v=>#[_,by with_unfolding_all rfl];exact#[rfl,rfl,rfl,q];subst el eu et;obtain⟨ds,e1,q⟩:=q.o;refine#[by simp,ds,e1,λus le=>?_];obtain⟨g1,g2,g3⟩:=zj bb le;exact#[_,_,Oq us bb,g1,g2,g3,q]]
theorem Ov (ha:QE X a fa)(hb:QE X b fb)(hp:∀u v,∃ops,subscripted (.Slice ng ng (se b) p2) ff u v=operate ops (getItem u v):=by exact λ_ _=>⟨_,by with_unfolding_all rfl⟩):QE X (.Subscript a (.Slice ng ng (se b) p2) pos) (Zy m fa fb):=#[λ{pins ρ h ws s P} z q=>by refine FZ (G:=λx l u t h=>l=ng/\u=ng/\∃ds,eL h x=se ds/\((t=se 1/\(RX.mk m ds h).sat P X.E)\/(t=se (-1)/\(RX.mk m ds.reverse h).sat P X.E))) (m:=m) ha vQ vQ (vR hb) z (q.bnd.mono λx h q=>?_) (λ{x l u t h} #[el,eu,ds,e1,q]=>?_) hp;refine R.sat.unb (q.bnd.mono λy h q=>?_);obtain⟨ds,e1,q⟩:=q.o;split at q;exact#[rfl,rfl,ds,e1,.inl #[rfl,q]];rw[CD] at q;exact#[rfl,rfl,ds,e1,.inr #[rfl,q]];exact q.elim;subst el eu;rcases q with ⟨rfl,q⟩ | ⟨rfl,q⟩;exact#[by simp,ds,e1,λus le=>#[ds,us,Oo us,le,bE _,λ_ z=>z,q]];refine#[by simp,ds,e1,λus le=>#[ds.reverse,us.reverse,Op us,by simp[le],by simp,λw hw=>?_,q]];obtain⟨i,hi⟩:=bz hw;rw[bP] at hi;(have lt:=by simpa using (aQ.mp hi.1).1);refine aK (i:=ds.length-1-i) (bP.mpr ?_);rw[Af lt,Af (by exact le▸lt)] at hi;rw[<-le] at hi;exact hi]
end
class IpOk (op:Operator) (f:Int->Int->Int):Prop where
 h:∀{B:Cb} {A:Rg} {E Q s a b t u},Q (.int (f a b) s.toks) { s with toks:=s.toks+1}->Rd (Rf B.P B.w) A (inplaceOp op (.int a t) (.int b u)) Q E s
instance:IpOk .Add ug:=#[λh=>iadd_int h]
instance:IpOk .Sub qR:=#[λh=>isub_int h]
section
variable {X:Cz}{k:Nat}[Y:Yx X k] {o a b e:Ru}{fa fb fe:RE}{fA:RA}{pos aB px py pt pt2:Ue}{x y:Q7}{i j n kt k2:Nat}{st:SD}{fs:RS}{ρ ρ':R4}{h:TH}{pins:List (Q5×Sr)}{ws:WL}{s:Q4}{d xx yy:D}{ks:List Ry}{ds:List D}{g:Gs}{u v w:Value}{op:Operator}{iop:Int->Int->Int}{P:Fl->TH->Prop}
include Y in
theorem Ow (h:QE X e fa)(hi:X.N[i]?=se x:=by rfl)(hx:Loc X.env.scope x:=by first | exact Or.inl rfl | exact rd rfl)(hs:U9 e (se (.Name x aB)) pos.line X.env=pure ff:=by rfl)(hf:X.fn x=tj\/X.env.scope.names.lookup x=se .local:=by first | exact .inl rfl | exact .inr rfl):QS X (.Assign [.Name x aB] e pos) (Rn fa (rN i)):=#[λz q=>wpAny_Assign_Name (Sd (h.h z q.bnd) λv s1 #[d,h1,z,q]=>by obtain⟨ρ',e,q⟩:=q.o;cases e;exact z.store Y.nd hi hx hf λs2 z2=>#[_,_,z2,by rw[<-eW];exact q]) hs]
omit Y
theorem mQ (z:J X pins ρ h ws s)(mx:(xx,u)∈ws)(e:VN h xx=se (i,ds))(lt:m<ds.length)(mv:(d,v)∈ws)(q:∀s',J X pins ρ (hs h i (.ml (Yf ds m d))) ws s'->Q () s'):Rd (Rf X.B.P X.B.w) X.A (setItem u (.int m t) v) Q E s:=by obtain⟨a,us,rfl,rfl,eh,l,zz,⟨n,f⟩,z⟩:=z.opM mx e;have hn:=uK;refine PySem.W.ki_setAt f Β (by lia) Β (q _ ?_);rw[eW];refine(z.lset (us':=us.set m v) (dG _ mx) eh f (by simp) (by simp[l]) (by simpa using zz) (λw hw=>?_) s.toks).sub λw hw=>dG _ hw;obtain⟨i,hi⟩:=bz hw;rw[bP,qW,qW] at hi;split at hi;split at hi;obtain⟨h1,h2⟩:=hi;cases dX h1;cases dX h2;exact dG _ mv;have:=hi.2;cases this;exact c7 _ (aK (bP.mpr hi))
theorem Ox (z:J X pins ρ h ((yy,w)::(xx,u)::(d,v)::ws) s)(q:(gSet xx yy d ρ h).sat P X.E)(k:∀s' h',J X pins ρ h' ws s'->P (.nx ρ) h'->Q () s'):Rd (Rf X.B.P X.B.w) X.A (setItem u w v) Q E s:=by unfold gSet at q;split at q;obtain⟨⟨i,ds⟩,e,q⟩:=q.o;obtain⟨lt,q⟩:=q.i;obtain⟨t,rfl⟩:=z.int;exact mQ z (by simp) e (by rw[aV] at lt;simpa [cD] using lt) (by simp) λs' z=>k s' _ (z.sub (by simp +contextual [or_imp])) q;exact q.elim
theorem Oy (z:J X pins ρ h ((yy,w)::(xx,u)::(d,v)::ws) s)(q:(gDput xx yy d ρ h).sat P X.E)(k:∀s' h',J X pins ρ h' ws s'->P (.nx ρ) h'->Q () s'):Rd (Rf X.B.P X.B.w) X.A (setItem u w v) Q E s:=by obtain⟨⟨i,ks,ds⟩,e,q1⟩:=q.o;obtain⟨kk,e2,q2⟩:=q1.o;obtain⟨eb,q3⟩:=q2.i;rw[cI] at eb;(have hk:(RM X.B.P X.B.w).is kk w=tj:=by obtain⟨_,_,r⟩:=z.at aO;exact oY r e2);obtain⟨kl,a,us,rfl,rfl,eh,l,zz,⟨n,f⟩,z⟩:=z.opMd (a7 _ aO) e;obtain⟨us',f1,f2,f3,f4,f5⟩:=FW (u6 eb.1) kl l;(have lt:=by have:=eb.2;rw[aV] at this;simpa [cD] using this);have:=zg;refine wpAny_setItem_pairs hk f (λh' pD kQ=>k _ _ ((z.setD (by simp) eh (λb o hb e=>kQ.extBut b o hb e) n (by exact f1▸pD) f2 f3 (by lia) (λw hw=>?_) _).sub (by simp +contextual [or_imp])) q3) Β;rcases f5 w hw with z | z;simp[z];exact c7 _ z
theorem Oz (hv:QE X e fe)(ho:QE X o fa)(hi:QE X a fb)(hs:U9 e (se (.Subscript o a aB)) pos.line X.env=pure ff:=by rfl):QS X (.Assign [.Subscript o a aB] e pos) (WE fe fa fb):=#[λ{pins ρ h ws s P} z q=>wpAny_Assign_Subscript (Sd (hv.h z q.bnd) λv s1 #[d,_,z,q]=>Sd (ho.h z q.bnd) λu s2 #[x,_,z,q]=>Sd (hi.h z q.bnd) λw s3 #[y,h3,z,q]=>by have k:∀s' h',J X pins ρ h' ws s'->P (.nx ρ) h'->SR X pins ws P Flow.next s':=λs' h' z p=>#[_,h',z,p];cases hd:Yi x h3 with| true=>rw[hd] at q;exact Oy z q k| false=>rw[hd] at q;exact Ox z q k) hs]
theorem OA [I:IpOk op iop] (ho:QE X o fa)(hi:QE X a fb)(he:QE X e fe)(ha:∀ov iv new,augStore a ov iv new=(do holding [new,ov,iv] (setItem ov iv new);release [new,ov,iv] [];pure .next):=by intros;rfl):QS X (.AugAssign (.Subscript o a aB) op e pos) (Yw iop fa fb fe):=#[λz q=>wpAny_AugAssign_SubscriptAny (Sd (ho.h z q.bnd) λu s1 #[x,_,z,q]=>Sd (hi.h z q.bnd) λw s2 #[y,h2,z,q]=>by split at q;rename_i m;obtain⟨⟨i,ds⟩,e,q1⟩:=q.o;obtain⟨d0,e1,q2⟩:=q1.o;obtain⟨n,e2,q3⟩:=q2.o;obtain⟨t,rfl⟩:=z.int;obtain⟨c,us,rfl,l,zz,⟨n',f⟩,z'⟩:=z.opL (a7 _ aO) (sK e);rw[aW] at e1;obtain⟨v0,e3,z1⟩:=z'.item l e1;have hn:=uK;have lt:=(aQ.mp e1).1;(have lt2:=by exact l▸lt);refine wpAny_getItem_list #[_,f,rfl,n',rfl] Β (by lia) (by simpa using e3) ?_;(have hv:∃t,v0=.int n t:=by obtain⟨_,_,r⟩:=z1.at aO;cases r<;>first |(cases e2;exact#[_,rfl])|cases e2);obtain⟨t0,rfl⟩:=hv;refine Sd (he.h z1 q3.bnd) λv4 s4 #[d4,h4,z4,q4]=>?_;obtain⟨n4,e4,q5⟩:=q4.o;obtain⟨⟨i5,ds5⟩,e5,q6⟩:=q5.o;obtain⟨lt5,q7⟩:=q6.i;(have hv:∃t,v4=.int n4 t:=by obtain⟨_,_,r⟩:=z4.at aO;cases r<;>first |(cases e4;exact#[_,rfl])|cases e4);obtain⟨t4,rfl⟩:=hv;refine I.h ?_;refine mQ ((z4.tok (s4.toks+1)).add λ_=>.int) (by simp) e5 (by rw[aV] at lt5;simpa [cD] using lt5) aO λs' z=>#[_,_,z.sub (by simp +contextual [or_imp]),q7];exact q.elim) ha]
theorem Iv.ren (I:Iv X g ρ h s)(l:ρ'.length=ρ.length)(f:∀(i:Nat) d',ρ'[i]?=se (se d')->∃d,ρ[i]?=se (se d)/\∀u,DU X.B g d u->DU X.B g d' u):Iv X g ρ' h s :=#[I.ok,I.os,I.bare,I.hk,I.bs,I.kp,I.ip,I.lf,by obtain⟨m,a,b⟩:=I.lc;exact#[m,a,λi x d e1 e2 e3=>let #[d0,g1,g2]:=f i d e2;let #[u,r,lk]:=b i x d0 e1 g1 e3;#[u,g2 u r,lk]],I.ce,by exact l▸I.len]
theorem J.frzN (j:J X pins ρ h ws s)(e:ρ[i]?=se (se d))(e2:X7 h d=se (jj,ks,ds)):J X pins (Yf ρ i (se (.dic ks ds))) (hs h jj .no) ws s:=by(have bD:d=.at jj/\h[jj]?=se (.md ks ds):=by unfold X7 at e2;split at e2;split at e2;rename_i e1;cases e2;rw[aW] at e1;exact#[rfl,e1];cases e2;cases e2);obtain⟨rfl,eh⟩:=bD;cases j with | mk g I p W =>(have lt:=by exact I.hk.len▸(aQ.mp eh).1);have e0:g.ι[jj]?=se g.ι[jj]:=aT lt;generalize g.ι[jj]=a at e0;cases I.hk.th _ _ _ eh e0 with | md r dd ns kl l z A =>obtain⟨o,es,ep,e1,e3⟩:=id dd;obtain⟨x,q⟩:=I.hk.gone e1 r;have gr:Gr g (g.upd a (se (.dat o))):=#[λb r' z f=>by(have n:b≠a:=by rintro rfl;rw[r] at z;cases z;rcases f with f | f<;>cases f);rwa [Gs.upd_ne n],x.i];rw[show hs h jj .no=h.set jj .no from eW _ _ _,eW];have I2:=I.go gr q (λ_ _ _ e=>e) s.toks;refine#[_,I2.ren (by simp) λi' d' e'=>?_,λy z=>gr.f _ _ (p y z) (.inl rfl),x.held W];rw[qW] at e';split at e';rename_i ei;subst ei;split at e';cases dX e';refine#[_,e,λu du=>?_];(cases du with | at_ e4 =>have e4:g.ι[jj]?=se _:=e4;rw[e0] at e4;cases e4;exact .dic #[o,Gs.upd_same,λ_ e=>#[o,es,ep,e,e3]] ns kl l z (x.held A));cases e';exact#[d',e',λ_ z=>z]
theorem OB (pn:QS X st fs):QS X st (Zz i fs):=#[λ{pins ρ h ws s P} z q=>Sd (pn.h z q.bnd) λf s1 t=>by cases f with| next =>(obtain⟨ρ1,h1,z1,q1⟩:=t;replace q1:(match eg ρ1 i with| some (se d)=>Rz (X7 h1 d) λp=>R.ok (Fl.nx (Yf ρ1 i (se (.dic p.2.1 p.2.2)))) (hs h1 p.1 .no)| _=>R.no).sat P X.E:=q1;split at q1;rename_i d e;rw[aW] at e;obtain⟨⟨jj,ks,ds⟩,e2,q2⟩:=q1.o;exact#[_,_,z1.frzN e e2,q2];exact q1.elim)| ret v=>obtain⟨d,ρ1,h1,z1,q1⟩:=t;exact#[d,ρ1,h1,z1,q1]| brk=>exact t.elim| cont=>exact t.elim]
include Y
theorem OC (ha:QA X [a,b] fA)(hi:X.N[i]?=se x:=by rfl)(hj:X.N[j]?=se y:=by rfl)(hij:i≠j:=by decide) (hx:X.env.scope.names.lookup x=se .local:=by rfl) (hy:X.env.scope.names.lookup y=se .local:=by rfl) (hw:swappedStores [.Tuple [.Name x px,.Name y py] kt pt] (.Tuple [a,b] k2 pt2) X.env=pure (se [x,y]):=by with_unfolding_all rfl) (hs:swapsWithSole [.Tuple [.Name x px,.Name y py] kt pt] (.Tuple [a,b] k2 pt2) pos.line X.env=pure ff:=by rfl):QS X (.Assign [.Tuple [.Name x px,.Name y py] kt pt] (.Tuple [a,b] k2 pt2) pos) (rPar i j fA):=#[λ{pins ρ h ws s P} z q=>by show Rd _ _ _ _ _ _;rw[exec_Assign_arm];refine Q3 (wpAny_standAt ?_);rw[hs];refine Q3 (Q8 ?_);rw[QX Γ];refine Q3 (Tuple_ (Sd (ha.h z q.bnd) λus s1 #[ds,h1,l,z1,q1]=>?_));split at q1;rename_i d1 d2;obtain⟨u1,u2,rfl,z2⟩:=two l z1;refine R6 ?_ (by show 2<=sizeLine;decide);rw[hw];refine Q3 (Q8 ?_);show Rd (Rf X.B.P X.B.w) X.A (do rule "assign.swapped-stores";let items <-unpackItems (.ref s1.heap.objs.size) 2 ng;assignInOrder [λv=>bindName X.env y v,λv=>bindName X.env x v] items.reverse;pure Flow.next) _ _ _;refine Q3 (wpAny_rule (Q3 (unpackItems_tuple (items:=([u1,u2].toArray)) (z2.hd Y) (IsTup.new s1.heap _) λh' gQ=>?_)));have z3:=z2.kept (λb o e=>gQ b o (cF (Heap.lt_size (Heap.get?_push_of_some _ e))) (Heap.get?_push_of_some _ e)) s1.toks;show Rd _ _ (assignInOrder [λv=>bindName X.env y v,λv=>bindName X.env x v] [u2,u1]>>=λ_=>pure Flow.next) _ _ _;refine Q3 (Sa (wpAny_bindName (z3.store Y.nd hj (.inl hy) (.inr hy) λs4 z4=>?_)));refine Sa (wpAny_bindName (z4.store Y.nd hi (.inl hx) (.inr hx) λs5 z5=>VF (Q8 ?_)));rw[AF _ _ (Ne.symm hij)] at z5;refine#[_,h1,z5,?_];have q1:=q1;rw[eW,eW] at q1;exact q1;exact q1.elim]
end
end NAL.RZ
namespace NAL.EX
open PySem PySem.Spec PyProof.Rows
section
end
section
end
section
variable {prog:Rh}{w:RK}{A:Rg}{E:Value->Q4->Prop}{s:Q4}
theorem F3 {b:Nat}{p q:Bool×Q5}(hh:A.handled=ng)(hp:p.2<b)(hq:q.2<b)(st:Zl b [p,q] k s.heap)(hx:SeqAt p.1 s.heap p.2 xs)(hy:SeqAt q.1 s.heap q.2 ys) (hQ:∀h' x y,xs[k]?=se x->ys[k]?=se y->Zl b [p,q] (k+1) h'->jw h' s.heap.objs.size [x,y]->h'.objs.size=s.heap.objs.size+1->Kept b 2 s.heap h'->Q (se (.ref s.heap.objs.size)) { s with heap:=h'}) (hE:xs[k]?=ng\/ys[k]?=ng->∀h',Kept b 2 s.heap h'->Q ng { s with heap:=h'}):Rd (Rf prog w) A (pyNext (.ref (b+4))) Q E s:=by refine BH (aI:=[p,q]) (xss:=λj=>if j=0 then xs else ys) hh (by simp) (by exact Nat.le_add_left ..) (λr hr=>?_) st (λi r hr=>?_) (λh' ay vl vx z t sz kk=>?_) λhex h' kk=>hE ?_ h' kk;simp only[bj,gM,or_false] at hr;rcases hr with rfl | rfl<;>assumption;(match i,hr with| 0,hr=>cases hr;exact hx| 1,hr=>cases hr;exact hy| n+2,hr=>cases hr);(match ay,vl with| [x,y],_=>exact hQ h' x y (vx 0 (by exact k8 _)) (vx 1 (by exact ky _)) z t sz kk);obtain⟨i,hi,e⟩:=hex;match i,hi with| 0,_=>exact .inl e| 1,_=>exact .inr e
end
end NAL.EX
namespace PySem
theorem OD:typeLookup (.type "zip") "keys"=pure none:=by kernel_rfl
theorem OE:typeLookup (.type "zip") "__getattr__"=pure none:=by kernel_rfl
theorem OF:entryFor table "zip.__getattribute__"=se Builtin.«object.__getattribute__»:=entryFor_alias (id':="object.__getattribute__") (by kernel_rfl) (by decide +kernel) (by decide +kernel) (by kernel_rfl)
theorem OG (a:Q5)(vs:Array Value)(u:Tok):Meets (Builtin.«object.__getattribute__» #[[.ref a,.str "keys" u],[]]) (λA R s=>s.heap.get? a=se { cls:=.type "zip",dict:=ng,data:=.fields vs,slots:=([].toArray)}/\raisesAttr (.ref a) "keys" A R s) :=Meets.of_wp λprog w A R s #[hx,hs]=>by obtain⟨hp,g,d,tk,os⟩:=s;have hT:(#[hp,g,d,tk,os]:Q4).TypeIs (.ref a) "zip":=#[_,hx,rfl];have hmiss:=OD;unfold Builtin.«object.__getattribute__»;(repeat(any_goals(first |assumption|wp_step)));all_goals exact wpAny_raiseAttrError hs.1 hs.2 (attrMsg_fits (by decide +kernel) (by size_fits))
section
variable {prog:Rh}{w:RK}{A:Rg}{E:Value->Q4->Prop}{s:Q4}
theorem getAttr?_keys_zip (hx:s.heap.get? a=se { cls:=.type "zip",dict:=ng,data:=.fields vs,slots:=([].toArray)})(hA:A.handled=ng) (h:∀h' tk,(∀b ob,s.heap.get? b=se ob->h'.get? b=se ob)->Q ng { s with heap:=h',toks:=tk}) :Rd (Rf prog w) A (getAttr? (.ref a) "keys") Q E s:=by obtain⟨hp,g,d,tk,os⟩:=s;have hT:∀bv,(#[hp,g,d,bv,os]:Q4).TypeIs (.ref a) "zip":=λ_=>#[_,hx,rfl];have f1:=sub_AttributeError;have f3:=F.slot_zip_getattribute.lookup;have f4:=F.slot_zip_getattribute.bind (.ref a);have f5:=OE;unfold getAttr? getAttrBy? getAttrBy;(repeat(any_goals(first |assumption|exact hT _|((with_reducible show Rd _ _ (call (Value.builtin "zip.__getattribute__") _ _) _ _ _);refine TB F.slot_zip_getattribute (hT _) OF (F.args_zip_getattribute_2 _ _) (OG a vs _) #[hx,hA,λh' bv e gQ=>?_])|wp_step)));obtain⟨t',u',he⟩:=gQ.there;show Rd _ _ (T5 _ _ _ _ _ _ _) _ _ _;unfold T5;(repeat(any_goals(first |assumption|wp_step)));exact h h' bv gQ.keeps
end
end PySem
namespace NAL.EX
open PySem PySem.Spec PyProof.Rows
section
variable {prog:Rh}{w:RK}{K:Type}[DecidableEq K] {knd:KeyKind prog w K}
structure ZPairs (knd:KeyKind prog w K)(xs ys:Array Value)(ps:List (K×Value)):Prop where
 at_:∀(j:Nat) p,ps[j]?=se p->∃bD,xs[j]?=se bD/\ys[j]?=se p.2/\knd.is p.1 bD=tj
 end_:xs[ps.length]?=ng\/ys[ps.length]?=ng
theorem OH {b:Nat}{p q:Bool×Q5}(hA:A.handled=ng)(zp:ZPairs knd xs ys ps)(hp:p.2<b)(hq:q.2<b)(st:Zl b [p,q] 0 s.heap)(h1:SeqAt p.1 s.heap p.2 xs)(h2:SeqAt q.1 s.heap q.2 ys)(hz:ps.length<=sizeLine) (h:∀h' tk,h'.DictOf knd s.heap.objs.size (putAll [] ps)->(∀c o,c<b->s.heap.get? c=se o->h'.get? c=se o)->Q (.ref s.heap.objs.size) { s with heap:=h',toks:=tk}) :Rd (Rf prog w) A (call (.type "dict") [.ref (b+4)]) Q E s:=by obtain⟨f0,f1,hf,hz0⟩:=st.zip;have hd:b+4<s.heap.objs.size:=Heap.lt_size hz0;have K:∀{c:Q5} {h h':Rs},Kept b 2 h h'->¬(b<=c/\c<=b+4)->∀o,h.get? c=se o->h'.get? c=se o:=λ{c h h'} k hc o ho=>k c o (by unfold Kp;lia) ho;refine B6 (fp:=λc=>b<=c/\c<=b+4) hA hz0 rfl hz Γ getAttr?_keys_zip (λs2 k lt hQ=>uP (aI:=[p,q]) (st.keep λc _ _ o ho=>k c o ho) (hQ _ _ (λi h=>Zl b [p,q] i h/\SeqAt p.1 h p.2 xs/\SeqAt q.1 h q.2 ys) #[λz=>by lia,?_,?_,?_] #[st.keep λc _ _ o ho=>k c o ho,h1.at λo ho=>k _ _ ho,h2.at λo ho=>k _ _ ho] λ_ _ ho=>ho)) λh' tk hd k=>h h' tk hd λc o hc ho=>k c o (λz=>by lia) ho;intro i h h'#[a,b,c]kk;exact#[a.keep λc _ hc o ho=>kk _ _ (cF (iR hc hd)) ho,b.at λo ho=>kk _ _ (cF (by lia)) ho,c.at λo ho=>kk _ _ (cF (by lia)) ho];intro i r A s Q E hA hr#[a,b,c]hQ;obtain⟨bD,g1,g2,g3⟩:=zp.at_ i r hr;refine F3 hA hp hq a b c (λh' x y e1 e2 gJ tT sz kk=>?_) λhex=>?_;rw[g1] at e1;rw[g2] at e2;cases e1;cases e2;exact hQ h' _ _ _ bD #[gJ,b.at λo ho=>kk _ _ (.inl hp) ho,c.at λo ho=>kk _ _ (.inl hq) ho] tT rfl rfl g3 λc o hc ho=>K kk hc o ho;rw[g1,g2] at hex;rcases hex with z | z<;>cases z;intro A s Q E hA#[a,b,c]hQ;refine F3 hA hp hq a b c (λh' x y e1 e2 _ _ _ _=>?_) λ_ h' kk=>hQ h' λc o hc ho=>K kk hc o ho;rcases zp.end_ with z | z;rw[z] at e1;cases e1;rw[z] at e2;cases e2
end
section
end
section
end
noncomputable def seen:List Q7->List Q7:=List.foldl (λacc k=>if k∈acc then acc else acc++[k]) []
theorem zk (l:List Q7)(k:Q7):seen (l++[k])=if k∈seen l then seen l else seen l++[k]:=by unfold seen;simp_all
theorem F4 (P:List Q7->Prop)(h0:P [])(hs:∀l k,P l->P (l++[k]))(l:List Q7):P l:=by(have:∀n l,l.length=n->P l:=λn=>by induction n with| zero=>simp_all| succ n ih =>intro l hl;(have df:l ≠ []:=λz=>by simp_all);rw[<-zW df];simp_all);simp_all
theorem F5 (l:List Q7):k∈seen l↔k∈l:=by induction l using F4 with| h0=>rfl| hs l j ih =>rw[zk,c8];split;rename_i z;rw[ih,cT];exact#[.inl,λq=>q.elim id λe=>e▸ih.mp (e▸z)];rw[c8,ih]
theorem OJ (l:List Q7):(seen l).length<=l.length/\((seen l).length<l.length↔¬l.Nodup):=by induction l using F4 with| h0=>exact#[bE _,by trivial]| hs l j ih =>obtain⟨a,b⟩:=ih;rw[zk,kq,dW];split;rename_i z;refine#[by exact oj a,λ_ q=>q.2.2 j ((F5 l).mp z) j (cT.mpr rfl) rfl,λ_=>by simp;exact qZ a];rename_i z;refine#[by simp;assumption,λq=>?_,λq=>?_];have:=b.mp (by simp at q;assumption);exact λw=>this w.1;have:=λw=>q #[w,by simp,λx hx y hy e=>z ((F5 l).mpr (by rwa [<-cT.mp hy,<-e]))];have:=b.mpr this;simp;assumption
section
variable {prog:Rh}{w:RK}
theorem F6 {h h':Rs}(x:h.SetOf (strKind prog w) S f n)(k:∀o,h.get? S=se o->h'.get? S=se o):h'.SetOf (strKind prog w) S f n:=by obtain⟨o,es,ep,t,ho,r⟩:=x;exact#[o,es,ep,t,k o ho,r]
theorem OK (S it l:Q5)(items:Array Value)(ks:List Q7)(hk:∀(j:Nat) k,ks[j]?=se k->∃t,items[j]?=se (.str k t))(hn:items.size=ks.length)(hb:ks.length+1<scanBound)(h1:S≠it)(h2:S≠l)(h3:it≠l)(n:Nat) :∀i s A R,ks.length-i=n->i<=ks.length->A.handled=ng->s.heap.IsListIter it l i->s.heap.IsList l items->s.heap.SetOf (strKind prog w) S (λk=>decide (k∈seen (ks.take i))) (seen (ks.take i)).length->(∀h' tk,h'.SetOf (strKind prog w) S (λk=>decide (k∈seen ks)) (seen ks).length->(∀b o,b≠S->b≠it->s.heap.get? b=se o->h'.get? b=se o)->R (.ok (.ret .none)) { s with heap:=h',toks:=tk})->U6 (Rf prog w) A (.builtin "set.update.loop" #[[.ref S,.ref it],[]]) R s:=by induction n with| zero =>intro i s A R hi hl hA de hls hS hR;(have e:i=ks.length:=by lia);subst e;refine TX F.entry_set_update_loop ?_;rw[Around.under_plainId F.plain_set_update_loop _];refine Q3 (Ux (show A.in1.handled=ng from hA) de hls (by simp[hn]) λh' eb=>Q8 ?_);rw[mu] at hS;exact hR h' s.toks (F6 hS λo ho=>eb _ _ h1 ho) λb o _ hb ho=>eb b o hb ho| succ n ih =>intro i s A R hi hl hA de hls hS hR;(have eO:i<ks.length:=by lia);obtain⟨k,hki⟩:∃k,ks[i]?=se k:=#[_,aT eO];obtain⟨t,ht⟩:=hk i k hki;(have et:ks.take (i+1)=ks.take i ++ [k]:=by obtain⟨y1,y2⟩:=aQ.mp hki;rw[pP,hki];rfl);refine TX F.entry_set_update_loop ?_;rw[Around.under_plainId F.plain_set_update_loop _];refine Q3 (Uj de hls ht λh' hit' sb=>?_);refine Q3 (Tg ?_);unfold setAdd;(have iw:=by show Value.isStrOf k (.str k t)=tj;simp[Value.isStrOf]);refine Tg (Q3 ((strKind prog w).pyHash iw ?_));(have tZ:(seen (ks.take i)).length+1<scanBound:=by have:=(OJ (ks.take i)).1;rw[i8] at this;lia);refine wpAny_setAddHashed_of (knd:=strKind prog w) (s:={ s with heap:=h',toks:=s.toks+1 }) iw rfl (F6 hS λo ho=>(sb.2 S h1).trans ho) tZ λkh iY je=>?_;(have hS3:kh.SetOf (strKind prog w) S (λj=>decide (j∈seen (ks.take (i+1)))) (seen (ks.take (i+1))).length:=by rw[et,zk];refine SetOf_congr je (λj=>?_) ?_;by_cases z:k∈seen (ks.take i);rw[QY z];by_cases y:j=k;subst y;simpa using z;simp[y];rw[QX z];simp_all;by_cases z:k∈seen (ks.take i);rw[QY z];simp[z];rw[QX z];simp[z]);have up:∀(b:Q5) o,b≠S->b≠it->s.heap.get? b=se o->kh.get? b=se o:=λb o b1 b2 ho=>(iY.2 b b1).trans ((sb.2 b b2).trans ho);exact Q8 #[plainId_quiet F.plain_set_update_loop _,ih (i+1) _ A R (by lia) eO hA (hit'.at λo ho=>(iY.2 it (Ne.symm h1)).trans ho) (hls.at λo ho=>up l o (Ne.symm h2) (Ne.symm h3) ho) hS3 λh4 tk hS4 k4=>hR h4 tk hS4 λb o b1 b2 ho=>k4 b o b1 b2 (up b o b1 b2 ho)]
variable {A:Rg}{E:Value->Q4->Prop}{s:Q4}
set_option maxHeartbeats 3200000 in
theorem OL {l:Q5}{items:Array Value}{ks:List Q7}{Q:Value->Q4->Prop}(hh:A.handled=ng)(hl:s.heap.IsList l items)(hk:∀(j:Nat) k,ks[j]?=se k->∃t,items[j]?=se (.str k t))(hn:items.size=ks.length)(hb:ks.length+1<scanBound)
  (h:∀(h':Rs) (tk:Nat),h'.SetOf (strKind prog w) s.heap.objs.size (λk=>decide (k∈seen ks)) (seen ks).length->(∀b o,s.heap.get? b=se o->h'.get? b=se o)->Q (.ref s.heap.objs.size) { s with heap:=h',toks:=tk}) :
  Rd (Rf prog w) A (call (.type "set") [.ref l]) Q E s:=by
 obtain⟨c,tl,hmro⟩:=F.called_set.mro;have g1:=F.called_set.made;have g2:=F.called_set.sub
 have g3:=F.called_set.notType;have g4:=F.called_set.canCreate
 have g5:=F.typeCall_set_1 (.ref l);refine wpAny_call (codeAny_of_tree (?_:Rd _ _ (callAny (.type "set") _) _ _ _));refine Q8 #[Code.quiet_builtin _ (by decide +kernel),TX F.entry_type_call ?_]
 rw[Around.under_plain (weight_type_call_type "set" [.ref l] []) rfl]
 repeat(any_goals(first |assumption|wp_step))
 let so:Bool->Sr:=λiy=>{ cls:=.type "set",dict:=ng,data:=.set ([].toArray) 0 (.fresh 0 0 iy)}
 refine Ta (code_set_new_1 (.ref l) (E:=E) (Q₁:=λobj s₁=>∃iy:Bool,obj=.ref s.heap.objs.size/\s₁={ s with heap:=s.heap.push (so iy)}) λiy=>#[iy,rfl,rfl]) λr s₁ hr=>?_
 cases r with
 | error e=>exact hr
 | ok fl =>
  cases fl with
  | ret obj =>
   obtain⟨iy,rfl,rfl⟩:=hr;have hS:(s.heap.push (so iy)).get? s.heap.objs.size=se (so iy):=Heap.get?_push_size _ rfl;have hT:Shared.TypeIs { s with heap:=s.heap.push (so iy)} (.ref s.heap.objs.size) "set":=#[_,hS,rfl]
   have g6:=F.called_set.init.lookup;have g7:=F.called_set.init.bind (.ref s.heap.objs.size)
   repeat(any_goals(first |assumption|wp_step))
   refine Ta (codeAny_call_builtin (R:=wants (λr s₂=>r=.none/\∃h' tk,s₂={ s with heap:=h',toks:=tk}/\h'.SetOf (strKind prog w) s.heap.objs.size (λk=>decide (k∈seen ks)) (seen ks).length/\∀b o,s.heap.get? b=se o->h'.get? b=se o) E) F.called_set.init.plain F.entry_set_init (check_set_init_1 hT ?_)) λr₂ s₂ hr₂=>?_
   .obtain⟨⟨oc,od,ot,os'⟩,hol,tJ,nl,hdl⟩:=hl;dsimp only at tJ hdl;subst tJ hdl;have fS:∀(b:Q5) o,s.heap.get? b=se o->b<s.heap.objs.size:=λb o ho=>Heap.lt_size ho;have hlS:=fS _ _ hol
    have hol':(s.heap.push (so iy)).get? l=se #[.type "list",od,.seq items nl,os']:=Heap.get?_push_of_some _ hol;have z1:=F.sub_list_set
    have z2:=F.sub_list_frozenset;have z3:(Value.type "list"==Value.type "dict")=ff:=Γ
    have iO:(s.heap.push (so iy)).IsList l items:=#[_,hol',rfl,nl,rfl];unfold Builtin.«set.__init__» noKeywords Builtin.Frozenset.updateFrom;generalize hPI:pyIter=PI
    wp_walk
    subst hPI;refine R5 iO (Q3 (wpAny_runValue ?_));have ez:(s.heap.push (so iy)).objs.size=s.heap.objs.size+1:=Heap.size_push ..;have gS:((s.heap.push (so iy)).push { cls:=.type "list_iterator",data:=.fields ([.ref l,.int 0 0].toArray)}).get? s.heap.objs.size=se (so iy):=Heap.get?_push_of_some _ hS
    refine OK s.heap.objs.size (s.heap.push (so iy)).objs.size l items ks hk hn hb (by rw[ez];exact cF (ky _)) (eD hlS) (by rw[ez];exact eD (ig hlS)) _ 0 _ _ _ rfl (iT _) (show A.in1.in1.in1.handled=ng by simp[hh]) #[_,Heap.get?_push_size _ rfl,rfl,rfl] (iO.push _)
     (SetOf_congr ((setObjOf_fresh (knd:=strKind prog w) iy).setOf gS (by unfold scanBound;lia)) (λj=>(Q1 (by simp[seen])).symm) rfl) λh4 tk hS4 k4=>?_
    refine Q8 ?_;show Rd _ _ (ret Value.none) _ _ _;exact Q8 #[rfl,h4,tk,rfl,hS4,λb o ho=>k4 b o (cF (fS _ _ ho)) (by rw[ez];exact cF (ig (fS _ _ ho))) (Heap.get?_push_of_some _ (Heap.get?_push_of_some _ ho))]
   .cases r₂ with
    | error e=>exact hr₂
    | ok f₂ =>
     cases f₂ with
     | ret r =>
      obtain⟨rfl,h',tk,rfl,hS',cP⟩:=hr₂
      repeat(any_goals(first |assumption|wp_step))
      exact h _ _ hS' cP
     | _=>exact hr₂.elim
  | _=>exact hr.elim
end
theorem ON:RH "set"=se (.type "set"):=by decide +kernel
section
end
end NAL.EX
namespace NAL.RZ
open PySem PySem.Spec PyProof.Rows NAL NAL.EX NAL.RX
section
variable {X:Cz}{k:Nat}[Y:Yx X k] {o a b e:Ru}{es:List Ru}{fa fb:RE}{fA:RA}{pos aC p p1 p2 q0 av ax:Ue}{x y:Q7}{i j n nc:Nat}{ρ:R4}{h:TH}{pins:List (Q5×Sr)}{ws:WL}{s:Q4}{d xx:D}{ks:List Ry}{ds:List D}{us:List Value}{g:Gs}{u v w:Value}{P:D->TH->Prop}{m:Bool}{H':Rs}{E:Value->Q4->Prop}{B:Cb}
theorem F7:1000<=sizeLine:=Γ
omit Y
theorem kds_len:∀ks:List Ry,(kds ks).length=ks.length| []=>rfl| k::ks=>congrArg iU (kds_len ks)
theorem F8:∀{ks:List Ry} {i:Nat},(kds ks)[i]?=ks[i]?.map kd| [],i=>by simp[kds]| k::ks,0=>rfl| k::ks,i+1=>by have:kds (k::ks)=kd k::kds ks:=rfl;rw[this,uj,uj];exact F8
theorem J.adds (z:J X pins ρ h ws s)(l:ds.length=us.length)(f:∀(i:Nat) d u,ds[i]?=se d->us[i]?=se u->∀g,DU X.B g d u):J X pins ρ h (ds.zip us++ws) s:=by cases z with | mk g I p W =>refine#[g,I,p,jE (λw hw=>?_) W];obtain⟨i,hi⟩:=bz hw;rw[bP] at hi;exact f i _ _ hi.1 hi.2 g
theorem J.keysL {vs:List Value}(z:J X pins ρ h ws s)(kl:ks.length=vs.length)(zz:vs.length<=sizeLine)(hk:∀b o,s.heap.get? b=se o->H'.get? b=se o)(hS:H'.get? s.heap.objs.size=se { cls:=.type "list",dict:=ng,data:=.seq acc cc,slots:=([].toArray)})(aE:ItemsOf (λi v=>∃k x,(ks.zip vs)[i]?=se (k,x)/\(RM X.B.P X.B.w).is k v=tj) acc (ks.zip vs).length)(q:(RX.mk m (kds ks) h).sat P X.E):RP X pins ρ ws P (.ref s.heap.objs.size) { s with heap:=H',toks:=tk}:=by(have la:acc.toList.length=ks.length:=by have:=aE.1;simp[this,kl]);refine(z.adds (by rw[kds_len,la]) λi d u e1 e2 g=>?_).mkL (by rw[kds_len,la]) (by rw[la,kl];exact zz) gY hk (by exact hS) q tk;rw[F8,jM] at e1;obtain⟨k,e3,rfl⟩:=e1;obtain⟨k',x',e4,e5⟩:=aE.2 i u (by simpa using e2);rw[bP,e3] at e4;cases e4.1;exact zd e5
include Y
instance:BOk X "list" (Ws m):=#[_,Y.no _,uL,.inr #[_,rfl],λ{pins ρ h ws s P ds us} l0 z q=>by unfold Ws at q;split at q;rename_i x;obtain⟨u,rfl,z⟩:=one l0 z;split at q;rename_i p e1;obtain⟨kl,a,us,rfl,l,zz,⟨n,dd⟩,_⟩:=z.opD aO e1;obtain⟨od,es,ep,g1,g2,g3,g4⟩:=id dd;exact A6 (PySem.W.kdl_dict n) (z.hd Y) (show s.heap.DictAt (RM X.B.P X.B.w) a _ ep from#[od,es,g1,g2,g3,g4]) (by simp;simp_all) λh' tk acc cc hk hS aE=>z.tl.keysL (by rw[kl,l]) zz hk hS aE q;obtain⟨ds,e1,q⟩:=q.o;obtain⟨a,us,rfl,l,zz,f,z2⟩:=z.opS aO e1;have fin:∀h' c',(∀b o',s.heap.get? b=se o'->h'.get? b=se o')->h'.get? s.heap.objs.size=se { cls:=.type "list",dict:=ng,data:=.seq us.toArray c',slots:=([].toArray)}->RP X pins ρ ws P (.ref s.heap.objs.size) { s with heap:=h'}:=λh' c' kp e=>(z2.sub (by simp +contextual [or_imp])).mkL l zz gY kp e q s.toks;(cases ht:RQ x with| true=>rw[ht] at f;obtain⟨o,ho,hc,n,hd⟩:=f;exact call_list_seq a (.inr rfl) ho hc hd fin (by exact zz)| false=>rw[ht] at f;obtain⟨n,f⟩:=f;exact call_list_seq a (.inl rfl) f rfl rfl fin (by exact zz));exact q.elim]
theorem OO (ho:QE X o fa)(sc:SC X "list" pos [.Call (.Attribute o "keys" av) [] [] ax]:=by exact⟨rfl,by decide,by decide,rfl⟩)(sm:SM X o "keys" av [] ax:=by exact⟨rfl,rfl,rfl,rfl⟩) (hs:RD [.Call (.Attribute o "keys" av) [] [] ax] X.env=[(ff,SB (.Call (.Attribute o "keys" av) [] [] ax) X.env)]:=by rfl):QE X (.Call (.Name "list" p) [.Call (.Attribute o "keys" av) [] [] ax] [] pos) (ZT m fa):=#[λ{pins ρ h ws s P} z q=>Re (iu z sc.g (Y.no _) uL (i9 sc.pl (f9 sc.pl (by rw[hs];refine Calls.spliced_cons (Uk sm.base sm.few sm.line rfl (Sd (ho.h z q.bnd) λu s1 #[x,h1,z,q]=>?_));obtain⟨⟨ks,ds⟩,e1,q⟩:=q.o;obtain⟨t1,t2⟩:=z.tyD (by unfold Yi;rw[e1]);obtain⟨kl,a,us,rfl,l,zz,⟨n,dd⟩,_⟩:=z.opD aO e1;refine#["dict","dict.keys",rf,AX,PySem.F.type_dict_keys,t1,t2,Calls.callWith_builtin rfl (AT ?_)];refine U7 AX t1 PySem.F.entry_dict_keys (PySem.F.args_dict_keys_1 _) (PySem.W.kdl_meets_keys (RM X.B.P X.B.w) a n) #[#[_,dd],Calls.spliced_nil ?_];obtain⟨od,es,ep,g1,g2,g3,g4⟩:=id dd;have z2:J X pins ρ h1 ws { s1 with heap:=s1.heap.push { cls:=.type "dict_keys",data:=.fields ([.ref a].toArray)}}:=z.tl.kept (λ_ _=>Heap.get?_push_of_some _) s1.toks;exact A6 (PySem.W.kdl_keys) (z.hd Y) #[#[_,Heap.get?_push_size _ rfl,rfl,rfl],#[od,es,Heap.get?_push_of_some _ g1,g2,g3,g4]] Β λh' tk acc cc hk hS aE=>z2.keysL (by rw[kl,l]) zz hk hS aE q))) sc.n sc.d)]
omit Y
theorem OP:∀(rows:List (Q5×List D×List Value)) {g:Gs} {ws:WL},Iv X g ρ h s->(∀p∈pins,g.G p.1=se (.pin p.2))->cE X.B g ws->(rows.map (·.1)).Nodup->(∀r∈rows,g.G r.1=ng/\s.heap.get? r.1=se { cls:=.type "tuple",data:=.seq r.2.2.toArray}/\r.2.1.length=r.2.2.length/\r.2.2.length<=sizeLine/\∀w∈r.2.1.zip r.2.2,w∈ws)->∃g',Iv X g' ρ h s/\(∀p∈pins,g'.G p.1=se (.pin p.2))/\cE X.B g' (rows.map (λr=>(D.tup r.2.1,Value.ref r.1))++ws)/\∀b,b∉rows.map (·.1)->g'.G b=g.G b:=by intro rows;induction rows with| nil =>rintro g ws I p W _ _;exact#[g,I,p,W,λ_ _=>rfl]| cons r rows ih =>rintro g ws I p W nd f;obtain⟨n1,n2⟩:=eG.mp nd;obtain⟨g',I',p',W',k'⟩:=ih I p W n2 λr hr=>f r (a7 _ hr);obtain⟨f1,f2,f3,f4,f5⟩:=f r aO;(have n:g'.G r.1=none:=by rw[k' _ n1,f1]);have x:=Gr.upd (r:=se (.dat { cls:=.type "tuple",data:=.seq r.2.2.toArray })) n;have q:=I'.hk.dat n (λ_ _ e=>e) f2;refine#[_,I'.go x q (λ_ _ _ e=>e) s.toks,λy z=>x.f _ _ (p' y z) (.inl rfl),oW (.tup #[_,Gs.upd_same,λ_ e=>#[_,e,rfl,_,rfl]] f3 f4 (x.le.held λw hw=>W' w (dG _ (f5 w hw)))) (x.le.held W'),λb hb=>?_];rw[Gs.upd_ne (by rintro rfl;simp at hb),k' b (by simp at hb ⊢;exact hb.2)]
include Y
theorem OQ (ho:QE X o fa)(sc:SC X "list" pos [.Call (.Attribute o "items" av) [] [] ax]:=by exact⟨rfl,by decide,by decide,rfl⟩)(sm:SM X o "items" av [] ax:=by exact⟨rfl,rfl,rfl,rfl⟩) (hs:RD [.Call (.Attribute o "items" av) [] [] ax] X.env=[(ff,SB (.Call (.Attribute o "items" av) [] [] ax) X.env)]:=by rfl):QE X (.Call (.Name "list" p) [.Call (.Attribute o "items" av) [] [] ax] [] pos) (Zc m fa):=#[λ{pins ρ h ws s P} z q=>Re (iu z sc.g (Y.no _) uL (i9 sc.pl (f9 sc.pl (by rw[hs];refine Calls.spliced_cons (Uk sm.base sm.few sm.line rfl (Sd (ho.h z q.bnd) λu s1 #[x,h1,z,q]=>?_));obtain⟨⟨ks,ds⟩,e1,q⟩:=q.o;obtain⟨hz,q⟩:=q.i;obtain⟨t1,t2⟩:=z.tyD (by unfold Yi;rw[e1]);obtain⟨kl,a,us,rfl,l,zz,⟨n,dd⟩,z2⟩:=z.opD aO e1;refine#["dict","dict.items",rf,AW,PySem.F.type_dict_items,t1,t2,Calls.callWith_builtin rfl (AT ?_)];refine U7 AW t1 PySem.F.entry_dict_items (PySem.F.args_dict_items_1 _) (meets_dict_items (RM X.B.P X.B.w) a n) #[#[_,dd],Calls.spliced_nil ?_];obtain⟨od,es,ep,g1,g2,g3,g4⟩:=id dd;(have zl:(ks.zip us).length=us.length:=by simp[kl,l]);refine PySem.W.kdx_call (z.hd Y) #[_,Heap.get?_push_size _ rfl,rfl,rfl] #[od,es,Heap.get?_push_of_some _ g1,g2,g3,g4] (by exact zl▸zz) λh' tk acc cc as hkp hS hl hG aE=>?_;rw[Heap.size_push ..] at hG hS ⊢;rw[zl] at hl;have old:=λb o e=>hkp b o (Heap.get?_push_of_some _ e);have nd:=hG.rise.imp λh=>cF h;(have bD:∀(j:Nat) c,as[j]?=se c->∃kk d v kv,ks[j]?=se kk/\ds[j]?=se d/\us[j]?=se v/\(RM X.B.P X.B.w).is kk kv=tj/\h'.get? c=se { cls:=.type "tuple",data:=.seq ([kv,v].toArray) }:=λj c hj=>by obtain⟨kv,kk,v,f1,f2,f3⟩:=hG.pairs j c hj;rw[bP] at f1;(have lt:=by exact l▸(aQ.mp f1.2).1);exact#[kk,ds[j],v,kv,f1.1,aT lt,f1.2,f2,f3]);(have ch:∀j:Nat,∃r:Q5×List D×List Value,∀c,as[j]?=se c->r.1=c/\∃kk d v kv,r.2=([kd kk,d],[kv,v])/\ks[j]?=se kk/\ds[j]?=se d/\us[j]?=se v/\(RM X.B.P X.B.w).is kk kv=tj/\h'.get? c=se { cls:=.type "tuple",data:=.seq ([kv,v].toArray) }:=λj=>by cases e:as[j]? with| none=>exact#[(0,[],[]),λc z=>by cases z]| some c=>obtain⟨kk,d,v,kv,f⟩:=bD j c e;exact#[(c,[kd kk,d],[kv,v]),λc' z=>by cases z;exact#[rfl,kk,d,v,kv,rfl,f]]);obtain⟨T,hT⟩:=Classical.axiomOfChoice ch;let rows:=(aR as.length).map T;(have ra:∀j:Nat,j<as.length->rows[j]?=se (T j):=λj hj=>by simp[rows,hj]);(have rm:rows.map (·.1)=as:=i7 λj=>by by_cases hj:j<as.length;rw[bo,ra j hj,aT hj];exact congrArg se (hT j _ (aT hj)).1;rw[fh (by simp[rows];exact pW hj),fh (by exact pW hj)]);cases z2 with | mk g I p W =>have I':=I.go .refl (I.hk.kept old) (λb o _=>old b o) tk;have fr:∀b,s1.heap.objs.size<=b->g.G b=none:=λb hb=>I.hk.fresh (Heap.get?_none_of_le hb);have W4:cE X.B g (rows.flatMap (λr=>r.2.1.zip r.2.2)++ws):=jE (λw hw=>by obtain⟨r,hr,hw⟩:=ju.mp hw;obtain⟨j,hj,rfl⟩:=aU.mp hr;obtain⟨_,kk,d,v,kv,er,f1,f2,f3,f4,f5⟩:=hT j _ (aT (dy.mp hj));rw[er] at hw;simp only[iB,An,bj,gM,or_false] at hw;rcases hw with rfl | rfl;exact zd f4;exact W _ (c7 _ (aK (bP.mpr #[f2,f3])))) λw hw=>W w (dG _ (a7 _ hw));(obtain⟨g5,I5,p5,W5,k5⟩:=OP rows I' p W4 (by exact rm▸nd) λr hr=>by obtain⟨j,hj,rfl⟩:=aU.mp hr;obtain⟨ec,kk,d,v,kv,er,f1,f2,f3,f4,f5⟩:=hT j _ (aT (dy.mp hj));refine#[fr _ ?_,by rw[ec,er];exact f5,by rw[er];rfl,by rw[er];show 2<=sizeLine;decide,λw hw=>c7 _ (ju.mpr #[_,hr,hw])];have:=hG.above (T j).1 (by exact ec▸jI _);exact eI (AM this));have ln:=λhm=>om _ (hG.above _ hm);(have pl:(Z4 ks ds).length=as.length:=by rw[Cw kl,hl,kl,l]);refine yY (us:=as.map Value.ref) I5 p5 (λw hw=>?_) (by simp[pl]) (by simp[hl];exact zz) (by rw[k5 _ (by exact rm▸ln)];exact fr _ (k8 _)) (λ_ _ e=>e) (c:=cc) (by rw[hS];simp[Vt,<-aE]) q tk;rcases c8.mp hw with hw | hw;obtain⟨j,hj⟩:=bz hw;rw[bP,bo,jM] at hj;obtain⟨h1,c,h2,h3⟩:=hj;obtain⟨kk',d',e5,e6,e7⟩:=Cv h1;obtain⟨ec,kk,d,v,kv,er,f1,f2,f3,f4,f5⟩:=hT j _ h2;rw[e5] at f1;cases f1;rw[e6] at f2;cases f2;refine W5 w (c7 _ (aU.mpr #[T j,aK (ra j (aQ.mp h2).1),?_]));rw[er,ec];exact Prod.ext e7.symm h3;exact W5 w (dG _ (dG _ hw))))) sc.n sc.d)]
omit Y
theorem OT {kk:Ry}(n:kk∉r.map (·.1)):UB r kk v=r++[(kk,v)]:=by unfold UB;rw[QX];simp only[gL,decide_eq_true_eq,not_exists,not_and];exactλx hx e=>n (by exact e▸uo hx)
theorem OU:∀{r acc:List (Ry×Value)},((acc++r).map (·.1)).Nodup->putAll acc r=acc++r:=by intro r;induction r with| nil =>rintro acc _;rw[mw];rfl| cons p r ih =>rintro acc nd;(have e:UB acc p.1 p.2=acc ++ [p]:=OT λz=>by rw[cV,kq] at nd;exact nd.2.2 _ z _ (by simp) rfl);show putAll (UB acc p.1 p.2) r=_;rw[e,ih (by simpa using nd)];simp
theorem F9 (nd:ks.Nodup)(l:ks.length=us.length):putAll [] (ks.zip us)=ks.zip us:=by have:=OU (r:=ks.zip us) (acc:=[]) (by simpa [zi l] using nd);exact this
theorem J.newD {vs:List Value}(z:J X pins ρ h (ds.zip vs++ws) s)(kl:ks.length=ds.length)(l:ds.length=vs.length)(zz:vs.length<=sizeLine)(hk:∀b o,s.heap.get? b=se o->H'.get? b=se o)(dd:H'.DictOf (RM X.B.P X.B.w) s.heap.objs.size (ks.zip vs))(q:(RX.mkD m ks ds h).sat P X.E):RP X pins ρ ws P (.ref s.heap.objs.size) { s with heap:=H',toks:=tk} :=z.mkD kl l zz gY hk z.big dd q tk
theorem OV (W:Hk B g h s.heap):∀{ds:List D} {us:List Value} {ks:List Ry} {es:List D},RB prK ds=se ks->RB prV ds=se es->ds.length=us.length->cE B g (ds.zip us)->∃vs:List Value,ks.length=es.length/\es.length=vs.length/\ds.length=vs.length/\cE B g (es.zip vs)/\∀(j:Nat) p,(ks.zip vs)[j]?=se p->∃t bD,us[j]?=se (.ref t)/\s.heap.IsTuple t ([bD,p.2].toArray)/\(RM B.P B.w).is p.1 bD=tj:= by intro ds;induction ds with| nil=>intro us ks es e1 e2 l _;cases e1;cases e2;exact#[[],rfl,rfl,rfl,λ_ z=>by simp at z,λj p z=>by simp at z]| cons d ds ih =>intro us ks es e1 e2 l A;obtain⟨kk,ks,h1,h2,rfl⟩:=Rt.mp e1;obtain⟨e,es,h3,h4,rfl⟩:=Rt.mp e2;cases us with| nil=>cases l| cons u us =>obtain⟨vs,l1,l2,l3,A3,f⟩:=ih h2 h4 (by simpa using l) λw z=>A w (a7 _ z);have dq:=A (d,u) aO;unfold prK at h1;split at h1;rename_i d1 d2;cases h3;(cases dq with | @tup a _ us2 ft lt zt At =>(rcases us2 with _ | ⟨v1,_ | ⟨v2,_ | _⟩⟩<;>first |cases lt |skip);obtain⟨o,eo,fo⟩:=ft;have it:=fo _ (W.st _ _ (.inl eo));refine#[v2::vs,by simp[l1],by simp[l2],by simp[l3],oW (At (_,v2) (a7 _ aO)) A3,λj p hj=>?_];cases j with| zero=>cases hj;exact#[a,v1,rfl,it,oY (At (d1,v1) (by simp)) h1]| succ j=>exact f j p (by exact hj));cases h1
include Y
theorem OW:Fe X (.type "dict") (VV m):=λ{pins ρ h ws s P ds us} l0 z q=>by unfold VV at q;split at q;rename_i x;obtain⟨u,rfl,z⟩:=one l0 z;split at q;rename_i p e1;obtain⟨kl,a,us,rfl,l,zz,⟨n,dd⟩,z2⟩:=z.opD aO e1;exact kt_call_dict n dd Β λh' pD hs=>(z2.sub (by simp +contextual [or_imp])).newD kl l zz (λb q hq=>(hs.2 b (cF (Heap.lt_size hq))).trans (Heap.get?_push_of_some _ hq)) pD q;obtain⟨ds,e1,q⟩:=q.o;obtain⟨ks,e2,q⟩:=q.o;obtain⟨es,e3,q⟩:=q.o;obtain⟨nd,q⟩:=q.i;obtain⟨a,us,rfl,l,zz,⟨n,f⟩,z2⟩:=z.opL aO e1;have hd:=z2.hd Y;(cases z2 with | mk g I p W =>obtain⟨vs,l1,l2,l3,A,fp⟩:=OV I.hk e2 e3 l λw hw=>W w (c7 _ hw);have z3:J X pins ρ h (es.zip vs++ws) s:=#[g,I,p,jE A λw hw=>W w (by simp[hw])];refine IX (ps:=ks.zip vs) hd f #[Β,λj p hj=>?_] (by exact zz) λh' tk dd kp=>z3.newD l1 l2 Β kp (by rw[F9 (u6 nd) (by rwa [l1])] at dd;exact dd) q;obtain⟨t,bD,g1,g2,g3⟩:=fp j p hj;exact#[t,bD,by simpa using g1,g2,g3]);exact q.elim
theorem OX (ha:QA X es fA)(sc:SC X "dict" pos es:=by exact⟨rfl,by decide,by decide,rfl⟩):QE X (.Call (.Name "dict" p) es [] pos) (RW (VV m) fA):=#[λ{pins ρ h ws s P} z q=>Re (iu z sc.g (Y.no _) Bo (i9 sc.pl (f9 sc.pl (Sd (ha.h z q.bnd) λus s1 #[ds,h1,l,z,q]=>OW l z q))) sc.n sc.d)]
theorem OY (h1:QE X a fa)(h2:QE X b fb)(sc:SC X "dict" pos [.Call (.Name "zip" p2) [a,b] [] aC]:=by exact⟨rfl,by decide,by decide,rfl⟩)(sz:SC X "zip" aC [a,b]:=by exact⟨rfl,by decide,by decide,rfl⟩)(qH:RD [.Call (.Name "zip" p2) [a,b] [] aC] X.env=[(ff,SB (.Call (.Name "zip" p2) [a,b] [] aC) X.env)]:=by rfl)(hs:RD [a,b] X.env=[(ff,SB a X.env),(ff,SB b X.env)]:=by rfl) :QE X (.Call (.Name "dict" p1) [.Call (.Name "zip" p2) [a,b] [] aC] [] pos) (rDz m fa fb):=#[λ{pins ρ h ws s P} z q=>Re (iu z sc.g (Y.no _) Bo (i9 sc.pl (f9 sc.pl (by rw[qH];refine Calls.spliced_cons (Re (iu z sz.g (Y.no _) w4 (i9 sz.pl (f9 sz.pl ?_)) sz.n sz.d));rw[hs];refine Calls.spliced_cons (Sd (h1.h z q.bnd) λu s1 #[x,_,z,q]=>Calls.spliced_cons (Sd (h2.h z q.bnd) λv s2 #[y,h3,z,q]=>Calls.spliced_nil ?_));obtain⟨ds,e1,q⟩:=q.o;obtain⟨es,e2,q⟩:=q.o;obtain⟨ks,e3,q⟩:=q.o;obtain⟨eb,q⟩:=q.i;simp only[cI] at eb;obtain⟨eb1,eb2,eb3⟩:=eb;obtain⟨c2,vs,rfl,l2,zh,f2,z2⟩:=z.opS aO e2;obtain⟨c1,us,rfl,l1,QV,f1,z1⟩:=z2.opS (dG _ (a7 _ aO)) e1;(have sq:∀{x c} {us:List Value},(bif RQ x then IsTup s2.heap c us.toArray else∃n,s2.heap.get? c=se (Vt us n))->SeqAt (RQ x) s2.heap c us.toArray:=λ{x c us} f=>by cases ht:RQ x with| true=>rw[ht] at f;exact f| false=>rw[ht] at f;obtain⟨n,f⟩:=f;exact#[_,f,rfl,n,rfl]);have k1:=sq f1;have k2:=sq f2;have kl:=(jx e3).1;(have le:=by rw[aV,aV] at eb2;exact mD eb2);(have lt:=by simpa [aV] using eb3);have t16:=F7;(have hk:∀j kk u,ks[j]?=se kk->us[j]?=se u->(RM X.B.P X.B.w).is kk u=tj:=λj kk u e4 e5=>by(have nH:j<ds.length:=by exact kl▸(aQ.mp e4).1);obtain⟨kk',e6,e7⟩:=(jx e3).2 j ds[j] (aT nH);rw[e4] at e6;cases e6;obtain⟨_,_,r⟩:=z1.at (c7 _ (aK (bP.mpr #[aT nH,e5])));exact oY r e7);refine BJ (p:=(RQ x,c1)) (q:=(RQ y,c2)) k1 k2 λh' z0 kk=>Calls.spliced_nil ?_;(have lz:s2.heap.objs.size+4<h'.objs.size:=by obtain⟨f0,f1,_,hz0⟩:=z0.zip;exact Heap.lt_size hz0);refine OH (knd:=RM X.B.P X.B.w) (ps:=ks.zip vs) (z.hd Y) #[λj r hr=>?_,.inl Β] (xo k1) (xo k2) z0 (k1.at λo g=>kk _ o g) (k2.at λo g=>kk _ o g) Β λh2 tk hd kp=>?_;rw[bP] at hr;(have nH:=by exact l1▸kl▸(aQ.mp hr.1).1);exact#[us[j],by simp[nH],by simpa using hr.2,hk j _ _ hr.1 (aT nH)];rw[F9 (u6 eb1) (by rwa [le])] at hd;have n:s2.heap.get? h'.objs.size=none:=Heap.get?_none_of_le (by lia);have big:=(J.big (z.kept kk s2.toks):);exact(z2.sub (by simp +contextual [or_imp])).mkD le l2 zh n (λc o g=>kp c o (Heap.lt_size g) (kk c o g)) big hd q tk))) sc.n sc.d)]
omit Y in
theorem Ga:∀{n k i:Nat},(dUp k n)[i]?=if i<n then se (.int (.ofNat (k+i)))else ng
 | 0,k,i=>by rw[QX (k7 _)];rfl
 | n+1,k,i=>by
  have e:dUp k (n+1)=.int (.ofNat k)::dUp (k+1) n:=rfl;rw[e];cases i with
  | zero=>simp
  | succ i =>
   rw[uj,Ga]
   by_cases z:i<n<;>simp[z]
   lia
omit Y in
theorem zm:∀{n k:Nat},(dUp k n).length=n
 | 0,_=>rfl
 | n+1,k=>congrArg iU (zm (n:=n) (k:=k+1))
theorem OZ (h1:QE X a fa)(sc:SC X "list" pos [.Call (.Name "range" p2) [a] [] aC]:=by exact⟨rfl,by decide,by decide,rfl⟩)(sr:SC X "range" aC [a]:=by exact⟨rfl,by decide,by decide,rfl⟩)(qH:RD [Expr.Call (.Name "range" p2) [a] [] aC] X.env=[(ff,SB (Expr.Call (.Name "range" p2) [a] [] aC) X.env)]:=by rfl)(hs:RD [a] X.env=[(ff,SB a X.env)]:=by rfl) :QE X (.Call (.Name "list" p1) [.Call (.Name "range" p2) [a] [] aC] [] pos) (XH m fa):=#[λ{pins ρ h ws s P} z q=>Re (iu z sc.g (Y.no _) uL (i9 sc.pl (f9 sc.pl (by rw[qH];refine Calls.spliced_cons (Re (iu z sr.g (Y.no _) boot_range (i9 sr.pl (f9 sr.pl ?_)) sr.n sr.d));rw[hs];refine Calls.spliced_cons (Sd (h1.h z q.bnd) λu s1 #[x,hh,z,q]=>Calls.spliced_nil ?_);split at q;rename_i n;obtain⟨hb,q⟩:=q.i;obtain⟨t,rfl⟩:=z.int;(have hb:=by simpa using hb);refine call_range_1 (Calls.spliced_nil ?_);have z2:J X pins ρ hh ws { s1 with heap:=s1.heap.push { cls:=.type "range",data:=.fields ([.int 0 s1.toks,.int (qQ n) t,.int 1 (s1.toks+1)].toArray)},toks:=s1.toks+1+1}:=z.tl.kept (λ_ _=>Heap.get?_push_of_some _) _;refine call_list_range (n:=n) (z.hd Y) (Heap.get?_push_size _ rfl) (small_one Β Β (by simp) (by simp;lia)) (by rw[rangeSize_one];split<;>simp_all) (by lia) λh' tk acc c' hk hS de=>?_;(have la:acc.toList.length=n:=by have:=de.1;exact this);have t16:=F7;refine(z2.adds (ds:=dUp 0 n) (by rw[zm,la]) λi d u e1 e2 g=>?_).mkL (by rw[zm,la]) (by lia) gY hk (by exact hS) q tk;rw[Ga] at e1;split at e1;cases dX e1;obtain⟨t',e3⟩:=de.2 i u (by simpa using e2);rw[e3];(have:0+i*1=qQ (0+i):=by simp);exact this▸.int;cases e1;exact q.elim))) sc.n sc.d)]
theorem O0 (h1:QE X a fa)(sc:SC X "len" pos [.Call (.Name "set" p2) [a] [] aC]:=by exact⟨rfl,by decide,by decide,rfl⟩)(sr:SC X "set" aC [a]:=by exact⟨rfl,by decide,by decide,rfl⟩)(qH:RD [.Call (.Name "set" p2) [a] [] aC] X.env=[(ff,SB (.Call (.Name "set" p2) [a] [] aC) X.env)]:=by rfl)(hs:RD [a] X.env=[(ff,SB a X.env)]:=by rfl) :QE X (.Call (.Name "len" p1) [.Call (.Name "set" p2) [a] [] aC] [] pos) (rLs fa):=#[λ{pins ρ h ws s P} z q=>Re (iu z sc.g (Y.no _) (show RH "len"=se (.builtin "len")by decide +kernel) (Calls.callWith_builtin sc.pl (f9 sc.pl (by rw[qH];refine Calls.spliced_cons (Re (iu z sr.g (Y.no _) ON (i9 sr.pl (f9 sr.pl ?_)) sr.n sr.d));rw[hs];refine Calls.spliced_cons (Sd (h1.h z q.bnd) λu s1 #[x,hh,z,q]=>Calls.spliced_nil ?_);obtain⟨ds,e1,q⟩:=q.o;obtain⟨ks,e2,q⟩:=q.o;obtain⟨eb,q⟩:=q.i;simp only[cI,kR] at eb;obtain⟨c,us,rfl,l,zz,f,z2⟩:=z.opS aO e1;rw[eb.1] at f;obtain⟨n,f⟩:=f;have kl:=(jx e2).1;(have lt:=by have:=eb.2;simpa [aV] using this);refine OL (ks:=ks) (z.hd Y) #[_,f,rfl,n,rfl] (λj kk hj=>?_) (by simp;simp_all) (by unfold scanBound;lia) λh' tk hS kk=>Calls.spliced_nil ?_;(have nH:=by exact kl▸(aQ.mp hj).1);obtain⟨kk',e6,e7⟩:=(jx e2).2 j ds[j] (aT nH);rw[hj] at e6;cases e6;obtain⟨u,e8,z3⟩:=z2.item l (aT nH);obtain⟨_,_,r⟩:=z3.at aO;generalize ds[j]=dj at r e7;(cases r<;>first |(cases e7;exact#[_,by simpa using e8])|cases e7);obtain⟨o,es,ep,t,ho,g1,g2,_,_,g5,g6,g7⟩:=hS;refine call_len_set ho g1 g2 g6 (Int.lt_trans (Int.ofNat_lt.mpr g5) Γ) ?_;rw[g7];rw[aV,Cy] at q;exact(z.tl.kept kk tk).gint q))) sc.n sc.d)]
omit Y in
theorem lD (K:bw):∀{t c:Nat},t<7->c<7->c≠0->PySem.W.kitOne K (.type (tn t)) (.type (tn c))=se (isBn t c):=by intro t c ht hc h0;rcases t with _ | _ | _ | _ | _ | _ | _ | t<;>first |(exact absurd ht (by lia))|(rcases c with _ | _ | _ | _ | _ | _ | _ | c<;>first |rfl|exact absurd rfl h0|exact absurd hc (by lia))
omit Y in
theorem O1 {Q:Value->Q4->Prop}{t c:Nat}(z:J X pins ρ h ((xx,u)::ws) s)(e:tc h xx=se t)(hc:c<7)(h0:c≠0)(q:∀tk,Q (.bool (isBn t c)) { s with toks:=tk}):Rd (Rf X.B.P X.B.w) X.A (call (.builtin "isinstance") [u,.type (tn c)]) Q E s:=by
 cases z with | mk g I p W =>
 have kin:X.B.C.K.In s.heap:=I.kIn;cases W _ aO with
 | non=>cases e;exact k9 PySem.W.kitx_none kin True.intro (lD (t:=0) _ Γ hc h0) (λz=>nomatch z) q
 | bl=>cases e;exact k9 PySem.W.kitx_bool kin True.intro (lD (t:=1) _ Γ hc h0) (λz=>nomatch z) q
 | int=>cases e;exact k9 PySem.W.kitx_int kin True.intro (lD (t:=2) _ Γ hc h0) (λz=>nomatch z) q
 | str=>cases e;exact k9 PySem.W.kitx_str kin True.intro (lD (t:=3) _ Γ hc h0) (λz=>nomatch z) q
 | fn=>cases e
 | lst f l zz A=>cases e;exact k9 wY kin #[_,I.hk.st _ _ (.inl f),rfl] (lD (t:=4) _ Γ hc h0) (λz=>nomatch z) q
 | tup f l zz A =>
  cases e;obtain⟨o,e1,f⟩:=f;obtain⟨o,h1,h2,_⟩:=f _ (I.hk.st _ _ (.inl e1));exact k9 PySem.W.kitx_tuple kin #[o,h1,h2] (lD (t:=5) _ Γ hc h0) (λz=>nomatch z) q
 | dic=>cases e
 | @at_ i a e0 =>
  replace e:(match eg h i with
   | some (.ml _)=>se 4
   | some (.mr _)=>se 4
   | some (.md _ _)=>se 6
   | _=>ng)=se t:=e
  rw[aW] at e
  split at e
  .rename_i e1;cases e;cases I.hk.th _ _ _ e1 e0 with | ml r f l zz A=>exact k9 wY kin #[_,f,rfl] (lD (t:=4) _ Γ hc h0) (λz=>nomatch z) q
  .rename_i e1;cases e;cases I.hk.th _ _ _ e1 e0 with | mr f l zz A=>exact k9 wY kin #[_,I.hk.st _ _ (.inl f),rfl] (lD (t:=4) _ Γ hc h0) (λz=>nomatch z) q
  .rename_i e1;cases e;cases I.hk.th _ _ _ e1 e0 with | md r f n k l zz A =>
   obtain⟨o,es,ep,h1,h2,_⟩:=f;exact k9 PySem.W.kitx_dict kin #[o,h1,h2.1] (lD (t:=6) _ Γ hc h0) (λz=>nomatch z) q
  .cases e
theorem O2 (ha:QE X e fa)(hy:bltN.contains y=tj:=by decide +kernel)(hv:RH y=se (.type (tn nc)):=by decide +kernel)(hn:nc<7:=by decide)(h0:nc≠0:=by decide)(sc:SC X "isinstance" pos [e,.Name y q0]:=by exact⟨rfl,by decide,by decide,rfl⟩)(sy:SC X y pos []:=by exact⟨rfl,by decide,by decide,rfl⟩)(hs:RD [e,.Name y q0] X.env=[(ff,SB e X.env),(ff,SB (.Name y q0) X.env)]:=by rfl) :QE X (.Call (.Name "isinstance" p) [e,.Name y q0] [] pos) (Xr nc fa):=#[λ{pins ρ h ws s P} z q=>Re (iu z sc.g (Y.no _) HV (Calls.callWith_builtin sc.pl (f9 sc.pl (by rw[hs];refine Calls.spliced_cons (Sd (ha.h z q.bnd) λu s1 #[x,h1,z,q]=>Calls.spliced_cons (iu z sy.g (Y.no y hy) hv (Calls.spliced_nil ?_) sy.n sy.d));obtain⟨t,e1,q⟩:=q.o;exact O1 z e1 hn h0 λtk=>(z.tl.tok tk).gbl q))) sc.n sc.d)]
end
structure LamK (mg:Q7->Option Value)(base:Rs)(c P:Q5):Prop where
 code:PySem.W.CodeHd base c P
 blt:base.BuiltinsAt mg P
 ne:Ri≠P
section
variable {X:Cz}{B:Cb}{g:Gs}{H H':Rs}{ρ:R4}{h:TH}{s:Q4}{pins:List (Q5×Sr)}{ws:WL}{k l j0:Nat}{a c P cd:Q5}{oc:Sr}
theorem Hk.lam (q:Hk B g h H)(n:g.G c=ng)(e:H'.get? c=se oc)(rP:g.G P=se (.tab j0))(k:∀b o,b≠P->H.get? b=se o->H'.get? b=se o)(eP:∃o,H'.get? P=se o)(tb:∀j,j<B.C.nl->B.C.tb j=P->Tb B (g.upd c (se (.dat oc))) H' j):Hk B (g.upd c (se (.dat oc))) h H':=by have x:=Le.upd (r':=se (.dat oc)) (show g.free c fromλr z=>by rw[n] at z;cases z);(have old:∀{b r},g.G b=se r->(g.upd c (se (.dat oc))).G b=se r:=λ{b r} z=>by rw[Gs.upd_ne (by rintro rfl;rw[n] at z;cases z),z]);(have nP:∀{b r},g.G b=se r->(∀j,r≠.tab j)->b≠P:=λ{b r} z y=>by rintro rfl;rw[rP] at z;cases z;exact y _ rfl);(have cs:∀{b r},(g.upd c (se (.dat oc))).G b=se r->(b=c/\r=.dat oc)\/g.G b=se r:=λ{b r} z=>by by_cases y:b=c;subst y;rw[Gs.upd_same] at z;cases z;exact .inl #[rfl,rfl];rw[Gs.upd_ne y] at z;exact .inr z);refine#[λb o z=>?_,λb o z=>?_,λb r z=>?_,q.len,λi t b e1 e2=>(q.th i t b e1 e2).go x (λb z=>old z) λb o z=>k b o (nP z (by simp)),λj hj=>?_];rcases z with z | z<;>rcases cs z with ⟨rfl,y⟩ | y;cases y;exact e;exact k _ _ (nP y (by simp)) (q.st b o (.inl y));cases y;exact k _ _ (nP y (by simp)) (q.st b o (.inr y));rcases cs z with ⟨rfl,y⟩ | y;cases y;obtain⟨n,sl,e⟩:=q.sl b o y;exact#[n,sl,k _ _ (nP y (by simp)) e];rcases cs z with ⟨rfl,y⟩ | y;exact#[_,e];by_cases w:b=P;subst w;exact eP;obtain⟨o,e⟩:=q.al b r y;exact#[o,k _ _ w e];by_cases w:B.C.tb j=P;exact tb j hj w;obtain⟨⟨j',r⟩,ps,e,q1,q2⟩:=q.tb j hj;exact#[#[j',old r],ps,k _ _ w e,q1,λpos c z=>by obtain⟨c',e,f⟩:=q2 pos c z;exact#[c',e,x.fz f]]
theorem O3 {c cv:Value}{a b:Int}:∀l,TriplesOk l->VZ aB (l++[VI a,VI b,c])=se cv->cv=c\/VZ aB l=se cv:=by intro l h e;fun_induction TriplesOk l with| case1 =>simp only[AB,VI,VZ] at e;simp_all| case2 a' t b' u x rest ih =>simp only[oa,VZ] at e ⊢;lia| case3 l h1 h2=>exact h.elim
theorem O4 (z:H.CodeRec (.ref c) q):∃o,H.get? c=se o/\∀h:Rs,h.get? c=se o->h.CodeRec (.ref c) q:=by obtain⟨c',oc,vs,tq,hc,hoc,r⟩:=z;cases hc;exact#[oc,hoc,λh e=>#[_,oc,vs,tq,rfl,e,r]]
variable {params:Arguments}{body:Ru}{scope:U2}{pos:Ue}
theorem O5 (L:LamK X.mg X.base cd (X.B.C.tb l))(inj:∀j,j<X.B.C.nl->X.B.C.tb j=X.B.C.tb l->(X.B.C.lm j).qual=(X.B.C.lm l).qual)(hk:bH l X.B.C.nl=tj:=by rfl)(hL:X.B.C.lm l=#[X.env.qual++"<lambda>",params,body,scope]:=by rfl)(nu:X.env.code=.ref cd:=by rfl)(tJ:closureFor scope X.env=pure []:=by rfl)(hdef:defaultsOf params X.env=([],[]):=by rfl):QE X (.Lambda params body scope pos) (rLam l):=#[λ{pins ρ h ws s P} z q=>by cases z with | mk g I p W =>have lt:=cD.mp hk;obtain⟨⟨j0,rP⟩,ps,eP,ht,hr⟩:=I.hk.tb l lt;have C:=L.code.keeps I.bk;have hg:=I.ok.mod.glob.keeps I.bk;obtain⟨bm,ob,b1,b2,b3,b4,b5,b6⟩:=L.blt;have hb:s.heap.BuiltinsAt X.mg (X.B.C.tb l):=#[bm,ob,b1,b2,b3,b4,I.bk _ _ b5,b6];have q:P (.at (hn h)) (hp h (.mf l)):=q;rw[show hn h=h.length from aV h,show hp h (.mf l)=h++[.mf l]from gN _ _] at q;refine PySem.W.kla_eval hdef ?_;(have ql:(X.B.C.lm l).qual=X.env.qual++"<lambda>":=by rw[hL]);cases e:VZ pos ps.toList with| none =>(refine PySem.W.kla_makeFunction tJ I.ok.glob hg nu C eP ht e L.ne hb λc' ctv h' tk hx hge eO hrec htb=>?_;obtain⟨oc,ec,fc⟩:=O4 hrec;have gc:=I.hk.fresh (Heap.get?_none_of_le hge);have ga:=I.hk.fresh (Heap.get?_none_of_le (eI (k6 hge eO)));have gr:=Gr.upd (r:=se (.dat oc)) gc;have k1:=λb o hb e=>hx b o hb e;(have q1:=I.hk.lam gc ec rP k1 #[_,htb] λj hj ej=>by refine#[#[j0,by rw[ej,Gs.upd_ne (by rintro rfl;rw[gc] at rP;cases rP),rP]],_,by exact ej▸htb,by simpa using TriplesOk_snoc pos.line pos.col (.ref c') ps.toList ht,λaB cv hcv=>?_];rw[inj j hj ej];have bD:=O3 ps.toList ht (by simpa using hcv);rcases bD with rfl | bD;exact#[c',rfl,oc,Gs.upd_same,by exact ql▸fc];obtain⟨c2,z1,z2⟩:=hr aB cv bD;exact#[c2,z1,gr.le.fz z2]);have I1:=I.go gr q1 (λb o z=>k1 b o (by rintro rfl;rw[rP] at z;cases z)) tk;refine#[_,_,vJ (ws':=[]) (s:={ s with heap:=h',toks:=tk}) I1 (λy z=>gr.f _ _ (p y z) (.inl rfl)) (gr.le.held W) [h'.objs.size] (λb z=>?_) (λ_ _=>Heap.get?_push_of_some _) (λb z=>by rw[cT.mp z];exact#[_,Heap.get?_push_size _ rfl]) (λg' x _ r=>?_) tk,q];rw[cT.mp z,Gs.upd_ne (eD eO),ga];refine .mf (ctv:=ctv) (pm:=(X.mg "__name__").getD .none) (r _ (by simp)) ?_ (x.fz #[oc,Gs.upd_same,by exact ql▸fc]);exact hL▸Heap.get?_push_size _ rfl)| some cv =>obtain⟨c',e1,e2⟩:=hr pos cv e;subst e1;refine PySem.W.kla_makeFunctionHit tJ I.ok.glob hg nu C eP ht e hb λctv h' tk cP hs=>?_;have ga:=I.hk.fresh (Heap.get?_none_of_le hs);refine#[_,_,vJ (a:=h'.objs.size) (ws':=[]) I p W [h'.objs.size] (λb z=>by rw[cT.mp z,ga]) (λb o e=>Heap.get?_push_of_some _ (cP b o e)) (λb z=>by rw[cT.mp z];exact#[_,Heap.get?_push_size _ rfl]) (λg' x _ r=>?_) tk,q];refine .mf (ctv:=ctv) (pm:=(X.mg "__name__").getD .none) (r _ (by simp)) ?_ (x.fz e2);exact hL▸Heap.get?_push_size _ rfl]
noncomputable def czL (T:Bz) (N:List Q7) (qual:Q7) (scope:U2) (f:Q5) (cd:Value) (A:Rg) (outer:List Env) (g:Gs) (h:TH) (s:Q4):Cz :={X9 T N qual scope f cd A outer g h s (λ_ _=>False)with E:=λ_ _=>False,xe:=λ_ _=>False}
structure LamF (T:Bz)(j k n:Nat)(fb:RE):Prop where
 ex:∃ps:List Q7,ps.length=n/\TI ps ps (T.B.C.lm k).scope/\(∀(pm cd ct:Value) (us:List Value),us.length=ps.length->bindArgs (PySem.W.kla_fn "<lambda>" (T.B.C.lm k).qual (T.B.C.lm k).params (T.B.C.lm k).body (T.B.C.lm k).scope [] pm cd ct) #[us,[]]=pure (ps.zip us)) /\
  ∀(f:Q5) (cd:Value) (A:Rg) (outer:List Env) (g:Gs) (h:TH) (s:Q4),Sq (j+1) A->QE (czL T ps (T.B.C.lm k).qual (T.B.C.lm k).scope f cd A outer g h s) (T.B.C.lm k).body fb
theorem Gb (z:J X pins ρ h ws s)(m:(x,u)∈ws)(e:eMf h x=se k):∃a pm c ctv,u=.ref a/\s.heap.get? a=se (A7 "<lambda>" (X.B.C.lm k).qual (X.B.C.lm k).params (X.B.C.lm k).body (X.B.C.lm k).scope [] pm c ctv)/\s.heap.CodeRec (.ref c) (X.B.C.lm k).qual:=by unfold eMf at e;split at e;split at e;rename_i e1;cases e;rw[aW] at e1;(cases z with | mk g I p W =>cases W _ m with | at_ e0 =>cases I.hk.th _ _ _ e1 e0 with | mf r e f =>obtain⟨o,eo,fo⟩:=f;exact#[_,_,_,_,rfl,e,fo _ (I.hk.st _ _ (.inl eo))]);cases e;cases e
variable {k':Nat}{x:Q7}{p:Ue}{es:List Ru}{fa:RE}{fA:RA}{lb:Nat->Option (Nat×RE)}
theorem O6 [Y:Yx X k] (LF:∀l p,lb l=se p->LamF X.toBz k' l p.1 p.2)(hk:bQ (k'+1) k=tj)(hn:QE X (.Name x p) fa)(ha:QA X es fA)(hpl:(backTo pos (RD es X.env)).any (·.1)=ff:=by rfl):QE X (.Call (.Name x p) es [] pos) (Zb lb fa fA):=#[λ{pins ρ h ws s P} z q=>Re (Sd (hn.h z q.bnd) λu s1 #[d,h1,z,q]=>by obtain⟨k0,e1,q⟩:=q.o;obtain⟨a,pm,c1,ctv,rfl,e2,e3⟩:=Gb z aO e1;refine A1 (by rw[hpl];rfl) PySem.W.keeps_F (f9 hpl (Sd (ha.h z q.bnd) λus s2 #[ds,h2,l,z2,q2]=>?_));obtain⟨k1,e4,q3⟩:=q2.o;obtain⟨⟨n,fb⟩,e5,q4⟩:=q3.o;obtain⟨eb,q5⟩:=q4.i;obtain⟨a',pm,c2,ctv,ea,e6,e7⟩:=Gb z2 (dG _ aO) e4;cases ea;obtain⟨ps,hps,S,jX,hb⟩:=(LF k1 _ e5).ex;(have dl:ds.length=ps.length:=by rw[hps,<-aV];exact mD eb);refine#[#[_,_,_,_,e6],?_];(have kc:∀y∈ps.zip us,(X.B.C.lm k1).scope.names.lookup y.1=se .local\/((X.B.C.lm k1).scope.names.lookup y.1=se .cell/\((cellsFrom (s2.heap.objs.size+1) (X.B.C.lm k1).scope.names []).lookup y.1).isSome=tj):=λ#[n,v] hy=>by rcases S.par n (bY hy).1 with q | q;exact .inl q;exact .inr #[q,wV _ _ _ (.inl q)]);have hr:=Y.room.mono (oi hk);cases z2 with | mk g I p W =>have ca:=I.ca;refine wpAny_call (Ta (R:=CR X.toBz X.stack (g.hid s2.heap X.env.locals) s2 P X.E) (PySem.W.kla_callFunE hr.depth e6 rfl S.co S.gen rfl e7 ?_) λr s' hq=>by have:=I.ret p (ws:=ws) (λw z=>W w (by simp[z])) hq;cases r with| error e=>exact this| ok fl=>cases fl<;>exact this);rw[show(#[[]++us,[]]:Args)=#[us,[]]from rfl,jX pm (.ref c2) ctv us (l▸dl▸rfl)];refine Q8 (Vc S.kind kc λenv he s3 x=>?_);subst he;refine#[I.nolimit.keeps x.toInCall.keep,PySem.W.kla_codeExpr ?_];obtain⟨g1,J1,gr⟩:=Iv.start (E:=λ_ _=>False) (j:=0) S hr.hd ca l dl rfl (Le.hid.held λw z=>W w (c7 _ z)) x;have J2:Iv (czL X.toBz ps (X.B.C.lm k1).qual (X.B.C.lm k1).scope a (.ref c2) X.A X.stack (g.hid s2.heap X.env.locals) h2 s2) g1 (Vn ds 0) h2 s3:=#[#[J1.ok.mod,J1.ok.kind,J1.ok.glob,J1.ok.blt,J1.ok.inj,J1.ok.has,J1.ok.hd,J1.ok.frames,J1.ok.fr],J1.os,J1.bare,J1.hk,J1.bs,J1.kp,J1.ip,J1.lf,J1.lc,J1.ce,J1.len];refine SU ((hb a (.ref c2) X.A X.stack (g.hid s2.heap X.env.locals) h2 s2 hr).h (pins:=[]) (ws:=[]) #[g1,J2,λ_ z=>by simp at z,λ_ z=>by simp at z] q5.unx) (λu s' hs=>?_) λ_ _ f=>f.elim;obtain⟨d',h',⟨g',I',_,W'⟩,p'⟩:=hs;exact#[d',g',h',I'.os,I'.bare,#[λa r z y=>I'.kp a r z (y.elim id λy=>absurd z (y▸ca.nl a)),I'.ip],I'.hk,W' _ aO,p'])]
end
end NAL.RZ
namespace NAL.EX
open PySem PySem.Spec PyProof.Rows
abbrev FA (K:bw)(x q:Q7)(st:SD)(f:Q5):Prop:=∃(oc:Value) (od:Option Q5) (kV cq pm:Value) (an:Option Q5) (cdv ct:Value) (dO:Array (Option Value)),K.lookup f=se #[oc,od,.func (im x q (Tq st) (SS st) (RF st) .none kV cq pm an cdv ct),dO]/\kA K cdv q=tj/\ii K (.ref f)=tj
abbrev FT (K:bw)(x:Q7)(st:SD):Prop:=∃f,kB K Ri x=se (se (.ref f))/\FA K x x st f
abbrev FM (K:bw)(C:Q5)(x q:Q7)(st:SD):Prop:=∃f,iC K (.ref C) x=se (se (.ref f))/\ou K (.ref f)=tj/\FA K x q st f
abbrev BA (x q:Q7)(st:SD)(ps:List Q7):Prop:=∀(kV cq pm:Value) (an:Option Q5) (cdv ct:Value) (us:List Value),us.length=ps.length->bindArgs (im x q (Tq st) (SS st) (RF st) .none kV cq pm an cdv ct) #[us,[]]=pure (ps.zip us)
theorem ft_mk {K:bw}{st:SD}{kV cq pm cdv ct:Value}(a:kB K Ri x=se (se (.ref f))) (l:K.lookup f=se #[oc,od,.func (im x x (Tq st) (SS st) (RF st) .none kV cq pm an cdv ct),dO]) (c:kA K cdv x=tj) (k:ii K (.ref f)=tj):FT K x st :=#[f,a,oc,od,kV,cq,pm,an,cdv,ct,dO,l,c,k]
theorem fm_mk {K:bw}{st:SD}{kV cq pm cdv ct:Value}(a:iC K (.ref C) x=se (se (.ref f))) (l:K.lookup f=se #[oc,od,.func (im x q (Tq st) (SS st) (RF st) .none kV cq pm an cdv ct),dO]) (c:kA K cdv q=tj) (k:ii K (.ref f)=tj) (i:ou K (.ref f)=tj):FM K C x q st :=#[f,a,i,oc,od,kV,cq,pm,an,cdv,ct,dO,l,c,k]
theorem O7 {K:bw}{st:SD}(ps:List Q7)(X:K.In h)(G:h.Ns Ri mg)(t:FT K x st)(b:BA x x st ps):Top K mg x st ps:=by grind[kV,H0]
theorem O8 {K:bw}{st:SD}(ps:List Q7)(t:FM K C x q st)(cl:Cls K C)(b:BA x q st ps):MTop K C x q st ps:=by obtain⟨f,a,i,oc,od,kV,cq,pm,an,cdv,ct,dO,l,c,k⟩:=t;exact#[#[f,_,mH l c k,(mH l c k).binds b,#[a,i,k]],cl]
end NAL.EX
namespace NAL.RZ
open PySem PySem.Spec PyProof.Rows NAL NAL.EX NAL.RX
structure Bg where
 P:Rh
 w:RK
 K:bw
 mg:Q7->Option Value
 base:Rs
abbrev NoER:Cb->ERt:=λ_ _ _ _ _ _ _=>False
noncomputable abbrev Bg.T (Θ:Bg) (R:Cb->ERt) (C:CT):Bz:=#[#[C,Θ.P,Θ.w],Θ.mg,Θ.base,R #[C,Θ.P,Θ.w]]
structure MTopC (K:bw)(C:Q5)(m qual:Q7)(st:SD)(ps:List Q7)(c:Q5):Prop where
 is:∃(f:Q5) (fd:R2),(∃(oc:Value) (od:Option Q5) (kV cq pm:Value) (an:Option Q5) (ct:Value) (dO:Array (Option Value)),fd=im m qual (Tq st) (SS st) (RF st) .none kV cq pm an (.ref c) ct/\K.lookup f=se #[oc,od,.func fd,dO]/\kA K (.ref c) qual=tj)/\Binds K fd ps []/\Meth K C m f
 cl:Cls K C
section
variable {T:Bz}{N:List Q7}{x y qual:Q7}{st:SD}{k c n j m:Nat}{ps:List Q7}{f cd:Q5}{fd:R2}{keep:Bool}{fs:RS}{ev:List D->TH->RX.R D}
structure Bx (T:Bz):Prop where
 blt:∀x∈bltN,T.mg x=ng
 fld:∀c f,(T.B.C.nm c).contains f=tj->ClsF T.B.C.K (T.B.C.cl c) f
 xp:∀{N qual scope f cd A outer g h s E g1 ρ h1 s1 e s'},Iv (X9 T N qual scope f cd A outer g h s E) g1 ρ h1 s1->T.ER (envOfC qual scope s.heap.objs.size f cd::outer) (g1.hid s1.heap s.heap.objs.size) s1 (qF E g.ι.length) e s'->(X9 T N qual scope f cd A outer g h s E).xe e s'
 en:∀{st g s e s'},T.ER st g s (λ_ _=>False) e s'->False
theorem Gc (B:Bx T)(nd:N.Nodup)(hr:Sq k (X9 T N qual scope f cdv A outer g h s E).A):Yx (X9 T N qual scope f cdv A outer g h s E) k :=#[hr,rfl,B.blt,nd,PassesOwn.leaving,B.xp,B.en,B.fld]
theorem O9 (B:Bx T)(nd:N.Nodup)(hr:Sq (k+1) A):Yx (czL T N qual scope f cdv A outer g h s) k :=#[hr.deeper _,rfl,B.blt,nd,PassesOwn.never,λ_ z=>B.en z,B.en,B.fld]
abbrev mY (T:Bz)(N:List Q7)(qual:Q7)(st:SD)(k:Nat)(fs:RS):Prop :=∀(f:Q5) (cdv:Value) (A:Rg) (outer:List Env) (g:Gs) (h:TH) (s:Q4) (E:Nat->TH->Prop),Yx (X9 T N qual (RF st) f cdv A outer g h s E) k->QB (X9 T N qual (RF st) f cdv A outer g h s E) (SS st) fs
abbrev Pa (T:Bz)(N:List Q7)(qual:Q7)(st:SD)(cd:Q5)(k:Nat)(fs:RS):Prop :=∀(f:Q5) (A:Rg) (outer:List Env) (g:Gs) (h:TH) (s:Q4) (E:Nat->TH->Prop),Yx (X9 T N qual (RF st) f (.ref cd) A outer g h s E) k->QB (X9 T N qual (RF st) f (.ref cd) A outer g h s E) (SS st) fs
structure Zj (ev:List D->TH->RX.R D)(n j:Nat)(fs:RS):Prop where
 h:∀{ds h P E},(ev ds h).sat P E->ds.length=n/\(fs (Vn ds j) h).sat (λx h'=>Fin P h (val x) h') (qF E h.length)
theorem sM:Zj (Sy keep n j fs) n j fs:=#[λq=>NN q]
theorem Pb:Zj (fnK m n j fs) n j fs:=#[λq=>NO q]
theorem vS (B:Bx T)(F:Fun T.B.C.K x qual st f fd)(S:TI N ps (RF st))(hL:N.length=ps.length+j)(e:Zj ev ps.length j fs)(h:mY T N qual st k fs):YL T (k+1) f fd ps ev:=by obtain⟨oc,od,kV,cq,pm,an,cdv,ct,dO,rfl,lk,hcd⟩:=F.ex;exact FE lk hcd S hL e.h λA outer g hh s E hr=>h f cdv A outer g hh s E (Gc B S.nd hr)
theorem Pc (B:Bx T)(t:Top T.B.C.K T.mg x st ps)(S:TI N ps (RF st))(hn:ps.length=n)(hL:N.length=n+j)(e:Zj ev n j fs)(h:mY T N x st k fs):RDef T x (k+1) ps ev:=by subst hn;obtain⟨f,fd,F,hb,hm⟩:=t.is;exact#[f,fd,vS B F S hL e h,hb,hm,F.kp]
theorem Pd (B:Bx T)(t:MTop T.B.C.K (T.B.C.cl c) x qual st ps)(S:TI N ps (RF st))(hn:ps.length=n)(hL:N.length=n+j)(e:Zj ev n j fs)(h:mY T N qual st k fs):RMet T c x (k+1) ps ev:=by subst hn;obtain⟨f,fd,F,hb,hm⟩:=t.is;exact#[#[f,fd,vS B F S hL e h,hb,hm],t.cl]
theorem Gd (B:Bx T)(t:∃f fd,Fun T.B.C.K x qual st f fd/\Binds T.B.C.K fd ps []/\Mk T.B.C.K (T.B.C.cl c) f)(hm:T.mg y=se (.ref (T.B.C.cl c)))(S:TI N ps (RF st))(hn:ps.length=n)(hL:N.length=n+j)(e:Zj ev n j fs)(h:mY T N qual st k fs):RCls T y c (k+1) ps ev:=by subst hn;obtain⟨f,fd,F,hb,hk⟩:=t;exact#[#[f,fd,vS B F S hL e h,hb,hk],hm]
theorem Pe (B:Bx T)(t:MTopC T.B.C.K (T.B.C.cl c) x qual st ps cd)(S:TI N ps (RF st))(hn:ps.length=n)(hL:N.length=n+j)(e:Zj ev n j fs)(h:Pa T N qual st cd k fs):RMet T c x (k+1) ps ev:=by subst hn;obtain⟨f,fd,F,hb,hm⟩:=t.is;refine#[#[f,fd,?_,hb,hm],t.cl];obtain⟨oc,od,kV,cq,pm,an,ct,dO,rfl,lk,hcd⟩:=F;exact FE lk hcd S hL e.h λA outer g hh s E hr=>h f A outer g hh s E (Gc B S.nd hr)
end
theorem Ge:∀{vs:List Value} {ns:xae},IntsAre vs ns->∀w∈ns.zip vs,∃t,w.2=.int w.1 t| _,_,.nil,w,hw=>by simp at hw| _,_,.cons n t h,w,hw=>by rcases bj.mp hw with hw | hw;subst hw;exact#[t,rfl];exact Ge h w hw
theorem Pf {K:bw}{ts:List (Q5×Q7)}{R:ERt}(en:∀{st g s e s'},R st g s (λ_ _=>False) e s'->False)(hCK:C.K=K) (KX:K.In s₁.heap) (o6:s₁.heap.Ns Ri mg) (hb:s₁.heap.Ns builtinsNs mb) (hbb:∀x:Q7,x≠"__name__"->mb x=RH x) (hlim:s₁.heap.NoLimit) (hg:s₁.gens=([].toArray)) (ha:s₁.heap.get? a=se { cls:=.type "list",data:=.seq vs.toArray}) (hi:IntsAre vs ns) (hl:ns.length<=sizeLine) (hr:Sq k callerA) (hkt:A8 K=tj) (iH:∀b q,ts.lookup b=se q->s₁.heap.get? b=se (uJ ([].toArray))/\isCodeTable s₁.heap b/\s₁.heap.BuiltinsAt mg b) (hC:∀k,k<C.nl->∃q,ts.lookup (C.tb k)=se q) (hCt:∀b q,ts.lookup b=se q->∃k,k<C.nl/\C.tb k=b) (F:∀base:Rs,K.In base->base.Ns Ri mg->(∀b q,ts.lookup b=se q->base.BuiltinsAt mg b)->YL #[#[C,P,w],mg,base,R] k fa fd [x] ev) (jX:∀s u,BindsTo s fd #[[u],[]] [(x,u)]) (nz:∃h,ev [.at 0] [.mr ns]=.ok (.bl tj) h) :U6 (Rf P w) callerA (.call (.ref fa) #[[.ref a],[]]) (λr s'=>r=.ok (.ret (.bool tj))/\OldK s₁.heap s'.heap/\s'.os=s₁.os/\AllBare s'.gens) s₁:=by have tW:=hi.length;(have mem:∀{b},b∈ts.map (·.1)↔∃q,ts.lookup b=se q:=λ{b}=>by clear hC F iH hCt;induction ts with| nil=>simp| cons p ts ih =>rw[be,bj,pN,ih];by_cases z:b=p.1;subst z;simp;rw[show(b==p.1)=ff from beq_eq_false_iff_ne.mpr z];simp[z]);let base:=PySem.W.hideAll s₁.heap (ts.map (·.1));(have get:∀{b o},s₁.heap.get? b=se o->ts.lookup b=ng->base.get? b=se o:=λ{b o} e n=>PySem.W.hideAll_get _ e λhm=>by obtain⟨q,z⟩:=mem.mp hm;rw[n] at z;cases z);(have of:∀{b o},base.get? b=se o->s₁.heap.get? b=se o/\ts.lookup b=none:=λ{b o} e=>by refine#[PySem.W.of_hideAll _ e,?_];cases z:ts.lookup b with| none=>rfl| some q =>have:base.get? b=none:=PySem.W.hideAll_none _ (mem.mpr #[q,z]);rw[this] at e;cases e);(have free:∀{b:Q5} {o:Sr},s₁.heap.get? b=se o->o≠uJ ([].toArray)->ts.lookup b=none:=λ{b o} e n=>by cases z:ts.lookup b with| none=>rfl| some q=>have:=(iH b q z).1;rw[e] at this;cases this;exact absurd rfl n);have nsK:∀{b:Q5} {m:Q7->Option Value},s₁.heap.Ns b m->base.Ns b m:=λ{b m} #[o,es,ep,e,d,r]=>#[o,es,ep,get e (free e (by rintro rfl;cases d)),d,r];have hKb:=λb o e=>get (KX b o e) (free (KX b o e) (by rintro rfl;exact absurd (show ff=tj from iQ.mp hkt _ (PySem.W.mem_of_lookupK e)) qN));(have hB:∀b q,ts.lookup b=se q->base.BuiltinsAt mg b:=λb q y=>by obtain⟨bm,o,b1,b2,b3,b4,b5,b6,b7,b8⟩:=(iH b q y).2.2;exact#[bm,o,b1,b2,b3,b4,get b5 (free b5 (by rintro rfl;cases b8)),b6,b7,b8]);let g:Gs:=#[λb=>match ts.lookup b with| some _=>se (.tab 0)| none=>(s₁.heap.get? b).map .dat,[a]];(have gt:∀{b q},ts.lookup b=se q->g.G b=se (.tab 0):=λ{b q} z=>by show(match ts.lookup b with | some _=>se (Ro.tab 0)| none=>_)=_;rw[z]);(have gd:∀{b},ts.lookup b=ng->g.G b=(s₁.heap.get? b).map .dat:=λ{b} z=>by show(match ts.lookup b with | some _=>se (Ro.tab 0)| none=>_)=_;rw[z]);(have cs:∀{b r},g.G b=se r->(r=.tab 0/\∃q,ts.lookup b=se q)\/∃o,r=.dat o/\s₁.heap.get? b=se o:=λ{b r} z=>by cases y:ts.lookup b with| some q=>rw[gt y] at z;cases z;exact .inl #[rfl,q,rfl]| none =>rw[gd y,jM] at z;obtain⟨o,e,rfl⟩:=z;exact .inr #[o,rfl,e]);have na:=free ha (by intro z;cases z);(have hk:Hk #[C,P,w] g [.mr ns] s₁.heap:=by refine#[λb o z=>?_,λb o z=>?_,λb r z=>?_,rfl,λi t b e1 e2=>?_,λk hk=>?_];rcases z with z | z<;>rcases cs z with ⟨y,_⟩ | ⟨o',y,e⟩<;>cases y;exact e;rcases cs z with ⟨y,_⟩ | ⟨o',y,e⟩<;>cases y;rcases cs z with ⟨_,q,y⟩ | ⟨o',y,e⟩;exact#[_,(iH b q y).1];exact#[o',e];(match i,e1,e2 with| 0,e1,e2 =>cases e1;cases e2;exact .mr (by rw[gd na,ha];rfl) tW.symm (by exact tW▸hl) λw hw=>by exact Ge hi w hw| i+1,e1,_=>simp at e1);obtain⟨q,y⟩:=hC k hk;exact#[#[0,gt y],([].toArray),(iH _ q y).1,trivial,λpos c z=>by cases z]);have ca:Ca #[#[C,P,w],mg,base,R] callerA [] g [.mr ns] s₁:=#[rfl,hCK▸#[hKb,nsK o6,#[mb,nsK hb,hbb],by obtain⟨mc,h1,h2⟩:=hlim;exact#[mc,nsK h1,h2]],λb o e=>by rw[gd (of e).2,(of e).1];rfl,hk,.of_eq hg,(λb z=>by rcases cs z with ⟨y,_⟩ | ⟨_,y,_⟩<;>cases y),λ_ z=>by simp at z];obtain⟨h,nz⟩:=nz;refine Ta ((F base hKb (nsK o6) hB).run (ds:=[.at 0]) (us:=[.ref a]) (P:=λv _=>v=.bl tj) (E:=λ_ _=>False) hr ca (jX s₁ (.ref a)) rfl (λw hw=>by exact(cT.mp hw)▸.at_ rfl) (by rw[nz];rfl)) λr s' hq=>?_;cases r with| error e=>exact(en hq).elim| ok fl =>cases fl with| next=>exact False.elim hq| brk=>exact False.elim hq| cont=>exact False.elim hq| ret u =>obtain⟨d,g',h',os,br,x,cP,dq,p⟩:=hq;subst p;cases dq;refine#[rfl,#[λb o e=>?_,λb o e=>?_],os,br];(cases y:ts.lookup b with| none=>exact .inl (cP.st b o (.inl (x.f b _ (by rw[gd y,e];rfl) (.inl rfl))))| some q =>obtain⟨k,hk,rfl⟩:=hCt b q y;obtain⟨_,ps,e2,_⟩:=cP.tb k hk;rw[(iH _ q y).1] at e;cases e;exact .inr (.inl #[(iH _ q y).2.1,rfl,([].toArray),ps,rfl,by rw[e2];simp[uJ]]));cases y:ts.lookup b with| none=>exact#[o,cP.st b o (.inl (x.f b _ (by rw[gd y,e];rfl) (.inl rfl)))]| some q =>obtain⟨k,hk,rfl⟩:=hCt b q y;obtain⟨_,ps,e2,_⟩:=cP.tb k hk;exact#[_,e2]
theorem walk_ofR {l:PySem.W.OpenLaw}{K:Params->bw}{ts:List (Q5×Q7)}{R:Cb->ERt}(en:∀{B st g s e s'},R B st g s (λ_ _=>False) e s'->False) (hn:l.most=se n) (hn2:n<=sizeLine) (hdf:d.params.defaults=[]) (hr:Sq k callerA) (hY:∀w h,YP w h->(K w.params).In h) (hT:∀w h,YP w h->∀b q,ts.lookup b=se q->h.get? b=se (uJ ([].toArray))) (hC:∀(w:RK) b q,ts.lookup b=se q->∃c,wZ (K w.params) c b=tj) (hkt:∀w:RK,A8 (K w.params)=tj) (F:∀w mg fa h,(K w.params).In h->h.Ns Ri mg->mg d.name=se (.ref fa)->∃(C:CT) (fd:R2),C.K=K w.params/\(∀k,k<C.nl->∃q,ts.lookup (C.tb k)=se q)/\(∀b q,ts.lookup b=se q->∃k,k<C.nl/\C.tb k=b)/\(∀s u,BindsTo s fd #[[u],[]] [(x,u)])/\∀base:Rs,(K w.params).In base->base.Ns Ri mg->(∀b q,ts.lookup b=se q->base.BuiltinsAt mg b)->YL (Bg.T #[l.prog,w,K w.params,mg,base] R C) k fa fd [x] ev) (nz:∀ns:xae,ns.length<=n->∃h,ev [.at 0] [.mr ns]=.ok (.bl tj) h) :PySem.W.WalkO q jS XP YP l.row.toRowW d [] (λf vs=>PySem.call f vs):=by refine NAA.attach_call hn hdf λw s₀ s₁ mg mb fa o pm cd cq a vs ns G Y ho hd hcd hmg hobj hints dZ hg=>?_;have KX:=hY w _ Y;obtain⟨C,fd,ck,hc,hct,hb,hF⟩:=F w mg fa _ KX G.T.g hmg;obtain⟨bm,ob,b1,b2,b4,b5,b6,b7⟩:=G.T.bmain;refine Pf (R:=R #[C,l.prog,w]) en ck KX G.T.g G.T.b G.T.builtins G.T.nolimit hg hobj hints (bW dZ hn2) hr (hkt w) (λb q y=>?_) hc hct hF hb (nz ns dZ);have t:=hT w _ Y b q y;obtain⟨c,hc⟩:=hC w b q y;obtain⟨o,vs,file,tf,flags,tg,inF,text,tt,e1,r1,r2,r3,_⟩:=A4 KX hc;refine#[t,#[c,o,vs,e1,r1,r2,r3],bm,ob,b1,b2,λz=>?_,λz=>?_,b4,b5,b6,b7];obtain⟨o2,es,ep,g1,g2,_⟩:=G.T.g;simp_all;lia
section
variable {K:bw}{mg:Q7->Option Value}{h base:Rs}{x q:Q7}{C c f a:Q5}{ps:List Q7}{st:SD}{i j:Int}{oc:Value}{od an:Option Q5}{dO sl:Array (Option Value)}{fs:List Q7}{B:Cb}
noncomputable def okB (K:bw) (x:Q7):Bool:=match kB K Ri x with| some ng=>tj| _=>ff
theorem Pg (X:K.In h)(G:h.Ns Ri mg)(e:okB K x=tj):mg x=none:=by unfold okB at e;split at e;rename_i z;exact PySem.W.mg_none_of X G z;cases e
noncomputable def okC (K:bw) (C:Q5) (fs:List Q7):Bool:=rg K C Str.empty&&uG K C&&wX K C&&(iC K (.ref C) "__setattr__"==se (se (.builtin "object.__setattr__")))&&pY K C&&ii K (.ref C)&&fs.all λf=>iC K (.ref C) f==se ng
theorem zn (e:okC K C fs=tj):Cls K C/\pY K C=tj/\ii K (.ref C)=tj/\∀f,fs.contains f=tj->ClsF K C f:=by unfold okC at e;simp only[cI,beq_iff_eq,iQ] at e;obtain⟨⟨⟨⟨⟨⟨e1,e2⟩,e3⟩,e4⟩,e5⟩,e6⟩,e7⟩:=e;exact#[#[e1,e2,e3,e4],e5,e6,λf hf=>#[#[e1,e2,e3,e4],e7 f (kn.mp hf)]]
noncomputable def okI (K:bw) (x:Q7) (i:Int):Bool:=match kB K Ri x with| some (se (.int j _))=>j==i| _=>ff
theorem Gf (X:K.In h)(G:h.Ns Ri mg)(e:okI K x i=tj):RCst B mg base x (.int i):=by unfold okI at e;split at e;rename_i j t z;cases beq_iff_eq.mp e;exact#[_,oq X G z,λg _=>.int];cases e
theorem Pi {t1 t2 n:Nat}(X:K.In h)(G:h.Ns Ri mg)(XB:K.In base)(u:kB K Ri x=se (se (.ref a))) (l:K.lookup a=se #[.type "tuple",od,.seq ([.int i t1,.int j t2].toArray) n,sl]):RCst B mg base x (.tup [.int i,.int j]) :=#[_,oq X G u,λg hg=>.tup #[_,hg _ _ (XB _ _ l),λ_ e=>#[_,e,rfl,n,rfl]] rfl (show 2<=sizeLine by decide) λw hw=>by simp only[iB,An,bj,gM,or_false] at hw;rcases hw with rfl | rfl<;>exact .int]
theorem Gg (ps:List Q7)(p5:pY K C=tj)(p6:ii K (.ref C)=tj)(t:FM K C "__init__" q st)(b:BA "__init__" q st ps):∃f fd,Fun K "__init__" q st f fd/\Binds K fd ps []/\NAL.Mk K C f:=by obtain⟨f,a,i,oc,od,kV,cq,pm,an,cdv,ct,dO,l,c,kp⟩:=t;exact#[f,_,mH l c kp,(mH l c kp).binds b,#[p5,a,i,p6]]
abbrev FMC (K:bw)(C:Q5)(x q:Q7)(st:SD)(c:Q5):Prop:=∃f,iC K (.ref C) x=se (se (.ref f))/\ou K (.ref f)=tj/\∃(oc:Value) (od:Option Q5) (kV cq pm:Value) (an:Option Q5) (ct:Value) (dO:Array (Option Value)),K.lookup f=se #[oc,od,.func (im x q (Tq st) (SS st) (RF st) .none kV cq pm an (.ref c) ct),dO]/\kA K (.ref c) q=tj/\ii K (.ref f)=tj
theorem fmc_mk {kV cq pm ct:Value}(a:iC K (.ref C) x=se (se (.ref f))) (l:K.lookup f=se #[oc,od,.func (im x q (Tq st) (SS st) (RF st) .none kV cq pm an (.ref c) ct),dO]) (d:kA K (.ref c) q=tj) (k:ii K (.ref f)=tj) (i:ou K (.ref f)=tj):FMC K C x q st c :=#[f,a,i,oc,od,kV,cq,pm,an,ct,dO,l,d,k]
theorem Pj (ps:List Q7)(cl:Cls K C)(t:FMC K C x q st c)(b:BA x q st ps):MTopC K C x q st ps c:=by obtain⟨f,a,i,oc,od,kV,cq,pm,an,ct,dO,l,d,kp⟩:=t;exact#[#[f,_,#[oc,od,kV,cq,pm,an,ct,dO,rfl,l,d],(mH l d kp).binds b,#[a,i,kp]],cl]
theorem Pk (X:K.In base)(e:wZ K c T=tj)(b:base.BuiltinsAt mg T)(n:Ri≠T):LamK mg base c T:=#[A4 X e,b,n]
theorem one_tab (e:[(a,x)].lookup b=se q'):b=a:=by rw[pN] at e;by_cases z:b=a;exact z;rw[show(b==a)=ff from beq_eq_false_iff_ne.mpr z] at e;cases e
end
end NAL.RZ
set_option maxHeartbeats 40000000
namespace NAM
open PySem PySem.Spec PyProof.Rows NAL NAL.EX NAL.RX NAL.RZ
local macro_rules | `(tactic| walk_at "sc")=>`(tactic| exact ⟨by decide +kernel,rfl,rfl,by decide +kernel,(by repeat (first | exact True.intro | refine And.intro (Or.inl rfl) ?_ | refine And.intro (Or.inr rfl) ?_)),rfl,by decide +kernel,by decide +kernel,by intro _; rfl⟩)
local macro_rules | `(tactic| walk_at "E")=>`(tactic| first
 | exact q_v | exact M8 | exact yW | exact M7 | exact M5 | exact M6
 | refine M9 ?_ ?_ | refine Na ?_ ?_ | refine Nc ?_ ?_ ?_ | refine NJ ?_ | refine Ot ?_ ?_ ?_ | refine Ou ?_ | refine Ov ?_ ?_ | refine OO ?_ | refine NH ?_ ?_
 | refine NB ?_ | refine NC ?_ | exact ND | refine Ng ?_ ?_ | refine Nh ?_ ?_ | refine Nl ?_ | refine Nf ?_ | refine Nd ?_ | refine Ni ?_ ?_ ?_
 | refine ze (vL (by decide)) (by walk_at "sc") ?_ (λc Y=>fB Y) λc Y=>?_
 | refine ze (vM (by decide) (by decide)) (by walk_at "sc") ?_ (λc Y=>sC Y (fB Y) (fB Y)) λc Y=>?_
 | refine ze (NQ (by decide) (by decide) (by decide)) (by walk_at "sc") ?_ (λc Y=>FG Y (fB Y) (fB Y) (fB Y)) λc Y=>?_
 | refine FR (vL (by decide)) (by walk_at "sc") ?_ (λc Y=>fB Y) (λc Y=>?_) λc Y=>?_
 | refine FR (vM (by decide) (by decide)) (by walk_at "sc") ?_ (λc Y=>sC Y (fB Y) (fB Y)) (λc Y=>?_) λc Y=>?_
 | refine NK ?_ ?_ | refine N9 ?_ ?_ | refine Og ?_ ?_ ?_ | refine Ob ?_ | refine Oh ?_ ?_ | refine Oi ?_ ?_ | refine Oa ?_ ?_ | refine Od ?_ ?_ | refine Oc ?_
 | refine NI ?_ | refine NL ?_ | refine O6 (by assumption) rfl ?_ ?_ | refine q_b ?_ | refine OX ?_ | refine O2 ?_
 | refine OZ ?_ | refine O0 ?_ | refine OY ?_ ?_ | refine OQ ?_ | exact O5 (by assumption) (λ_ _ _=>rfl) | refine NE ?_)
local macro_rules | `(tactic| walk_at "S")=>`(tactic| first
 | refine Nu ?_ | refine Nt ?_ | refine Nv ?_ ?_ ?_
 | refine FS (vL (by decide)) (by walk_at "sc") ?_ (λc Y=>fB Y) λc Y=>?_
 | refine FS (vM (by decide) (by decide)) (by walk_at "sc") ?_ (λc Y=>sC Y (fB Y) (fB Y)) λc Y=>?_
 | refine FU (vL (by decide)) (by walk_at "sc") ?_ (λc Y=>fB Y) (λc Y=>?_) λc Y=>?_
 | refine FU (vM (by decide) (by decide)) (by walk_at "sc") ?_ (λc Y=>sC Y (fB Y) (fB Y)) (λc Y=>?_) λc Y=>?_
 | refine OC ?_ | refine Ow ?_ | refine NM ?_ ?_ | refine Oz ?_ ?_ ?_
 | refine OA ?_ ?_ ?_
 | refine zb ?_ (λY=>fB Y) ?_ | refine zb ?_ (λY=>sC Y (fB Y) (fB Y)) ?_ | refine zb ?_ (λY=>FG Y (fB Y) (fB Y) (fB Y)) ?_ | refine NR ?_ ?_ | exact No | refine OB ?_)
local macro_rules | `(tactic| walk_at "q")=>`(tactic| first
 | (show QE _ _ _;walk_at "E")
 | (show QA _ _ _;first | exact qD | refine su ?_ ?_)
 | (show QT _ _ _;first | refine Nb ?_ ?_ | refine Nk ?_ | refine Fi (Fg ?_ ?_) | refine Fi (Fh ?_ ?_) | refine Nj ?_)
 | (show QW _ _ _;first | refine Fg ?_ ?_ | refine Fh ?_ ?_ | refine Nm ?_ | refine Nn ?_)
 | (show QS _ _ _;walk_at "S")
 | (show QB _ _ _;first | refine Nq ?_ | refine Nr ?_ ?_ | exact Np)
 | (show QI _ _ _ _;first | refine N0 ?_ | refine N3 ?_ | refine N6 ?_ ?_ | refine N7 ?_ ?_ ?_ | refine NY ?_)
 | (show QO _ _ _;first | exact vQ | refine vR ?_))
local macro_rules | `(tactic| walk_at "x")=>`(tactic| repeat' (walk_at "q"))
local macro_rules | `(tactic| walk_at "sf")=>`(tactic| exact ⟨rfl,rfl,rfl,by decide +kernel,rfl,by decide +kernel,by decide +kernel⟩)
def Gh:Nat->(List Value->Prop)->Prop| 0,P=>P []| n+1,P=>∀a,Gh n λl=>P (a::l)
theorem sN {n:Nat}{P:List Value->Prop}(h:Gh n P):∀us:List Value,us.length=n->P us:=by induction n generalizing P with| zero=>(intro us hl;cases us with| nil=>exact h| cons _ _=>cases hl)| succ n ih=>intro us hl;cases us with| nil=>cases hl| cons a us=>exact ih (h a) us (kz hl)
local macro_rules | `(tactic| walk_at "b")=>`(tactic| first | exact fun _ _ _ _ _ _=>sN (n:=1) fun _=>rfl | exact fun _ _ _ _ _ _=>sN (n:=2) fun _ _=>rfl | exact fun _ _ _ _ _ _=>sN (n:=3) fun _ _ _=>rfl | exact fun _ _ _ _ _ _=>sN (n:=4) fun _ _ _ _=>rfl | exact fun _ _ _ _ _ _=>sN (n:=5) fun _ _ _ _ _=>rfl)
local macro_rules | `(tactic| walk_at "B")=>`(tactic| (intro f cdv A outer g h s E Y; walk_at "x"))
abbrev Fq:=Nat×Nat×Q7×Q7×SD
noncomputable abbrev tF (x:Q7) (i:Nat):Fq:=(0,0,x,x,top i)
noncomputable abbrev mF (c:Nat) (x q:Q7) (i j:Nat):Fq:=(1,c,x,q,XN (top i) j)
structure Ad where
 p:Q5
 r:Q5
 h:Q5
 t:Q5
noncomputable abbrev Cc (Θ:Bg) (a:Ad):CT:=gC Θ.K a.p a.r a.h a.t λ_=>0
noncomputable abbrev Tt (Θ:Bg) (a:Ad):Bz:=Θ.T NoER (Cc Θ a)
abbrev dS (x:Q7)(k:Nat)(ps:List Q7)(e:List D->TH->R D)(Θ:Bg)(a:Ad):Prop:=RDef (Tt Θ a) x k ps e
abbrev mS (c:Nat)(x:Q7)(k:Nat)(ps:List Q7)(e:List D->TH->R D)(Θ:Bg)(a:Ad):Prop:=RMet (Tt Θ a) c x k ps e
abbrev cS (x:Q7)(c k:Nat)(ps:List Q7)(e:List D->TH->R D)(Θ:Bg)(a:Ad):Prop:=RCls (Tt Θ a) x c k ps e
abbrev iS (x:Q7)(d:D)(Θ:Bg)(a:Ad):Prop:=RCst (Tt Θ a).B Θ.mg Θ.base x d
section
variable {Θ:Bg}{a:Ad}{K:bw}{N ps:List Q7}{x y q:Q7}{st:SD}{k c n j m:Nat}{keep:Bool}{fs:RS}{cl:Nat->Q5}
def Fcs (K:bw)(cl:Nat->Q5):List Fq->Prop| []=>True| (0,_,x,_,st)::l=>FT K x st/\Fcs K cl l| (_,c,x,q,st)::l=>FM K (cl c) x q st/\Fcs K cl l
theorem vT:∀{l:List Fq} {n:Nat},Fcs K cl l->l[n]?=se (0,c,x,q,st)->FT K x st| _::_,0,a,e=>by cases e;exact a.1| (0,_)::_,_+1,a,e=>vT a.2 e| (_+1,_)::_,_+1,a,e=>vT a.2 e
theorem sO:∀{l:List Fq} {n:Nat},Fcs K cl l->l[n]?=se (1,c,x,q,st)->FM K (cl c) x q st| _::_,0,a,e=>by cases e;exact a.1| (0,_)::_,_+1,a,e=>sO a.2 e| (_+1,_)::_,_+1,a,e=>sO a.2 e
structure Bb (Θ:Bg)(a:Ad)(l:List Fq):Prop where
 B:Bx (Tt Θ a)
 X:∃h,Θ.K.In h/\Heap.Ns h Ri Θ.mg
 f:Fcs Θ.K (Cc Θ a).cl l
 c:∀c,Cls Θ.K ((Cc Θ a).cl c)/\pY Θ.K ((Cc Θ a).cl c)=tj/\ii Θ.K (.ref ((Cc Θ a).cl c))=tj
 l:∀i p,lb i=se p->LamF (Tt Θ a) 0 i p.1 p.2
variable {l:List Fq}(B:Bb Θ a l)
include B
theorem dd (i:Nat)(N:List Q7)(t:l[i]?=se (0,0,x,x,st):=by rfl)(S:TI N ps (RF st):=by walk_at "sf")(b:BA x x st ps:=by walk_at "b")(hn:ps.length=n:=by rfl)(hL:N.length=n+j:=by rfl)(h:mY (Tt Θ a) N x st k fs:=by walk_at "B"):dS x (k+1) ps (Sy keep n j fs) Θ a :=let #[_,X,G]:=B.X;Pc B.B (O7 ps X G (vT B.f t) b) S hn hL sM h
theorem dm (i:Nat)(N:List Q7)(t:l[i]?=se (1,c,x,q,st):=by rfl)(S:TI N ps (RF st):=by walk_at "sf")(b:BA x q st ps:=by walk_at "b")(hn:ps.length=n:=by rfl)(hL:N.length=n+j:=by rfl)(h:mY (Tt Θ a) N q st k fs:=by walk_at "B"):mS c x (k+1) ps (Sy keep n j fs) Θ a:=Pd B.B (O8 ps (sO B.f t) (B.c c).1 b) S hn hL sM h
theorem dc (i:Nat)(N:List Q7)(hm:Θ.mg y=se (.ref ((Cc Θ a).cl c)))(t:l[i]?=se (1,c,("__init__":Q7),q,st):=by rfl)(S:TI N ps (RF st):=by walk_at "sf")(b:BA "__init__" q st ps:=by walk_at "b")(hn:ps.length=n:=by rfl)(hL:N.length=n+j:=by rfl)(h:mY (Tt Θ a) N q st k fs:=by walk_at "B"):cS y c (k+1) ps (Sy keep n j fs) Θ a:=Gd B.B (Gg ps (B.c c).2.1 (B.c c).2.2 (sO B.f t) b) hm S hn hL sM h
theorem dcK (i:Nat)(N:List Q7)(hm:Θ.mg y=se (.ref ((Cc Θ a).cl c)))(t:l[i]?=se (1,c,("__init__":Q7),q,st):=by rfl)(S:TI N ps (RF st):=by walk_at "sf")(b:BA "__init__" q st ps:=by walk_at "b")(hn:ps.length=n:=by rfl)(hL:N.length=n+j:=by rfl)(h:mY (Tt Θ a) N q st k fs:=by walk_at "B"):cS y c (k+1) ps (fnK m n j fs) Θ a:=Gd B.B (Gg ps (B.c c).2.1 (B.c c).2.2 (sO B.f t) b) hm S hn hL Pb h
end
theorem Pl {Θ:Bg}{a:Ad}(B:Bx (Tt Θ a)):∀l p,lb l=se p->LamF (Tt Θ a) 0 l p.1 p.2| 0,_,e=>by cases e;(have S:TI ["share"] ["share"] lamS.scope:=by walk_at "sf");refine#[["share"],rfl,S,λpm cd ct us hl=>?_,λf cd A outer g h s hr=>?_];(match us,hl with| [_],_=>rfl);have Y:=O9 (T:=Tt Θ a) (N:=["share"]) (qual:=lamS.qual) (scope:=lamS.scope) (f:=f) (cdv:=cd) (outer:=outer) (s:=s) (g:=g) (h:=h) (k:=0) B (by decide +kernel) hr;walk_at "x"| n+1,_,e=>by cases e
noncomputable def fcs:List Fq:=[tF "_law_mixed" 49,tF "_law_names" 54,tF "_law_cell_at" 48,mF 2 "__init__" "House.__init__" 46 0,tF "_law_first_of" 56,tF "_law_some" 55,tF "_law_work" 52,tF "_law_put" 57,tF "_law_deed" 58,tF "is_name" 43,tF "need_name" 44,mF 1 "__init__" "Roll.__init__" 45 0,mF 1 "hand_names" "Roll.hand_names" 45 1,mF 2 "old_row" "House.old_row" 46 16,mF 0 "__init__" "Pour.__init__" 22 0,mF 0 "gives_with_rest" "Pour.gives_with_rest" 22 3,mF 0 "has_room" "Pour.has_room" 22 4,mF 0 "far_end" "Pour.far_end" 22 1,mF 0 "may_go" "Pour.may_go" 22 2,mF 0 "row_behind" "Pour.row_behind" 22 6,mF 0 "steps_to_room" "Pour.steps_to_room" 22 5,mF 0 "leads_on" "Pour.leads_on" 22 10,mF 0 "skip_dead_ties" "Pour.skip_dead_ties" 22 9,mF 0 "way_from" "Pour.way_from" 22 8,mF 0 "send_along" "Pour.send_along" 22 11,mF 0 "send_by_steps" "Pour.send_by_steps" 22 7,mF 0 "fill" "Pour.fill" 22 12,tF "pour_more" 24,tF "pour_all" 23,tF "ties_in" 26,tF "work_in" 27,tF "pour_in" 28,tF "chosen" 29,tF "crowds_by" 30,tF "is_whole" 12,tF "divisor_of" 13,tF "part_of" 14,tF "shares_in" 34,tF "rows_from" 31,tF "deal_evenly" 33,tF "plus_in_lowest" 16,tF "sum_of_parts" 17,tF "loads_of_shares" 35,tF "is_kept" 38,tF "kept_up" 37,mF 2 "changes_to" "House.changes_to" 46 17,mF 1 "by_names" "Roll.by_names" 45 2,mF 2 "with_crew" "House.with_crew" 46 13,mF 2 "hire" "House.hire" 46 4,mF 2 "need_hand" "House.need_hand" 46 2,mF 2 "with_task" "House.with_task" 46 14,mF 2 "put" "House.put" 46 5,mF 2 "need_chore" "House.need_chore" 46 3,mF 2 "drop" "House.drop" 46 6,mF 2 "grow" "House.grow" 46 9,mF 2 "more" "House.more" 46 7,mF 2 "fewer" "House.fewer" 46 8,mF 2 "move" "House.move" 46 12,mF 2 "away" "House.away" 46 10,mF 2 "back" "House.back" 46 11,tF "_law_do" 59,tF "_law_noted" 60,tF "_law_below" 53,mF 2 "load" "House.load" 46 18,tF "is_below" 15,mF 2 "hands" "House.hands" 46 22,mF 2 "shares" "House.shares" 46 19,mF 2 "chores" "House.chores" 46 23,tF "chores_at" 19,tF "limit_of" 20,tF "_law_holds" 61,tF "_law_limit" 62,tF "_law_divisor" 50,tF "_law_lowest" 51,tF "_law_level" 63,tF "law" 64]
section
variable {Θ:Bg}{a:Ad}(B:Bb Θ a fcs)
include B
abbrev qG:=dS "_law_mixed" 1 ["_law_cell","_law_k"] SL
theorem Pm :qG Θ a:=by exact dd B 0 ["_law_cell","_law_k","_law_number","_law_time"]
abbrev Gi:=dS "_law_names" 2 ["_law_cell","_law_many"] U3
theorem Pn (_:qG Θ a):Gi Θ a:=by exact dd B 1 ["_law_cell","_law_many","_law_letters","_law_number","_law_base","_law_at"]
abbrev Gj:=dS "_law_cell_at" 1 ["_law_script","_law_k"] Us
theorem Po :Gj Θ a:=by exact dd B 2 ["_law_script","_law_k"]
abbrev Gk:=cS "House" 2 1 ["self"] XS
theorem Pp  (u:Θ.mg "House"=se (.ref a.h)):Gk Θ a:=by exact dc B 3 ["self"] u
abbrev zq:=dS "_law_first_of" 1 ["_law_names_here","_law_others"] TU
theorem Pq :zq Θ a:=by exact dd B 4 ["_law_names_here","_law_others","_law_name"]
abbrev Gm:=dS "_law_some" 1 ["_law_number","_law_names_here"] WR
theorem Pr :Gm Θ a:=by exact dd B 5 ["_law_number","_law_names_here","_law_found","_law_name"]
abbrev zr:=dS "_law_work" 2 ["_law_cell"] VB
theorem Ps (_:qG Θ a):zr Θ a:=by exact dd B 6 ["_law_cell","_law_number"]
abbrev Gn:=dS "_law_put" 3 ["_law_cell","_law_note","_law_words"] XD
theorem Pu (_:zq Θ a)(_:qG Θ a)(_:Gm Θ a)(_:zr Θ a):Gn Θ a:=by exact dd B 7 ["_law_cell","_law_note","_law_words","_law_chore","_law_number"]
abbrev Gp:=dS "_law_deed" 4 ["_law_cell","_law_note","_law_words"] VC
theorem Pw (_:qG Θ a)(_:zq Θ a)(_:Gn Θ a)(_:zr Θ a):Gp Θ a:=by exact dd B 8 ["_law_cell","_law_note","_law_words","_law_way","_law_number","_law_few","_law_name","_law_chore","_law_work_here"]
abbrev Gq:=dS "is_name" 1 ["thing"] Xa
theorem Px (_:iS "LONGEST_NAME" (.int 12) Θ a):Gq Θ a:=by exact dd B 9 ["thing"]
abbrev zu:=dS "need_name" 2 ["thing"] VA
theorem Py (_:Gq Θ a):zu Θ a:=by exact dd B 10 ["thing"]
abbrev Gu:=cS "Roll" 1 1 ["self","crew","tasks"] WS
theorem Pz  (u:Θ.mg "Roll"=se (.ref a.r)):Gu Θ a:=by exact dc B 11 ["self","crew","tasks","number_of","chore","numbers"] u
abbrev zv:=mS 1 "hand_names" 1 ["self","numbers"] SO
theorem PA :zv Θ a:=by exact dm B 12 ["self","numbers"]
abbrev Gv:=mS 2 "old_row" 2 ["self","roll","place","touched"] TW
theorem PB (_:zv Θ a)(_:iS "NOTHING" (.tup [.int 0,.int 1]) Θ a):Gv Θ a:=by exact dm B 13 ["self","roll","place","touched","chore","doers"]
abbrev Gw:=cS "Pour" 0 1 ["self","gives","takes","ties","sent"] VD
theorem PC  (u:Θ.mg "Pour"=se (.ref a.p)):Gw Θ a:=by exact dcK B 14 ["self","gives","takes","ties","sent","tie","ends","end"] u
abbrev zw:=mS 0 "gives_with_rest" 1 ["self"] R8
theorem PD :zw Θ a:=by exact dm B 15 ["self"]
abbrev vU:=mS 0 "has_room" 1 ["self","ends"] SG
theorem PE :vU Θ a:=by exact dm B 16 ["self","ends"]
abbrev vV:=mS 0 "far_end" 1 ["self","end","tie"] Tz
theorem PF :vV Θ a:=by exact dm B 17 ["self","end","tie","ends"]
abbrev zx:=mS 0 "may_go" 1 ["self","end","tie"] UL
theorem PG :zx Θ a:=by exact dm B 18 ["self","end","tie"]
abbrev Gx:=mS 0 "row_behind" 2 ["self","row","steps"] Ut
theorem PH (_:vV Θ a)(_:zx Θ a):Gx Θ a:=by exact dm B 19 ["self","row","steps","behind","end","tie","far"]
abbrev Gy:=mS 0 "steps_to_room" 3 ["self"] SP
theorem PJ (_:zw Θ a)(_:vU Θ a)(_:Gx Θ a):Gy Θ a:=by exact dm B 20 ["self","steps","row","give"]
abbrev Gz:=mS 0 "leads_on" 2 ["self","end","tie","steps"] UV
theorem PK (_:vV Θ a)(_:zx Θ a):Gz Θ a:=by exact dm B 21 ["self","end","tie","steps"]
abbrev GA:=mS 0 "skip_dead_ties" 3 ["self","end","steps","tried"] Tj
theorem PL (_:Gz Θ a):GA Θ a:=by exact dm B 22 ["self","end","steps","tried","ties"]
abbrev GC:=mS 0 "way_from" 4 ["self","give","steps","tried"] TV
theorem PN (_:vU Θ a)(_:GA Θ a)(_:vV Θ a):GC Θ a:=by exact dm B 23 ["self","give","steps","tried","way","ends","end","tie"]
abbrev GD:=mS 0 "send_along" 1 ["self","give","way"] Tn
theorem PO :GD Θ a:=by exact dm B 24 ["self","give","way","take","amount","tie"]
abbrev GE:=mS 0 "send_by_steps" 5 ["self","steps"] Tx
theorem PP (_:zw Θ a)(_:GC Θ a)(_:GD Θ a):GE Θ a:=by exact dm B 25 ["self","steps","tried","give","way"]
abbrev GF:=mS 0 "fill" 6 ["self"] WT
theorem PQ (_:Gy Θ a)(_:vU Θ a)(_:GE Θ a):GF Θ a:=by exact dm B 26 ["self","steps"]
abbrev GG:=dS "pour_more" 7 ["gives","takes","ties","sent"] WO
theorem PR (_:Gw Θ a)(_:GF Θ a):GG Θ a:=by exact dd B 27 ["gives","takes","ties","sent","pour","near"]
abbrev GH:=dS "pour_all" 8 ["gives","takes","ties"] Xz
theorem PS (_:GG Θ a):GH Θ a:=by exact dd B 28 ["gives","takes","ties"]
abbrev zy:=dS "ties_in" 1 ["doers","crowd"] VW
theorem PT :zy Θ a:=by exact dd B 29 ["doers","crowd","place_of","ties","give","chore"]
abbrev GI:=dS "work_in" 1 ["works","crowd"] X4
theorem PU :GI Θ a:=by exact dd B 30 ["works","crowd"]
abbrev zB:=dS "pour_in" 9 ["works","doers","crowd"] W8
theorem PV (_:GH Θ a)(_:zy Θ a)(_:GI Θ a):zB Θ a:=by exact dd B 31 ["works","doers","crowd","many","gives"]
abbrev GJ:=dS "chosen" 1 ["things","marks","wanted"] XR
theorem PW :GJ Θ a:=by exact dd B 32 ["things","marks","wanted"]
abbrev GK:=dS "crowds_by" 10 ["works","doers","many"] WP
theorem PX (_:zB Θ a)(_:GJ Θ a):GK Θ a:=by exact dd B 33 ["works","doers","many","crowds","uncut","crowd","near","wanted"]
abbrev GL:=dS "is_whole" 1 ["thing"] Vl
theorem PY :GL Θ a:=by exact dd B 34 ["thing"]
abbrev zC:=dS "divisor_of" 1 ["one","other"] Ur
theorem PZ :zC Θ a:=by exact dd B 35 ["one","other","greater","lesser","rest"]
abbrev GM:=dS "part_of" 2 ["top","bottom"] W9
theorem P5 (_:GL Θ a)(_:zC Θ a):GM Θ a:=by exact dd B 36 ["top","bottom","divisor"]
abbrev GN:=dS "shares_in" 10 ["works","doers","crowd"] Vz
theorem P6 (_:zB Θ a)(_:GM Θ a):GN Θ a:=by exact dd B 37 ["works","doers","crowd","sent"]
abbrev GP:=dS "rows_from" 2 ["doers","crowds","sents","nothing"] WN
theorem P7 (_:zy Θ a):GP Θ a:=by exact dd B 38 ["doers","crowds","sents","nothing","rows","crowd","sent","tie","amount","chore"]
abbrev GQ:=dS "deal_evenly" 11 ["works","doers","many"] UK
theorem P8 (_:GK Θ a)(_:GN Θ a)(_:GP Θ a):GQ Θ a:=by exact dd B 39 ["works","doers","many","crowds","sents"]
abbrev GR:=dS "plus_in_lowest" 2 ["one","other"] UG
theorem P9 (_:zC Θ a):GR Θ a:=by exact dd B 40 ["one","other","shared","top","extra"]
abbrev GS:=dS "sum_of_parts" 3 ["parts"] Vk
theorem Qa (_:GR Θ a):GS Θ a:=by exact dd B 41 ["parts","total","part"]
abbrev zD:=dS "loads_of_shares" 4 ["doers","many","shares"] Tk
theorem Qb (_:GS Θ a):zD Θ a:=by exact dd B 42 ["doers","many","shares","shares_at","hands","row","hand","share"]
abbrev GT:=dS "is_kept" 1 ["hands","old","stayed"] X6
theorem Qc :GT Θ a:=by exact dd B 43 ["hands","old","stayed"]
abbrev GU:=dS "kept_up" 12 ["works","doers","many","shares","old_loads"] X5
theorem Qd (_:GQ Θ a)(_:zD Θ a)(_:GT Θ a):GU Θ a:=by exact dd B 44 ["works","doers","many","shares","old_loads","dealt","loads","stayed"]
abbrev GV:=mS 2 "changes_to" 1 ["self","burdens"] T6
theorem Qe (_:iS "NOTHING" (.tup [.int 0,.int 1]) Θ a):GV Θ a:=by exact dm B 45 ["self","burdens","changes"]
abbrev GW:=mS 1 "by_names" 2 ["self","rows","is_above"] UU
theorem Qg (_:zv Θ a):GW Θ a:=by have lf:=B.l;exact dm B 46 ["self","rows","is_above","told","chore","numbers","row"]
abbrev vW:=mS 2 "settle" 13 ["self","crew","tasks","touched"] Sv
theorem Qh (_:Gu Θ a)(_:Gv Θ a)(_:GU Θ a)(_:zD Θ a)(_:GV Θ a)(_:GW Θ a)(_:iS "NOTHING" (.tup [.int 0,.int 1]) Θ a){cd:Q5}(lk:LamK Θ.mg Θ.base cd a.t)(F:FMC Θ.K a.h "settle" "House.settle" (XN (top 46) 15) cd):vW Θ a:=Pe (N:=["self","crew","tasks","touched","roll","many","old_rows","old_loads","dealt","burdens","changes"]) B.B (Pj _ (B.c 2).1 F (by walk_at "b")) (by walk_at "sf") rfl rfl sM (by intro f A outer g h s E Y;walk_at "x")
abbrev zE:=mS 2 "with_crew" 14 ["self","name","is_present"] Tp
theorem Qi (_:vW Θ a):zE Θ a:=by exact dm B 47 ["self","name","is_present","crew"]
abbrev GX:=mS 2 "hire" 15 ["self","name"] Wj
theorem Qj (_:zu Θ a)(_:zE Θ a)(_:iS "MOST" (.int 40) Θ a):GX Θ a:=by exact dm B 48 ["self","name"]
abbrev vX:=mS 2 "need_hand" 1 ["self","name"] SQ
theorem Qk :vX Θ a:=by exact dm B 49 ["self","name"]
abbrev zF:=mS 2 "with_task" 14 ["self","chore","work","named"] To
theorem Ql (_:vW Θ a):zF Θ a:=by exact dm B 50 ["self","chore","work","named","tasks"]
abbrev GY:=mS 2 "put" 15 ["self","chore","work","names"] WU
theorem Qm (_:zu Θ a)(_:vX Θ a)(_:zF Θ a)(_:iS "MOST" (.int 40) Θ a):GY Θ a:=by exact dm B 51 ["self","chore","work","names","name"]
abbrev vY:=mS 2 "need_chore" 1 ["self","chore"] Sw
theorem Qn :vY Θ a:=by exact dm B 52 ["self","chore"]
abbrev GZ:=mS 2 "drop" 14 ["self","chore"] Wl
theorem Qo (_:vY Θ a)(_:vW Θ a):GZ Θ a:=by exact dm B 53 ["self","chore","tasks"]
abbrev zG:=mS 2 "grow" 15 ["self","chore","work","sign"] U5
theorem Qp (_:vY Θ a)(_:zF Θ a):zG Θ a:=by exact dm B 54 ["self","chore","work","sign","task","after"]
abbrev G0:=mS 2 "more" 16 ["self","chore","work"] Wi
theorem Qq (_:zG Θ a):G0 Θ a:=by exact dm B 55 ["self","chore","work"]
abbrev G1:=mS 2 "fewer" 16 ["self","chore","work"] VM
theorem Qr (_:zG Θ a):G1 Θ a:=by exact dm B 56 ["self","chore","work"]
abbrev zH:=mS 2 "move" 15 ["self","name","to_be_there"] U4
theorem Qs (_:vX Θ a)(_:zE Θ a):zH Θ a:=by exact dm B 57 ["self","name","to_be_there"]
abbrev G2:=mS 2 "away" 16 ["self","name"] Wn
theorem Qt (_:zH Θ a):G2 Θ a:=by exact dm B 58 ["self","name"]
abbrev G3:=mS 2 "back" 16 ["self","name"] Wm
theorem Qu (_:zH Θ a):G3 Θ a:=by exact dm B 59 ["self","name"]
abbrev G4:=dS "_law_do" 17 ["_law_house","_law_deed_here"] VX
theorem Qv (_:GX Θ a)(_:GY Θ a)(_:GZ Θ a)(_:G0 Θ a)(_:G1 Θ a)(_:G2 Θ a)(_:G3 Θ a):G4 Θ a:=by exact dd B 60 ["_law_house","_law_deed_here"]
abbrev G5:=dS "_law_noted" 1 ["_law_note","_law_deed_here"] We
theorem Qw :G5 Θ a:=by exact dd B 61 ["_law_note","_law_deed_here"]
abbrev G6:=dS "_law_below" 1 ["_law_one","_law_other"] Wh
theorem Qx :G6 Θ a:=by exact dd B 62 ["_law_one","_law_other"]
abbrev sP:=mS 2 "load" 2 ["self","name"] TF
theorem Qy (_:vX Θ a):sP Θ a:=by exact dm B 63 ["self","name"]
abbrev G7:=dS "is_below" 1 ["one","other"] XA
theorem Qz :G7 Θ a:=by exact dd B 64 ["one","other"]
abbrev G8:=mS 2 "hands" 1 ["self"] VL
theorem QC :G8 Θ a:=by exact dm B 65 ["self"]
abbrev zI:=mS 2 "shares" 2 ["self","chore"] Uu
theorem QD (_:vY Θ a):zI Θ a:=by exact dm B 66 ["self","chore"]
abbrev zJ:=mS 2 "chores" 1 ["self"] SZ
theorem QF :zJ Θ a:=by exact dm B 67 ["self"]
abbrev G9:=dS "chores_at" 3 ["house","names"] WQ
theorem QH (_:zI Θ a)(_:zJ Θ a):G9 Θ a:=by exact dd B 68 ["house","names"]
abbrev Ha:=dS "limit_of" 4 ["house","level"] Wd
theorem QJ (_:G7 Θ a)(_:sP Θ a)(_:G8 Θ a)(_:G9 Θ a):Ha Θ a:=by exact dd B 69 ["house","level","names"]
abbrev Hd:=dS "_law_holds" 3 ["_law_house","_law_note","_law_names_here","_law_chores"] Wg
theorem QK (_:zJ Θ a)(_:zI Θ a):Hd Θ a:=by exact dd B 70 ["_law_house","_law_note","_law_names_here","_law_chores","_law_due","_law_chore","_law_hand"]
abbrev He:=dS "_law_limit" 5 ["_law_house","_law_note","_law_level_here"] SN
theorem QL (_:G6 Θ a)(_:sP Θ a)(_:Ha Θ a)(_:Hd Θ a):He Θ a:=by exact dd B 71 ["_law_house","_law_note","_law_level_here","_law_names_here","_law_told","_law_total","_law_kept","_law_again"]
abbrev Hf:=dS "_law_divisor" 1 ["_law_one","_law_other"] Vm
theorem QM :Hf Θ a:=by exact dd B 72 ["_law_one","_law_other","_law_left","_law_right"]
abbrev Hg:=dS "_law_lowest" 2 ["_law_top","_law_bottom"] VJ
theorem QN (_:Hf Θ a):Hg Θ a:=by exact dd B 73 ["_law_top","_law_bottom","_law_by"]
abbrev Hh:=dS "_law_level" 3 ["_law_cell","_law_house","_law_note"] Wf
theorem QP (_:qG Θ a)(_:sP Θ a)(_:Hg Θ a):Hh Θ a:=by exact dd B 74 ["_law_cell","_law_house","_law_note","_law_number"]
theorem QR {f:Q5}{fd:R2}(_:Gi Θ a)(_:Gj Θ a)(_:Gk Θ a)(_:Gp Θ a)(_:G4 Θ a)(_:G5 Θ a)(_:He Θ a)(_:Hh Θ a)(_:sP Θ a)(F:Fun Θ.K "law" "law" (top 64) f fd):YL (Tt Θ a) 18 f fd ["_law_script"] e_law:=vS (N:=["_law_script","_law_words","_law_house","_law_note","_law_cell","_law_deed_here","_law_name"]) (k:=17) B.B F (by walk_at "sf") rfl sM (by walk_at "B")
end
noncomputable def hdOk (K:bw) (CP CR CH:Q5):Bool:=RZ.bltN.all (okB K)&&okC K CP ["many_gives","tie_ends","sent","spare","ties_at"]&&okC K CR ["present","dealt","works","doers"]&&okC K CH ["crew","tasks","rows","burdens","piece_rows"]&&okI K "LONGEST_NAME" 12&&okI K "MOST" 40
theorem all_mk {P:Rh}{w:RK}{K:bw}{h:Rs}{mg:Q7->Option Value}{fa CP CR CH aN:Q5}{odN:Option Q5}{t0 t1 nN:Nat}{slN:Array (Option Value)}(X:K.In h)(G:h.Ns Ri mg)(hfa:mg "law"=se (.ref fa))(neT:Ri≠502)(hcd:wZ K 504 502=tj)(uPour:kB K Ri "Pour"=se (se (.ref CP)))(uRoll:kB K Ri "Roll"=se (se (.ref CR)))(uHouse:kB K Ri "House"=se (se (.ref CH)))(kN:kB K Ri "NOTHING"=se (se (.ref aN)))(kNl:K.lookup aN=se #[.type "tuple",odN,.seq ([.int 0 t0,.int 1 t1].toArray) nN,slN])(ck:hdOk K CP CR CH=tj)(sl:FMC K CH "settle" "House.settle" (XN (top 46) 15) 504)(fc:Fcs K (gC K CP CR CH 502 λ_=>0).cl fcs): ∃(C:CT) (fd:R2),C.K=K/\(∀k,k<C.nl->∃q,[((502:Q5),lamS.qual)].lookup (C.tb k)=se q)/\(∀b q,[((502:Q5),lamS.qual)].lookup b=se q->∃k,k<C.nl/\C.tb k=b)/\(∀(s:Q4) (v:Value),BindsTo s fd #[[v],[]] [("_law_script",v)])/\∀base:Rs,K.In base->base.Ns Ri mg->(∀b q,[((502:Q5),lamS.qual)].lookup b=se q->base.BuiltinsAt mg b)->YL (Bg.T #[P,w,K,mg,base] NoER C) 18 fa fd ["_law_script"] e_law:=by unfold hdOk at ck;simp only[cI] at ck;obtain⟨⟨⟨⟨⟨c0,qCP⟩,qCR⟩,qCH⟩,iLONGEST_NAME⟩,iMOST⟩:=ck;have cCP:=zn qCP;have cCR:=zn qCR;have cCH:=zn qCH;obtain⟨fL,aL,ocL,odL,kVL,docL,pmL,anL,cdL,ctL,slL,lL,cL,kpL⟩:FT K "law" (top 64):=vT (n:=75) fc rfl;cases hfa.symm.trans (oq X G aL);refine#[(gC K CP CR CH 502 λ_=>0),im "law" "law" (Tq (top 64)) (SS (top 64)) (RF (top 64)) .none kVL docL pmL anL cdL ctL,rfl,λk hk=>?_,λb q e=>#[0,by show 0<1;decide,(one_tab e).symm],λs v=>.of_eq rfl,λbase XB GB hB=>?_];cases(show k=0 by have:k<1:=hk;lia);exact#[_,rfl];have B0:Bx (Tt #[P,w,K,mg,base] #[CP,CR,CH,502]):=#[λx hx=>Pg X G (iQ.mp c0 x hx),λc f hf=>match c,hf with| 0,hf=>cCP.2.2.2 f hf| 1,hf=>cCR.2.2.2 f hf| n+2,hf=>cCH.2.2.2 f hf,λ_ z=>z.elim,id];have Z:LamK mg base 504 502:=Pk XB hcd (hB 502 _ rfl) neT;have B:Bb #[P,w,K,mg,base] #[CP,CR,CH,502] fcs:=#[B0,#[h,X,G],fc,λc=>match c with| 0=>#[cCP.1,cCP.2.1,cCP.2.2.1]| 1=>#[cCR.1,cCR.2.1,cCR.2.2.1]| n+2=>#[cCH.1,cCH.2.1,cCH.2.2.1],Pl B0];have fD:iS "LONGEST_NAME" (.int 12) #[P,w,K,mg,base] #[CP,CR,CH,502]:=Gf X G iLONGEST_NAME;have nV:iS "MOST" (.int 40) #[P,w,K,mg,base] #[CP,CR,CH,502]:=Gf X G iMOST;have eU:iS "NOTHING" (.tup [.int 0,.int 1]) #[P,w,K,mg,base] #[CP,CR,CH,502]:=Pi X G XB kN kNl;have bC:=Pm B;have gf:=Pn B bC;have eQ:=Po B;have gz:=Pp B (oq X G uHouse);have cH:=Pq B;have hV:=Pr B;have dU:=Ps B bC;have iL:=Pu B cH bC hV dU;have hO:=Pw B bC cH iL dU;have jm:=Px B fD;have dR:=Py B jm;have h8:=Pz B (oq X G uRoll);have cf:=PA B;have d6:=PB B cf eU;have ie:=PC B (oq X G uPour);have bA:=PD B;have bO:=PE B;have bV:=PF B;have cY:=PG B;have dA:=PH B bV cY;have cQ:=PJ B bA bO dA;have d8:=PK B bV cY;have cJ:=PL B d8;have d7:=PN B bO cJ bV;have dD:=PO B;have cK:=PP B bA d7 dD;have hZ:=PQ B cQ bO cK;have g9:=PR B ie hZ;have iN:=PS B g9;have fQ:=PT B;have jf:=PU B;have fR:=PV B iN fQ jf;have kb:=PW B;have ic:=PX B fR kb;have iI:=PY B;have dB:=PZ B;have jh:=P5 B iI dB;have g8:=P6 B fR jh;have hW:=P7 B fQ;have fG:=P8 B ic g8 hW;have dI:=P9 B dB;have eR:=Qa B dI;have cx:=Qb B eR;have jo:=Qc B;have jp:=Qd B fG cx jo;have dh:=Qe B eU;have d5:=Qg B cf;have bU:=Qh B h8 d6 jp cx dh d5 eU Z sl;have cj:=Qi B bU;have gD:=Qj B dR cj nV;have bB:=Qk B;have cg:=Ql B bU;have gZ:=Qm B dR bB cg nV;have bq:=Qn B;have gH:=Qo B bq bU;have dE:=Qp B bq cg;have gK:=Qq B dE;have fH:=Qr B dE;have dF:=Qs B bB cj;have gG:=Qt B dF;have gj:=Qu B dF;have jg:=Qv B gD gZ gH gK fH gG gj;have gm:=Qw B;have gF:=Qx B;have bS:=Qy B bB;have iJ:=Qz B;have fI:=QC B;have cO:=QD B bq;have cR:=QF B;have ia:=QH B cO cR;have iK:=QJ B iJ bS fI ia;have gy:=QK B cR cO;have gu:=QL B gF bS iK gy;have eN:=QM B;have fE:=QN B eN;have gq:=QP B bC bS fE;exact QR B gf eQ gz hO jg gm gu gq bS (mH lL cL kpL)
end NAM
open PySem PySem.W PyProof.Rows
local macro_rules | `(tactic| walk_at "t")=>`(tactic| (refine' NAL.EX.ft_mk ?a ?l ?c ?k; (case a=>k_is); (case l=>k_is); (case c=>k_is); (case k=>k_is)))
local macro_rules | `(tactic| walk_at "m")=>`(tactic| (refine' NAL.EX.fm_mk ?a ?l ?c ?k ?i; (case a=>k_is); (case l=>k_is); (case c=>k_is); (case k=>k_is); (case i=>k_is)))
local macro_rules | `(tactic| walk_at "s")=>`(tactic| (refine' NAL.RZ.fmc_mk ?a ?l ?d ?k ?i; (case a=>k_is); (case l=>k_is); (case d=>k_is); (case k=>k_is); (case i=>k_is)))
namespace PySem.W.Fast
def tw12272676065707356148:=Nat
def tw11467012361658652411:=Nat
def tw14335916907531914490:=Nat
def tw9196315698831063229:=Nat
def tw9613230213093807263:=Nat
def tw3240829331777092473:=Nat
def tw4261763265694849110:=Nat
def tw12792458238615919357:=Nat
def tw12054191674752887839:=Nat
def tw7495725397234148509:=Nat
def tw12864466294037255994:=Nat
def tw1297431131977804599:=Nat
def tw17653569666741284638:=Nat
def tw3837106213954994277:=Nat
def tw17320351727917934303:=Nat
def tw14845171203295470674:=Nat
def tw13433768024000298706:=Nat
def tw8110499333921022006:=Nat
def tw9641417510922751765:=Nat
def tw1870098595439062453:=Nat
def tw15152543630002290321:=Nat
def tw12985616408988232373:=Nat
def tw5228328354347201406:=Nat
def tw2162119719337327881:=Nat
def tw7404818855783274594:=Nat
def tw9965691591191234086:=Nat
def tw9772232730692633801:=Nat
def tw1573928418484399467:=Nat
def tw1890580528417488313:=Nat
def tw14822706153268867781:=Nat
def tw16969338691798906395:=Nat
def tw10599474373368340422:=Nat
def tw10364863630973516973:=Nat
def tw8141720650213220980:=Nat
def tw16180768587580092076:=Nat
def tw9861716143546357259:=Nat
def tw12326621440551661406:=Nat
def tw3920785948961582547:=Nat
def tw4558998989297194328:=Nat
def tw14247700159642605284:=Nat
def tw17038835884884397080:=Nat
def tw10495027798907704294:=Nat
def tw14780112136421545588:=Nat
def tw9545389432285478650:=Nat
def tw9298578409336206592:=Nat
def tw10769624292980954865:=Nat
def tw313940212601695892:=Nat
def tw14475347833417587558:=Nat
def tw6361969969381056214:=Nat
def tw11515109291630768148:=Nat
def tw3285914381827233534:=Nat
def tw257266732858359285:=Nat
def tw1208591624031348504:=Nat
def tw6731178743669738981:=Nat
def tw11858980372790545551:=Nat
def tw296428674093772122:=Nat
def tw5152721536020837320:=Nat
def tw14079241013604329496:=Nat
def tw19928675726162034:=Nat
def tw16460563740516568934:=Nat
def tw16215420040279347787:=Nat
def tw15626984345974834851:=Nat
def tw5026234745830591247:=Nat
def tw14555791630351728630:=Nat
def tw11103707593121215496:=Nat
def tw3576866247127897230:=Nat
def tw2057379845637459582:=Nat
def tw12670086433292802258:=Nat
def tw12670481235193691516:=Nat
def tw6320414315504238805:=Nat
def tw8371117199210909382:=Nat
def tw5351761650739277708:=Nat
def tw17141414636571530639:=Nat
def tw5079274351653749217:=Nat
def tw18334981994934541013:=Nat
def tw2783577304783788904:=Nat
def tw3018909334315219736:=Nat
def tw547639523227812261:=Nat
def tw2290267370170605090:=Nat
def tw6085292818370043452:=Nat
def tw442204115600136966:=Nat
def tw16333999524938390587:=Nat
def tw6134104108038176453:=Nat
def tw14279821175667191656:=Nat
def tw4391346934613259801:=Nat
def tw5889306239895273707:=Nat
def tw1444343282758416516:=Nat
def tw10183981067813113992:=Nat
def tw8775606264797990832:=Nat
def tw4551486190713780289:=Nat
def tw14393875814581547696:=Nat
def tw1132532817047837066:=Nat
def tw11935518494665654738:=Nat
def tw15123746195513053143:=Nat
def tw5802739652349041572:=Nat
def tw7099346579479356871:=Nat
def tw11316087875763581988:=Nat
def tw10617304482992903688:=Nat
def tw9916072414811447433:=Nat
def tw17472699229514065528:=Nat
def tw8809501838853733574:=Nat
def tw17315495948962606648:=Nat
def tw7739071059647417580:=Nat
def tw1157660453215172686:=Nat
def tw231667712125882404:=Nat
def tw17037885874873528701:=Nat
def tw16812750763126040303:=Nat
def tw926494724165706612:=Nat
def tw15585722947072004343:=Nat
def tw10061862926041969591:=Nat
def tw15096043446821491441:=Nat
def tw6908658252899005760:=Nat
def tw3221296487766633023:=Nat
def tw8102420194229525492:=Nat
def tw15734375303813163218:=Nat
def tw6194471786119542798:=Nat
def tw3858180413431092350:=Nat
def tw10322653814182267734:=Nat
def tw2138928358793595611:=Nat
def tw10032365731064511124:=Nat
def tw5803421320705362163:=Nat
def tw9337624025136759299:=Nat
def tw12132391330919720193:=Nat
def tw14053564021436954524:=Nat
def tw1576706303243671372:=Nat
def tw12820418693485809049:=Nat
def tw327294429433392000:=Nat
def tw17469509922299600085:=Nat
def tw10845627042286785866:=Nat
def tw11672510249184847316:=Nat
def tw16445898546645237802:=Nat
def tw1576702113857223739:=Nat
def tw3260885835409948297:=Nat
def tw837042176039579124:=Nat
def tw14215319902566998726:=Nat
def tw17650235135127957380:=Nat
def tw10789474423918174327:=Nat
def tw14203435261690574995:=Nat
def tw6822331864693428242:=Nat
def tw4111244825476189595:=Nat
def tw17032825390236513117:=Nat
def tw6358761186357149275:=Nat
def tw9907242136366951665:=Nat
def tw12034847483552157275:=Nat
def tw17158230037873128900:=Nat
def tw1630351046051986654:=Nat
def tw4412643566731583418:=Nat
def tw2241256364191200253:=Nat
def tw7476033970607385448:=Nat
def tw7676849694095657099:=Nat
def tw8591582204672678498:=Nat
def tw5869429429762206532:=Nat
def tw980217539751578892:=Nat
def tw16216910711086093057:=Nat
def tw3980226740176508774:=Nat
def tw5769901042926197367:=Nat
def tw18394720548584751954:=Nat
def tw10356602209993140545:=Nat
def tw914245917951422869:=Nat
def tw9294046833568602358:=Nat
def tw3530732187113279014:=Nat
def tw2687005701544744737:=Nat
def tw2470575993304919985:=Nat
def tw6327794365205513138:=Nat
def tw14002107148292084985:=Nat
def tw15906338744575625351:=Nat
def tw7347212512454266941:=Nat
def tw17400876409703454695:=Nat
def tw8012017672088841983:=Nat
def tw15131475479879798200:=Nat
def tw1014629146495984569:=Nat
def tw6913306979562478242:=Nat
def tw17967306509495156914:=Nat
def tw5888299694739451263:=Nat
def tw11284941324899421861:=Nat
def tw10654637933561677693:=Nat
def tw14438796305093826459:=Nat
def tw17603926532542836510:=Nat
def tw2937870730903675654:=Nat
def tw11299725813988626865:=Nat
def tw8747568302053889638:=Nat
def tw4146974475551397295:=Nat
def tw4310779146503221089:=Nat
def tw2959913313846183131:=Nat
def tw14355495948472651688:=Nat
def tw12037596062230705556:=Nat
def tw1751147314381473119:=Nat
def tw473275218365381723:=Nat
def tw5043888274784970232:=Nat
def tw14086776205687156087:=Nat
def tw12738965438314686436:=Nat
def tw5390194246837133920:=Nat
def tw6150163675431151663:=Nat
def tw11672183465912789535:=Nat
def tw12491765398175639945:=Nat
def tw15239239548856127770:=Nat
def tw18131081423006809747:=Nat
def tw15319654362247945890:=Nat
def tw10154099778850681250:=Nat
def tw4952054954364806488:=Nat
def tw15984623172711765063:=Nat
def tw12898609618686715618:=Nat
def tw982560134816587750:=Nat
def tw13856159143860957211:=Nat
def tw870900919836455845:=Nat
def tw11243179435608545522:=Nat
def tw3453349439728894557:=Nat
def tw11911669419888090001:=Nat
def tw2287779659247319397:=Nat
def tw10358109451701627649:=Nat
def tw8018076943601736931:=Nat
def tw17642574296985449424:=Nat
def tw14171128845575602298:=Nat
def tw18248519240577488855:=Nat
def tw15903049278269916614:=Nat
def tw7872530913374031671:=Nat
def tw7161286139282663994:=Nat
def tw5115825064404230117:=Nat
def tw4746069995098303985:=Nat
def tw13661117196561406461:=Nat
def tw15715858677642722853:=Nat
def tw8115415600648550228:=Nat
def tw13352011078981614901:=Nat
def tw5870153108709963752:=Nat
def tw10658006878326176711:=Nat
def tw16009184205773185582:=Nat
def tw12093442566295979766:=Nat
def tw6530343150558435041:=Nat
def tw14531642042610315796:=Nat
def tw526068869012252483:=Nat
def tw5841962220954391331:=Nat
def tw6242966235921696229:=Nat
def tw9668169681201843813:=Nat
def tw1113459388495248386:=Nat
def tw5798344439575789640:=Nat
def tw17545026526184936850:=Nat
def tw1194022672018684394:=Nat
def tw7087807289460567892:=Nat
def tw9703494393605534684:=Nat
def tw12470596171272487512:=Nat
def tw14111720420941588742:=Nat
def tw4575626969213892180:=Nat
def tw5103797019445417264:=Nat
def tw14801372718543776123:=Nat
def tw8445688712246210494:=Nat
def tw12498569291209668267:=Nat
def tw3753759318831351024:=Nat
def tw14486267636103755639:=Nat
def tw267388915408980090:=Nat
def tw11604775228866598625:=Nat
def tw8621805921106761728:=Nat
def tw9993453140259481212:=Nat
def tw17960006888237948454:=Nat
def tw7699774961208733443:=Nat
def tw18027466503290154902:=Nat
def tw16485341249110715333:=Nat
def tw11488859224737539486:=Nat
def tw6322246792496643927:=Nat
def tw5156868984831661897:=Nat
def tw17161983811688614867:=Nat
def tw6466963560744035756:=Nat
def tw2966308457391178361:=Nat
def tw4719328534277537853:=Nat
def tw12788778881055614501:=Nat
def tw8476181330789030559:=Nat
def tw8305898025279831533:=Nat
def tw9481957586103073065:=Nat
def tw17248853261717247316:=Nat
def tw4674599031351988444:=Nat
def tw14903611682961294844:=Nat
def tw2844219776525087581:=Nat
def tw18315260585330004220:=Nat
def tw5703099628645920035:=Nat
def tw12512436339391267897:=Nat
def tw7802034589155411380:=Nat
def tw7282583352598337851:=Nat
def tw9221666599685909005:=Nat
def tw17862833344545706159:=Nat
def tw2337929642830999236:=Nat
def tw15409755878287886354:=Nat
def tw1397750219265750710:=Nat
def tw1059054468385787304:=Nat
def tw16914373574716884630:=Nat
def tw635690702035891718:=Nat
def tw11110421287122611654:=Nat
def tw9286122641200885602:=Nat
def tw23347125760527594:=Nat
def tw8899381874086196310:=Nat
def tw4908321710624049508:=Nat
def tw9302128088439489483:=Nat
def tw67307740179744917:=Nat
def tw16327347897031161663:=Nat
def tw6452934174805422302:=Nat
def tw16576114325963249872:=Nat
def tw18111815967199779673:=Nat
def tw8063346282013568083:=Nat
def tw14519546985679559140:=Nat
def tw10348864324441184982:=Nat
def tw1261983429664649728:=Nat
def tw8274609772236270880:=Nat
def tw590165155939642953:=Nat
def tw5925634457772375587:=Nat
def tw16226403666107935505:=Nat
def tw8660380453267862867:=Nat
def tw7428688201009115008:=Nat
def tw16659809283609033422:=Nat
def tw3976744247921249406:=Nat
def tw4131646568587257042:=Nat
def tw18291398745415268744:=Nat
def tw908080120251668330:=Nat
def tw12588149890596991445:=Nat
def tw11137356948072095664:=Nat
def tw17272057878458470632:=Nat
def tw4118121526412188432:=Nat
def tw773041296620855053:=Nat
def tw338345208622805839:=Nat
def tw1782581474013190101:=Nat
def tw18168475680320397331:=Nat
def tw3326924422083053200:=Nat
def tw7734451436929835814:=Nat
def tw15290698447560007401:=Nat
def tw111218139914955920:=Nat
def tw2843935205861625225:=Nat
def tw10562720365273191827:=Nat
def tw15029972228459785293:=Nat
def tw16007149437212420525:=Nat
def tw4380865261556313351:=Nat
def tw16131896591524758380:=Nat
def tw5782823060561079687:=Nat
def tw12543074983457272487:=Nat
def tw737159020149872927:=Nat
def tw16217990087985084575:=Nat
def tw3130514329938001273:=Nat
def tw3670454579456135159:=Nat
def tw16472365909528831463:=Nat
def tw8272944560074569645:=Nat
def tw5384352514434402281:=Nat
def tw6258645909092187250:=Nat
def tw17499482234553231182:=Nat
def tw6155683803010942674:=Nat
def tw12203747391653503275:=Nat
def tw3364832647317933418:=Nat
def tw14629757946844652588:=Nat
def tw16689510548098192800:=Nat
def tw16803399144945779055:=Nat
def tw6999288743356417012:=Nat
def tw15017487533539845920:=Nat
def tw1211700589774390759:=Nat
def tw12820680416324293542:=Nat
def tw12661803224201679676:=Nat
def tw12784897904010882499:=Nat
def tw11428941669739317056:=Nat
def tw14285332525166174652:=Nat
def tw17181439449552478453:=Nat
def tw17780163659269428878:=Nat
def tw15519734774166236419:=Nat
def tw1466194510263415975:=Nat
def tw11338276646471725082:=Nat
def tw10992106131706326368:=Nat
def tw13807374181529196311:=Nat
def tw17382645076617417759:=Nat
def tw9173018256097087998:=Nat
def tw15788915303590025485:=Nat
def tw16344083795182140726:=Nat
def tw17865399919617731960:=Nat
def tw5038659186569409253:=Nat
def tw9765531193948780283:=Nat
def tw6072374507874562337:=Nat
def tw6699020675881277198:=Nat
def tw8386679766259486860:=Nat
def tw17706006829682146583:=Nat
def tw7599866464064231250:=Nat
def tw7155327885798350760:=Nat
def tw1788831300369977526:=Nat
def tw1884429063399425505:=Nat
def tw5393597084632149094:=Nat
def tw587870505271944550:=Nat
def tw6154939929124993271:=Nat
def tw14492096023543398881:=Nat
def tw3070997132555867002:=Nat
def tw10693021441138852920:=Nat
def tw9606294572513950874:=Nat
def tw6957039694878163178:=Nat
def tw7794314129787967196:=Nat
def tw11697338072520511730:=Nat
def tw6414254797620514982:=Nat
def tw10824746544370885247:=Nat
def tw10792865770664527534:=Nat
def tw11955800469674479649:=Nat
def tw14060307812958470080:=Nat
def tw7242204341189531433:=Nat
def tw621476575966995545:=Nat
def tw8062027034643262625:=Nat
def tw11333883416023583130:=Nat
def tw16662323360737528878:=Nat
def tw16895991334275490024:=Nat
def tw14574085124180238660:=Nat
def tw1383408808788690729:=Nat
def tw15609029658174072830:=Nat
def tw6299022432705557082:=Nat
def tw8764105336973047274:=Nat
def tw293958309069379905:=Nat
def tw364846943298669308:=Nat
def tw6567899568676429197:=Nat
def tw758046552820863921:=Nat
def tw17917587013544725163:=Nat
def tw240211863598329547:=Nat
def tw2613963349845724764:=Nat
def tw17154320623377882052:=Nat
def tw8695665797730380584:=Nat
def tw2332578880264763498:=Nat
def tw130084098164022258:=Nat
def tw3992488958827564059:=Nat
def tw2455691811604197878:=Nat
def tw8448864532178793650:=Nat
def tw2605269396615964844:=Nat
def tw13986582756570533851:=Nat
def tw16042315147904979216:=Nat
def tw8127763530980971881:=Nat
def tw17475807412945422726:=Nat
def tw11737212252245003174:=Nat
def tw16054549138156247312:=Nat
def tw8731762513686607467:=Nat
def tw7780628755429702608:=Nat
def tw9757706292812439233:=Nat
def tw12103833190908118157:=Nat
def tw6858883609276762180:=Nat
def tw13510059071594065590:=Nat
def tw274044917707507591:=Nat
def tw394349087561437472:=Nat
def tw16922924941142564593:=Nat
def tw9646310321151567495:=Nat
def tw10822778668277688639:=Nat
def tw3750620841445383732:=Nat
def tw14035964026669897884:=Nat
def tw16779390244286187980:=Nat
def tw12341098771472214177:=Nat
def tw8058829064880905601:=Nat
def tw12041532923138517224:=Nat
def tw1963166884160300352:=Nat
def tw1215484913600952456:=Nat
def tw16322117471414737657:=Nat
def tw3400634892954185685:=Nat
def tw15683142864552230647:=Nat
def tw5601258258275397561:=Nat
def tw14662925379377496413:=Nat
def tw12413292257351022532:=Nat
def tw5287336723986458759:=Nat
def tw10431209053355642978:=Nat
def tw11850876283444702034:=Nat
def tw5462856308484892998:=Nat
def tw16036011526924760262:=Nat
def tw14232245916600955910:=Nat
def tw1769780456207956510:=Nat
def tw14754450027844141003:=Nat
def tw16506012955991208934:=Nat
def tw672632645491048439:=Nat
def tw11113141080731932249:=Nat
def tw6229372019294110248:=Nat
def tw10480020940433553399:=Nat
def tw5323852486309194989:=Nat
def tw14895904121166634107:=Nat
def tw2931210418229558102:=Nat
def tw11265178602290367963:=Nat
def tw12644775438974784286:=Nat
def tw13986948729373565535:=Nat
def tw14766851901565121211:=Nat
def tw11219334426169249044:=Nat
def tw13554587365545841470:=Nat
def tw14919265325437952521:=Nat
def tw5350622040321205677:=Nat
def tw13121011141544453124:=Nat
def tw1960437243744007115:=Nat
def tw4725984376777088097:=Nat
def tw5126796901069889788:=Nat
def tw196801553079631936:=Nat
def tw14154049224251760792:=Nat
def tw18323427963566637161:=Nat
def tw15674066074072120164:=Nat
def tw14261489268961857540:=Nat
def tw13909598851512075401:=Nat
def tw12824489588824695017:=Nat
def tw14446446495632936135:=Nat
def tw12389717038459000312:=Nat
def tw14985314429241628582:=Nat
def tw15214565140963492110:=Nat
def tw13065761982057905306:=Nat
def tw7910203383884549218:=Nat
def tw7251023972390677566:=Nat
def tw14739019173834318470:=Nat
def tw2796419311918630372:=Nat
def tw18424206061407055762:=Nat
def tw13021939354557206463:=Nat
def tw11775685422477758372:=Nat
def tw5433666236270318117:=Nat
def tw5360842898995200950:=Nat
def tw14440768128498607464:=Nat
def tw1483339028669739238:=Nat
def tw11112894931380341594:=Nat
def tw325399679396648766:=Nat
def tw4830378906814654866:=Nat
def tw7572575069159664013:=Nat
def tw9116936065352388892:=Nat
def tw2694017865019290131:=Nat
def tw18193504381732117531:=Nat
def tw6966951924845457309:=Nat
def tw9824752727497741160:=Nat
def tw736615768479788298:=Nat
def tw12759420673067883085:=Nat
def tw1430872744783769553:=Nat
def tw11401444474085021558:=Nat
def tw8987930581124420971:=Nat
def tw13837600865553071521:=Nat
def tw15433648724594216755:=Nat
def tw12547810099643971494:=Nat
def tw7180619158221815907:=Nat
def tw4302936787062999663:=Nat
def tw3943314686699503664:=Nat
def tw3209730953083033414:=Nat
def tw17258700570820683184:=Nat
def tw5446053108950249175:=Nat
def tw1525276306760979386:=Nat
def tw2344910586403555162:=Nat
def tw14453587037079555502:=Nat
def tw1335212755104839499:=Nat
def tw17011476468162187437:=Nat
def tw14086609774798111476:=Nat
def tw3823131263427130423:=Nat
def tw4741939676667628270:=Nat
def tw9036921524563997883:=Nat
def tw3213271762048405577:=Nat
def tw14472297332657559351:=Nat
def tw15758637367101603005:=Nat
def tw1587807238195738727:=Nat
def tw12497414273704278341:=Nat
def tw7189335083257521692:=Nat
def tw17457719453386193990:=Nat
def tw12698809793058127090:=Nat
def tw6024460806561504719:=Nat
def tw5936033272986673704:=Nat
def tw4453371968517304668:=Nat
def tw10540984939656244510:=Nat
def tw974766608261193330:=Nat
def tw10781600672541484285:=Nat
def tw11956160565439135032:=Nat
def tw12357015697896755064:=Nat
def tw4267926337234315023:=Nat
def tw17058977913759000222:=Nat
def tw16532808390650803651:=Nat
def tw2742323236346852415:=Nat
def tw2920523344608716057:=Nat
def tw4132148288524388722:=Nat
def tw14674170700897858939:=Nat
def tw16630848108952926037:=Nat
def tw15096738544147529199:=Nat
def tw12663012543694728740:=Nat
def tw16505652983879798596:=Nat
def tw12312880765478288413:=Nat
def tw9065931787738320551:=Nat
def tw9884930157988227500:=Nat
def tw349529135878580847:=Nat
def tw7734957080297245957:=Nat
def tw11165532661261517519:=Nat
def tw6789506024589740537:=Nat
def tw18153740476549416097:=Nat
def tw13326008458054200392:=Nat
def tw12207081571176262339:=Nat
def tw12886478480491093795:=Nat
def tw915711355651758920:=Nat
def tw7729626676811348607:=Nat
def tw4852972953516095739:=Nat
def tw18330646454845226929:=Nat
def tw478889504079324411:=Nat
def tw8365419589167565824:=Nat
def tw6327775967593686236:=Nat
def tw3547073546123147949:=Nat
def tw17908441255960661604:=Nat
def tw13815655826546038209:=Nat
def tw11956418193516367055:=Nat
def tw4177403431068309959:=Nat
def tw7902129454430460101:=Nat
def tw8158320996731166681:=Nat
def tw12190719737739556302:=Nat
def tw16936988204894408589:=Nat
def tw9593011076820656679:=Nat
def tw18305024292401761909:=Nat
def tw7909711873481556417:=Nat
def tw10081844196833164607:=Nat
def tw16537954262732421247:=Nat
def tw5251274456797243666:=Nat
def tw1775114810966211838:=Nat
def tw8341804222171758840:=Nat
def tw4112058381203764422:=Nat
def tw15210291978164420198:=Nat
def tw6009367096969804344:=Nat
def tw7007016566144133690:=Nat
def tw3569481095641882296:=Nat
def tw17406449766679960153:=Nat
def tw16915252201949743083:=Nat
def tw1458026149231625532:=Nat
def tw11151827991960228919:=Nat
def tw7952691438562673212:=Nat
def tw16705837631929700678:=Nat
def tw178374801254425032:=Nat
def tw8389808214599929330:=Nat
def tw3584719057454043499:=Nat
def tw16856148227379257707:=Nat
def tw9421264890076802799:=Nat
def tw7011939574023709282:=Nat
def tw17126539926262024216:=Nat
def tw14680038255751045491:=Nat
def tw12114031152190258383:=Nat
def tw303657327880690299:=Nat
def tw15089348468104197401:=Nat
end PySem.W.Fast
set_option maxHeartbeats 0 in
theorem PySem.Challenge.cw_evenyoke_k61_whole_limits_holds : PySem.Challenge.rw_evenyoke_k61_whole_limits.Holds := by
 w_on; o_law; k_head; (case hw=>w_witness2)
 k_fill
 refine NAL.RZ.walk_ofR (l:=PySem.Challenge.rw_evenyoke_k61_whole_limits) (n:=63) (k:=18) (x:="_law_script") (ev:=NAM.e_law) (ts:=[(502,NAM.lamS.qual)]) (R:=NAL.RZ.NoER) (fun h=>h) rfl (by decide) rfl ⟨rfl,by decide,by decide⟩ (fun w h Y=>PySem.W.km_in_of Y) (fun w h Y b q e=>?T) (fun w b q e=>?C) (fun w=>?kt) ?F ?S
 case T=>exact PySem.W.km_tabs_of Y b (by have:=NAL.RZ.one_tab e; subst this; decide)
 case C=>have:=NAL.RZ.one_tab e; subst this; exact⟨504,by kernel_rfl⟩
 case kt=>kernel_rfl
 case S=>exact fun ns h=>⟨_,NAY.law_ok h⟩
 case F =>
  intro w mg fa h KX G hmg
  refine' NAM.all_mk KX G hmg (by decide) ?hcd ?uPour ?uRoll ?uHouse ?kN ?kNl ?ck ?sl ?fc
  (case uPour=>k_is)
  (case uRoll=>k_is)
  (case uHouse=>k_is)
  (case hcd=>kernel_rfl)
  (case kN=>k_is)
  (case kNl=>k_is)
  (case sl=>walk_at "s")
  (case fc=>(repeat (refine⟨?hh,?_⟩; (case hh=>first | walk_at "t" | (dsimp only [NAM.gC]; walk_at "m")))); exact True.intro)
  (case ck=>kernel_rfl)
