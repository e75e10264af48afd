import PyProof.Rows.All
import Wide.All
import OpenK.AllK
import Wide.FinOn
import Lean
import PyProof.EqAt
import PyProof.EqKinds
import PyProof.TupleCall
import KE.KRevIter
import PyProof.AutoListH
import KE.KDictOf
import PyProof.AttrMissHeap
import PyProof.ListRange
import PyProof.Rows.SortWalk
import KE.KNestM
import KE.KLam
import PyProof.MinMaxWalk
import PyProof.Rows.CallKwBuiltin
import PyProof.Rows.SetFrom
import PyProof.CollectWalk
import PyProof.SetRoads
import KE.KEqDict
import PyProof.DictUpdate
import KE.KItemsList
import KE.KDictList
import PyProof.StrWalks
import PySem.Challenge.RW_evenyoke_k62_why_a_hand_bears
def wT:Lean.NameMap String:=("μ=List To;θ=List D;ξ=rV 0;ο=rV 1;ζ=se o;ϧ=s.heap.get? b;Ϛ=List Value;'#'=Tp c;ϐ=List α;'0'=H'.get? b;VK=.ref s.heap.objs.size;ψ=.ref a;Ϩ=ds.zip us;ς=rV 2;'*'=Tp c';Ϟ=List T4;Hc=Option Value;Lf=bL rfl;ό=rV 3;HT=ts.lookup b;Ϯ=.str x;'+'=Tu c;Pe=aa.map .int;lS=.inl rfl;H1=.ref C;Ϙ=g.G a;ff=s.heap.get? c;K3=Array Value;ω=se x;ϊ=se r;MV=s.heap.get? a;JW=aG.map TQ;Ϝ=g.G b;XK=Option Int;JG=Option Bool;ύ=rV 4;'C'=ks.zip us;rv=se .loc;L6=ns.map .str;'N'=l.map g;XL=se .local;Fr=.ref f;II=.ref it;ϕ=se p;Jc=List NAP.Cr;PM=aU.mp hd;ϻ=.bl tj;'/'=UH l;ϯ=VI fh;QK=ss.map .int;'8'=H.get? b;Lh=h'.get? c;Kq=j.tl.tl.gbl q;J4=UG ws;ta=RX.R D;IV=sc.names.lookup x;ϛ=se c;ϱ=bN _;Tm=List γ;Qd=.nx ρ;SK=ws.map .int;ϩ=se d;ϝ=rN 0;R5=Option D;KV=l.map .str;Ϡ=se q;NQ=UJ x.cps.toList;'h'=g.less fp;IZ=K.In s.heap;ϡ=rV 5;P9=X.env.cells.lookup x;RL=X.env.cells.lookup y;H2=Y.no _;'>'=l.map f;'S'=l.zip R;L5=List Bool;MX=Option To;RM=se .cell;'k'=s₁.heap.get? b;QU=bi.mp hd;ϥ=nh h;SY=.bl fh;'%'=Tu t;Lz=H'.get? a;OH=Gs.upd_ne n;Ot=Y.comp S.nd;Qs=Option xaj;Ϫ=se y;ϫ=se s;Ϭ=Cl h;'9'=X.B.C.nm c;Yr=se ρ1;Sf=se (.own i);Nk=Ta rfl;wr=T8 st;MG=.str ch;Nv=List ϐ;BT=se tj;PS=Builtin.Tuple.tupleExact _;Lw=.lst l;NL=X.env.scope.names.lookup x;Qa=X.env.scope.names.lookup y;Nm=.lst JW;Lx=.lst (xs.map .str);ϴ=Ug x;'6'=I.ok.mod.glob.keeps I.bk;ND=se (.dat o);Qw=env.cells.lookup x;Ki=K.lookup f;Ku=g'.G b;Rh=T.B.C.cl c;Ml=ps.zip us;Ϸ=se a;ϸ=rV 6;'a'=Tu l;Rg=List Env;LI=List TV;Ty=se fh;Oj=env.kindOf x;PA=.int k;IC=.int x;Jj=b.fdiv g;'O'=U0 aa;':'=L.zip bP;'_'=p.zip qs;Rt=.mr ns;Zj=.slo o;NT=j.tl.tl.gint q;lT=de _;MM=d8 ϱ;Ry=A.map .str;'v'=T.B.C.lm k;'e'=N.ends.zip ad;PG=False.elim hq;J0=se .free;OA=ad.map .int;Pp=List V;tx=se l;Me=.seq vs.toArray;La=se Vf;'?'=Tu c';'Q'=aQ.mp e;Nj=cO.mp z;NO=.nx ρ2;Sw=Option α;Mz=h'.get? b;'J'=g.back g';Rf=Option Nat;'@'=h.get? a;KL=.fields vs;Cx=S9 c;Ng=.bool tj;SS=XO s'.gens;Nh=bU.mp hk;'d'=l.filter p;QR=Heap.lt_size e;'R'=K w.params;'H'=H.get? a;LM=List Tn;bj=se ds;'f'=l.map D.int;'F'=D.flow.load_le he;Ss=rC .non;Lb=ai.map .int;JI=ds'.zip us';Jp=.ref c;Pk=.int n;K8=.int l.length;Id=hn h;M1=Vb ο;Pc=g'.G a;Kl=.inr rfl;Pu=h.get? c;IH=.ref h.objs.size;'-'=Ta c;Ke=U4 st;Lu=Ym tj;Kr=TM.ml (A.map D.str);QX=List β;Md=se Ϯ;PH=se (se (Fr));'D'=aT aG.length;IF=K.In h;Qg=.ref l;JE=.int i;Lq=.int m;JZ=.int y;I3=.ml (acc.map .str);Lr=.ml (C.map .str);J3=.str nm;TA=xA h;TE=xB h;'3'=aT ag;JS=aM hc;Jw=.rt v;MU=bv eh;'b'=aT E;Kb=pl h;LH=UO p;SW=se b;SX=se ϩ;'U'=aQ.mp hi;Sg=S9 z;'V'=eW.mp nd;'y'=cg hx;LN=Ta z;Nn=ns.map .int;LJ=.int 1;Nq=Vr st;K6=cl.lookup x;MF=dA.mp hx;'2'=dr x;RF=wk c;'^'=bB.mp hx;Pj=d.fdiv g;LY=ZI p;Mm=.lst SK;NJ=.lst (ed.map ZO);OK=.str k;J8=Vb ό;SA=TN (rC (SY));Rv=Ym fh;MR=ak.map .int;fP=cW e;Ox=l'.map .str;'E'=X.B.C.lm k1;LP=L.map crC;'i'=r.zip s;'g'=ks.zip vs;MT=se u;RW=s.heap.get? l;R7=aM hx;Qt=.bl b;IP=.mx 4;'L'=Tu aw;'o'=I.hk.hid I.nf;JU=.inr k;Q8=se k;OJ=pyNext II;Mv=pyIter II;Og=UJ h;MH=.str y;Pm=NAG.gl13 h2;QM=eU rfl;SJ=NAG.gl6 h12;Qo=.pin o;JK=X.B.C.cl c;'G'=X.B.C.lm k;LR=X.B.C.xc c;Kg=List Qs;PV=se ng;'c'=aT ah.length;Jv=aT ws.length;'n'=aQ.mp e1;'r'=aQ.mp hx;Sj=pure fh;JD=P.zip vs;Rk=bH hq;'s'=dh.mp hq;SB=l.map nD;'t'=bB.mp hy;Nl=b.fdiv j;OD=.nx ρ';QH=.ml QK;NW=.lst (gs.map .int);QP=.lst (ts.map .int);KD=.lst (aj.map ZO);KR=NAP.UE h1;KT=R.take i;'!'=B.C.lm k;Ll=X.B.C.K.In s.heap;MY=Option β;OB=K.In base;M4=.int 0;Ou=.int w;Qb=w.path dB;KM=ah.map Zm;RV=F.args_tuple_iterator_next_1 _;QD=dH.mpr hl;O9=p.idxOf x;IG=tk.take i;'P'=d.cr c;MK=Builtin.SmallTypes.nextOf II;Mc=xss i;OU=UP aG;Km=xae x;KA=s.subset hq;Rs=base.get? b;Lj=.seq us.toArray;Qp=Heap.lt_size ho;Mx=cE this;Ja=.nx ρ1;Ji=xal xbf;'&'=N.awi x;'.'=seen ks;RC=Option θ;Mo=se ob;'4'=aQ.mp h1;'Z'=aQ.mp hj;'7'=aQ.mp hq;'<'=aQ.mp eh;LW=.ref e;SD=pure Ml;Qn=.int e;QC=aM z1;K9=a.fdiv j;PW=d.fdiv e;NB=aU.mp hx;PK=aU.mp this;Nc=.lst Pe;M9=.lst L6;OF=.lst QK;Jd=big xs;Pf=wB (f i);SL=Fl.nx ρ;SZ=bs.map .bl;sV=TQ way;OC=row.take i;sZ=way.map nD;Rb=H'.get? it;K4=X.env.kindOf x;K7=X.env.scope.names.lookup n;'A'=Yn.mp hc;Mi=Option Xu;K1=NAP.unr aa;'1'=xs.take i;MB=es.map nD;N8=ks.take i;'I'=r.zip row;'K'=s.map (vl M0);Oh=p.idxOf y;Sn=il.push _;JA=R.sat.i q;Q4=Lean.MacroM Lean.Syntax;M5=se (.own h.length);L8=se (.dat oc);Ye=env.kindOf n;'l'=aQ.mp h;SE=.ref c2;LS=ns.map D.str;Ka=.int ag;N4=acc.lookup x;PT=bi.mp h;'B'=bi.mp z;LA=Heap.DictOf.new s.heap;Qm=aU.mp h;K0=cF.mp z;Of=.tup ds;Rx=D.int v;LO=Vb ξ;OO=bv N.n0;JB=bP.map (ssD emb);Ls=UH '_';O3=ks.map V.str;Od=NAG.gl32 this;Qe=xbK.trans zJ;ME=I.cne e;Qu=gr.le.held W;΢=rC (.int $0);η=aH $0 rfl $1;ν=aI $0 rfl;te=SeqAt $0 s.heap $1 $2;MO=g.hid $0 X.env.locals;Nu=Calls.spliced_cons (Uy $0 $1);ϑ=Tz prog $0;ϒ=se (.int $0);CC=UR gs.length $0 $1;ϔ=se (.lst $0);TG=V1 items.size $0 $1;Yf=NAH.V1 ds.length $0 $1;σ=TK ο $0;Ϧ=UA $0 X.env;χ=.ok $0 h';KU=.Attribute $0 $1 ay;ϋ=aK rfl $0;CX=ha.h $0 q.bnd;TO=se (.builtin $0);ώ=zaX rfl $0;ϲ=YF $0 scope $1 $2;Ϗ=bn rfl $0 $1;OP=Heap.SameBut $0 s.heap $1;υ=Ts $0 (Ts $1 $2);Mw=Xl $0 $1 s.heap.objs.size $2 $3;ϓ=se (.ml $0);ϵ=TX $0 X.env;L2=av.getD $0 ng;ϭ=h.set i $0;Sr=.ListComp $0 $1 scope $2;π=TD $0 (rN $1);ϖ=TL $0 $1 ξ $2;ϗ=sF rfl $0;Jq=bh ah.length $0;tv=NAP.WE J4 $0;PP=bR $0 16777216;ϙ=Ub $0 $1 ξ;Se=takesIn ws $0 $1;My=ac.getD $0 0;Jt=s.heap.IsList $0 us.toArray;Rn=aG.getD i $0;Mg=ws.getD $0 0;Ϲ=rC (.str $0);ϟ=se (.mi $0 $1);Os=.Call $0 $1 $2 pos;gV=se (.pin $0);Ϣ=aI rfl $0;QJ=cG (Heap.lt_size $0);Pl=UI gs.length $0;ϣ=sR $0 Lf;Ϥ=.ok $0 h1;mt=R.bnd $0 _;Re=I.hk.st $0 $1 (.inl $2);τ=TJ (TP $0 $1 $2);Pg=Calls.callWith_builtin $0 (gu $1 $2);tA=.Name y $0;MI=Ue X.B.P $0;Zh=Tz X.B.P $0;IM=NAP.Lv aa $0;MS=NAP.nr aa $0;N3=D.int (.ofNat $0);Kk=RX.R.bnd $0 _;Na=.Call $0 $1 $2 ax;Qk=s.heap.push (so $0);ϳ=.ok $0 h2;Kz=t.map (Vj $0 $1);MZ=base.BuiltinsAt mg $0;Gl=Bd 4096 $0;PU=YT ae.length $0 $1 $2;Ms=trunc h.length $0 $1;Sc=.BoolOp $0 $1 pos;Oq=absurd rfl $0;Q9=Kept $0 aJ.length $1 $2;PY=pure (ForInStep.yield $0);϶=Tg ο $0;N6=R.sat.unb (q.bnd.mono $0);KZ=.int (.ofNat $0);Sy=h.set $0 (.ml $1);RY=Walks.list $0 s.heap.objs.size $1 $2 $3;P5=RX.R.ok $0 (hp $1 $2);TS=se (.ref $0);QL=T7 $0 $1 $2 us.length;Kf=.ok .non $0;lP=Tg ξ $0;Kw=I.hk.th $0 $1 $2 $3 e0;Ϻ=.md $0 (Vt $1 $2);QY=.Name x $0;qo=TK ξ $0;Oz=.Name $0 p2;Jr=ns.getD $0 0;PB=bs.getD $0 fh;Ko=load N.ends $0 $1;Kd=placeOf ah $0;M2=.bl (decide $0);NM=NAP.load $0 $1 e;Q7=I.hk.al $0 _ $1;ut=upTo $0 n;PX=Uv (aG.take $0) $1;MW=RX.R.ok $0 h;LX=bF (Ne.symm $0);IA=upTo $0 ag;PF=strKind prog $0;JL=Builtin.Slice.slicePlaces $0 $1 1;Hb=TP (VD fh) $0 $1;KK=TK ό $0;Ql=h.push (UV $0 $1);Jk=h'.DictOf $0 s.heap.objs.size $1;L7=.lst (l.map $0);Rc=NAP.pot N.bG $0;Oi=Own $0 pins $1;KQ=ad.getD k $0;IQ=l.getD $0 0;Jg=NAP.upTo $0 n;ZK=fz $0 h.length $1;Si=trunc $0 .non $1;Mu=R.map (ssD $0);Sm=Y.room.mono (nK $0);TT=zas $0 H1 $1;KW=absurd $0 (US.mp $1);Zk=Tg ς $0;N7=.Subscript $0 $1 pos;P6=se (.type $0);P8=Ti (wpAny_rule $0);O1=I.hk.st $0 $1 (.inr $2);LK=ah.getD $0 0;NE=bI $0 h.length;KY=g.trunc H $0;J6=A.under (.builtin $0 $1);Pa=typeLookup (.type $0) $1;OQ=TP (V0 fh) $0 $1;OG=NAP.Shp aG.length $0 $1;Sa=Calls.spliced_cons (Tw $0);NK=R.ok (D.bl $0) $1;KN=s.heap.IsCell c $0;OV=cellsFrom $0 scope.names $1;JF=.ok (.ret $0);NR=TK ς $0;LV=aM (bU.mpr $0);IE=.ok Qd $0;O7=Builtin.SmallTypes.nextOf (.ref $0)".splitOn ";").foldl (fun m l=>let p:=l.splitOn "=";m.insert (.mkSimple p.head!) (p.getD 1 "")) {}
def wA (P:Array Lean.Term) (w:String):Lean.Term:=if w.front=='$' then P.getD (w.drop 1).toNat! ⟨.missing⟩ else if w=="_" then ⟨Lean.mkHole .missing⟩ else if w.front=='.' then ⟨.node .none ``Lean.Parser.Term.dotIdent #[.atom .none ".",Lean.mkIdent (w.drop 1).toString.toName]⟩ else if w.front=='\'' then ⟨Lean.Syntax.mkCharLit (w.toList.getD 1 ' ')⟩ else if w.front.isDigit then ⟨Lean.Syntax.mkNumLit w⟩ else ⟨Lean.mkIdent w.toName⟩
def wR (P:Array Lean.Term):Nat→List Char→String→Array Lean.Term→Lean.Term×List Char
 |n+1,c::l,w,a=>let a:=if w==""||!(c==' '||c=='('||c==')') then a else a.push (wA P w);if c=='(' then let (x,l):=wR P n l "" #[];wR P n l "" (a.push x) else if c==')' then (⟨Lean.Syntax.mkApp a[0]! a[1:]⟩,l) else wR P n l (if c==' ' then "" else w.push c) a
 |_,l,_,_=>(⟨.missing⟩,l)
def wD (i:Lean.Name) (x:Array Lean.Term):Lean.MacroM Lean.Syntax:=match wT.find? i with
 |some s=>if s.contains '$'!=(0<x.size) then Lean.Macro.throwUnsupported else pure (wR x 999 (s.toList++[')']) "" #[]).1
 |none=>Lean.Macro.throwUnsupported
local macro_rules (kind:=ident)|`($i:ident)=>wD i.getId #[]
local macro_rules|`([$i:ident,$x,*])=>wD i.getId x
def wC (c:Lean.CharLit):=Lean.Name.mkSimple s!"'{c.getChar}'"
local macro_rules (kind:=char)|`($c:char)=>wD (wC c) #[]
local macro_rules|`([$c:char,$x,*])=>wD (wC c) x
set_option hygiene false
local macro_rules
 | `(ε)=>`(by simp_all)
local macro_rules
 | `('|')=>`(jN.map _)
local macro_rules
 | `([ϰ,$a])=>`(Va '#' $a)
local macro_rules
 | `([JH,$a])=>`(! decide $a)
local macro_rules
 | `([IT,$a,$b])=>`(decide ($a∉$b))
 | `([LQ,$a])=>`(Va '*' $a)
 | `([MC,$a])=>`(U6 '#' $a)
local macro_rules | `(tactic| lia)=>`(tactic| first | assumption | exact Nat.le_refl _ | exact Nat.zero_le _ | exact Nat.le_of_lt (by assumption) | exact Nat.succ_le_of_lt (by assumption) | exact Nat.lt_of_not_le (by assumption) | exact Nat.le_of_not_lt (by assumption) | exact Nat.ne_of_lt (by assumption) | exact Nat.ne_of_gt (by assumption) | exact Nat.le_of_lt_succ (by assumption) | exact Nat.lt_succ_of_le (by assumption) | exact Nat.lt_succ_of_lt (by assumption) | exact Nat.le_of_eq (by assumption) | exact Nat.le_of_eq (Eq.symm (by assumption)) | exact Int.le_of_lt (by assumption) | exact Int.not_lt.mp (by assumption) | (simp (maxSteps:=500) only [*,true_and,and_true,and_self,Nat.le_refl,Nat.zero_le,not_false_eq_true];done) | lia (verbose:=false))
set_option hygiene false
local macro_rules | `(#[$a,*])=>`(⟨$a,*⟩)
open PyProof.Rows renaming assignInOrder_cons→Ux,envOfC→Xl,assignInOrder_nil→XN,AllBare→XO,tail_any→X3
open PySem renaming wpAny_bind→Ti,Shared→Tj,Addr→Tn,Str→To,wpAny_pure→Tq,wpAny→Tv,wpAny_Call_Name_kw→Tw,model→Tz,mainGlobals→TB,Around→TC,Program→TF,Heap→TU,Expr→TV,starEach→TX,sliceBounds→T7,bootBuiltins→T9,World→Ud,FuncData→Uk,wpAny_pyIter_list→Uo,wpAny_newObj_type→Uq,wpAny_field→Uz,eval→UA,wpAny_truthy_bool→UC,wpAny_mono→UF,Obj→UK,wpAny_holding→UN,wpAny_setField_rec→UQ,Stmt→UW,wpAny_passesOwn→UX,letOwnedTupleGo→UY,codeAny_mono→U5,wpAny_callSpecial?_slot→U7,sizeLine_eq→Vc,wpAny_execs_nil→Vi,codeAny_builtin→Vk,wpAny_seqItems→Vu,sysModules→Vv,call_meets→Vy,wpAny_call_entry→Vz,getattributeRaised→VO,swapsWith→VU,Pos→VX,wpAny_pyNext_list_item→V6,wpAny_Call_method_late→V7,codeAny→Wh,wpAny_pyNext_list_end→Wl,wpAny_call→Wp,stored→Wq,slicePick→Wr,codeAny_call_builtin→WJ,Scope→WU,call_meetsIn→W8,wpAny_newFunctionEnv_cells→Xd,compEnvC→Xt,NameKind→Xu,wpAny_getItem_list_slice→XR,rawInt→XS,wpAny_execs_cons→X2,getAttr?→X6,codeAmong→Yb
open Bool renaming true→tj,false→fh
open Option renaming some→se,none→ng
open Array renaming mem_toList_iff→AK
open Bool renaming and_eq_true→cC,eq_false_iff→fJ,eq_iff_iff→gb,not_eq_true'→kR,and_eq_true_iff→mV,eq_false_or_eq_true→rF,false_xor→mW,false_ne_true→rG,or_eq_true→rH,false_eq_true→wV,and_true→wW,or_false→wX,true_xor→wY,not_eq_true→AL,and_false→AM
open Eq renaming trans→uN
open Int renaming le_of_lt→cE,mul_le_mul_of_nonneg_right→kS,ne_of_gt→dF,le_refl→de,eq_of_mul_eq_mul_right→lW,gcd→bQ,eq_ofNat_of_zero_le→kT,mul_fdiv_cancel_left→mX,lt_or_le→g9,le_trans→hK,mul_comm→hO,mul_lt_mul_of_pos_right→qz,mul_nonneg→jq,mul_assoc→i6,dvd_refl→i7,mul_right_comm→mY,emod_lt_of_pos→mZ,emod_nonneg→kU,natAbs_mul→kW,natAbs_dvd_natAbs→qB,mul_le_mul_of_nonneg_left→uO,lt_of_mul_lt_mul_right→uP,lt_of_lt_of_le→qC,zero_mul→lX,mul_pos→kX,zero_add→m9,le_of_eq→ni,gcd_comm→nj,le_of_mul_le_mul_right→wZ,add_zero→oO,dvd_trans→qD,toNat_natCast→uQ,mul_left_comm→uR,add_mul→oP,eq_of_mul_eq_mul_left→AN,toNat→uS,mul_add→rI,ediv_mul_cancel→AO,natCast_nonneg→AP,lt_of_le_of_lt→AQ,ofNat→rJ,natAbs_add_le→AS,neg_mul_neg→AT,ediv_nonneg→AU,one_mul→w4,fdiv_nonneg→AV,sub→rK,lt_irrefl→AW,add→uT
open List renaming getElem?_eq_some_iff→aQ,mem_of_getElem?→aM,getElem?_eq_getElem→aV,mem_cons_self→aR,mem_cons_of_mem→a7,getD_eq_getElem?_getD→bO,getElem?_zip_eq_some→bU,mem_map→aU,getElem?_set_ne→bF,getElem?_of_mem→bH,getElem?_map→bo,range→aT,replicate→bh,length_map→bq,mem_filter→bB,mem_cons→bi,map_congr_left→cH,map_cons→bz,mem_append_left→df,of_mem_zip→cg,mem_singleton→cO,mem_append_right→dG,take_of_length_le→d8,idxOf_lt_length_of_mem→gF,sum_cons→cq,getElem?_set_self→fD,getElem?_append_right→hU,map_map→cD,mem_append→dh,length_filter_le→fK,length_append→eE,map_append→dz,getElem?_eq_none→gf,append_assoc→eF,mem_range→dA,length_pos_iff→fM,getElem?_append_left→iN,nodup_cons→eW,length_set→eX,length_cons→fO,size_toArray→hV,rec→bY,any_eq_true→gU,not_mem_nil→gW,zip_cons_cons→i8,all_eq_true→iO,filter_sublist→jN,contains_iff_mem→kY,length_take→jr,lookup_cons→jt,getElem?_replicate→nq,getElem?_range→kZ,mem_flatMap→jO,ext_getElem?→jY,filter_cons→jZ,getElem_mem→ka,length_eq_zero_iff→oQ,length_range→k6,nodup_append→k7,getElem?_dropLast→oR,sum_append→kb,getLast?_eq_getElem?→qE,length_replicate→oS,append_nil→k8,filter_append→nu,getElem?_zipIdx→oT,take_length→lY,range_succ_eq_map→qF,replicate_succ→oU,pairwise_iff_getElem→rL,set_append_right→qG,length_zip→lZ,getElem?_take_of_lt→rM,getD→hW,getElem?_set→oV,range'→kc,range_succ→nz,zip_append→nH,exists_cons_of_ne_nil→uU,cons_append→oW,set_cons_succ→qH,set_set→k9,length_zipIdx→qI,drop_eq_getElem_cons→uV,filterMap_cons→rO,getElem?_cons_succ→uW,filter_cons_of_neg→uX,filter_cons_of_pos→uY,mem_filterMap→rQ,foldl_cons→qJ,getElem?_concat_length→w5,zip_map_left→rR,getElem?_eq_none_iff→w6,take_succ→qK,mem_map_of_mem→uZ,map_nil→oX,eq_of_mem_replicate→w7,set_cons_zero→u0,getElem?_drop→u4,pairwise_cons→u5,getElem_idxOf→u6,filter_map→rS,length_pos_of_mem→w8,length_eq_one_iff→w9,any_eq_false→u7,length_singleton→xb,getElem?_zipWith→xf,map_set→qL,pairwise_flatMap→xg,countP_cons→u8,nodup_range→u9,map_snd_zip→va,map_fst_zip→vb,nodup_iff_count→xh,getElem?_append→xj,range_eq_range'→xk,dropLast_concat→xo,dropLast_concat_getLast→AX,filter_eq_self→xq,reverse_append→xr,flatMap_append→xt,filterMap_map→xu,getElem?_take→xw,count_flatMap→xy,count_pos_iff→xz,sum_nil→rU,mem_or_eq_of_mem_set→AY,mem_of_find?_eq_some→AZ,take_append_getElem→A0,foldl_append→xC,filter_congr→xD,idxOf_lt_length_iff→A4,sublist_append_left→A5,length→rW,range'_succ→xE,ext_getElem→xF,pairwise_lt_range→A6,drop_eq_nil_of_le→A7,count_cons→xG,map_id'→vc,getElem?_reverse→A8,getLast?_concat→A9,length_take_le'→Ba,toList_toArray→Bc,perm_iff_count→Be,any_cons→xH,find?_eq_none→Bf,filter_filter→Bh,zip_nil_right→Bi,flatMap_cons→Bj,pairwise_map→Bk,take_sublist→Bl,take_add_one→Bm,any_map→xI,length_drop→Bo,count_range→Bp,take_append→Bq,forIn_cons→Br,filter_nil→Bs,take_left'→Bt,any_append→Bu,map_const'→Bv,map_id→xJ,find?_some→Bw,find?_cons→By,nil_append→BB,forIn_nil→BC,filterMap→BD,all_cons→BE,set_comm→BF,map_take→BG,map_drop→BH
open List.Pairwise renaming imp_of_mem→BI
open Nat renaming le_refl→bN,le_trans→cf,ne_of_lt→cG,lt_succ_of_lt→fE,blt_eq→cF,lt_of_lt_of_le→hZ,blt→bI,ne_of_gt→eG,ble→bR,ble_eq→dH,le_of_lt→fF,beq→bW,lt_succ_self→i9,beq_refl→gG,lt_of_le_of_lt→ke,le_add_right→jP,eq_of_beq_eq_true→nJ,le_of_ble_eq_true→nK,pow_le_pow_right→oY,zero_le→ja,not_lt_zero→l6,le_mul_of_pos_right→rX,lt_trichotomy→oZ,le_succ_of_le→o4,eq_zero_or_pos→qM,le_of_not_lt→qN,le_succ→l7,lt_succ_of_le→rY,succ→jb,lt_irrefl→o5,le_of_lt_succ→rZ,mul_le_mul_right→vd,zero_add→r4,lt_of_le_of_ne→xK,sub_self→r5,rec→kf,add_sub_cancel_left→BJ,le_of_eq→ve,lt_trans→vf,add_right_comm→BK,add_left_comm→BL,lt_of_succ_lt→BM,add_comm→xL,min_eq_right→BN,one_mul→xM,add_mul→xO,min_eq_left→BO,not_lt→xP,le_of_dvd→BP,gcd→vg
open Nat.succ renaming inj→lh
open Option renaming map_eq_some_iff→kg,isSome_iff_exists→vh,map_some→r6,getD_none→BQ,getD_some→BR
open Option.some renaming inj→dU
open Or renaming inr→r8
open PyProof.Rows renaming slot_tuple_getitem→xQ,lt_int→BS
open PySem renaming callWith_type→ju,mem_of_lookup→nM,evalArgs_none→BU
open PySem.F renaming plainAttrs_list→r9,plainAttrs_dict→si,excBase_ValueError→BV,slot_dict_update→BW,slot_str_getitem→BX,slot_dict_items→BY,slot_dict_keys→BZ,slot_dict_get→B6,slot_dict_pop→B7
open PySem.SeqAt renaming shaped→B8
open PySem.W renaming Frag→a9,findIn→zas,keepIn→iG,fnOf→iH,kia_one→kh,codeIn→ly,nsIn→jQ,mroIn→l8,kitOne→nO,emptyDict→qO,mg_of→nQ,Looks→nR,makesIn→qP,clsIn→o6,looks_findIn→vk,plainGet→sj,looks_mroIn→vm,isFn→o7,cellsFrom_some→xR,hasDictIn→vo,instObj→vq,plainGet_of→xT,of_hideAll→xU,lookIn→vr,tabObj→vv,plainOver→xV,kitx_list→xW,excIn→vw,codeHdIn→xX,takerIn→xY,hideAll→xZ,hideAll_none→B9,typeIn→x6,callWith_of→Cd,hideAll_get→Ce,codeHd_of_K→Cf,specialIn→Cg,kitx_none→Ch,handedIn→Ci,kdl_call→Cj,takesIn→Ck,kla_obj→Cm,noTabs→Cn
open PySem.W.KF renaming slot_gs→Co
abbrev xaE:=Int×Int
abbrev xat:=List Nat
abbrev xam:=List Int
abbrev xak:=List (Nat×Nat)
abbrev xaj:=List (Int×Int)
abbrev xag:=List (List Nat)
abbrev xab:=List (List (Int×Int))
theorem S9.{u} {c:Prop}{h:Decidable c}(k:¬c){α:Sort u}{t e:α}:ite c t e=e:=if_neg k
theorem Ta.{u} {c:Prop}{h:Decidable c}(k:c){α:Sort u}{t e:α}:ite c t e=t:=if_pos k
theorem Tc {p:Prop}[h:Decidable p](k:p):decide p=true:=decide_eq_true k
theorem Td {p:Prop}[h:Decidable p](k:decide p=true):p:=of_decide_eq_true k
theorem Tf {p:Prop}[h:Decidable p](k:¬p):decide p=false:=decide_eq_false k
set_option compiler.extract_closed false
set_option linter.all false
set_option Elab.async false
noncomputable section
namespace NAG
section
variable {a b c d e:Nat}{i j k l m n:Int}
theorem gl0(h1:a<b)(h2:b<=a):False:=by lia
theorem gl1(h1:b<a):a≠b:=by lia
theorem gl2(h1:a<=d)(h2:c+1<=b+1):a+(b+2-(c+1))+1<d+(b+2-c)+1:=by lia
theorem gl3(h1:a<=b)(h2:¬(a<b)):a=b:=by lia
theorem gl4(h1:a<=900):a<16777216:=by lia
theorem gl5(h1:a+1*(b+3)<=d):a+(b+2-c)+1<d+(b+2-(c+1))+1:=Nat.succ_lt_succ (hZ (hZ (Nat.add_lt_add_left (ke (Nat.sub_le _ _) (i9 _)) a) (by rw[xM] at h1;exact h1)) (jP _ _))
theorem gl6(h1:a<=12):a<=20:=by lia
theorem gl7(h1:a<=30):a<=64:=by lia
theorem gl9(h1:a<=b)(h2:b<=c)(h3:c<=900):a<1000:=by lia
theorem gl10(h1:a<=900):a<=1000:=by lia
theorem gl11(h1:a<c/\0<i)(h2:b=d)(h3:c<=d):a<b:=by lia
theorem gl12(h1:a<=900):a<1000:=by lia
theorem gl13(h1:a<b+(c+1)):a<b+1+c:=by lia
theorem gl14(h1:b<a):a-b=a-(b+1)+1:=by lia
theorem gl15(h1:a<=20):a<=1000:=by lia
theorem gl17(h1:a<=20):min a b<1000:=by lia
theorem gl18(h1:a<=20):a<0+1000:=by lia
theorem gl23(h1:0<=i)(h2:¬(0<i)):i=0:=by lia
theorem gl24(h1:0<j)(h2:i<j):Int.toNat i<uS j:=by lia
theorem gl25(h1:a=b)(h2:b<=30):a<1000:=by lia
theorem gl26(h1:a<=b)(h2:b<=20):a<=900:=by lia
theorem gl27(h1:0<a)(h2:0<b)(h3:b+a=c):2*a-1+(2*b-1)<2*c-1:=by lia
theorem gl28(h1:0<a):(a:Int)≠0:=by lia
theorem gl29(h1:0<=i):i=(Int.toNat i:Int):=by lia
theorem gl30(h1:a<b):a<=b-1:=by lia
theorem gl31(h1:a<=40):a<=1000:=by lia
theorem gl32(h1:a<=40):a<1000:=by lia
theorem gl33(h1:a<=12):a<1000:=by lia
theorem gl34(h1:a<b)(h2:a<c):min a b=min a c:=by lia
theorem gl35:Int.toNat ((a:Int)+1-1+-1*((b:Int)+1))=uS ((a:Int)-1+-1*(b:Int)):=by lia
theorem gl36(h1:0<a):max 0 (min 1 (a:Int))=1:=by lia
theorem gl37(h1:a<c)(h2:b=d)(h3:c<=d):a<b:=by lia
theorem gl38(h1:a<=16777216):(a:Int)<9223372036854775808:=by lia
theorem gl39(h1:a<=4):a<1000:=by lia
theorem gl40(h1:i<=k)(h2:j<=l):i+j<=k+l:=by lia
theorem gl41(h1:0<=j)(h2:i<=k):i<=j+k:=by lia
theorem gl43(h1:a<b+1)(h2:¬(b=a)):a<b:=by lia
theorem gl44:i+(j-k)+l=i+l+(j-k):=by lia
theorem gl47(h1:a<=b)(h2:b<=4):a<1000:=by lia
theorem gl50:(i*j+k*l)*m*n=i*n*j*m+k*n*l*m:=by lia
theorem gl51(h1:a<b+c)(h2:¬(a<b)):a-b<c:=by lia
theorem gl52:(a+1+1)/2=a/2+1:=by lia
theorem gl56(h1:a<c)(h2:c<=b):a<b:=by lia
theorem gl59(h1:a<=20):a<1000:=by lia
theorem gl60:0<=(a:Int)+1:=by lia
theorem gl61(h1:0<=i)(h2:i<=0):i=0:=by lia
theorem gl62(h1:i=(a+1:Int)):1<=i:=by lia
theorem gl63(h1:a<=1000):a<16777216:=by lia
theorem gl64(h1:0<=i):1<=1+i:=by lia
theorem gl65(h1:k+i<=l+j)(h2:l<=k):i<=j:=by lia
theorem gl66(h1:i<=k)(h2:k<=j):i<=j:=by lia
theorem gl67(h1:a<b+1)(h2:¬(a=b)):a<b:=by lia
theorem gl68(h1:a<=9):a<1000:=by lia
theorem gl69(h1:b<=40):min a (min b c)<=1000:=by lia
theorem gl70(h1:0<i)(h2:i<=j)(h3:j<=0):False:=by lia
theorem gl71(h1:b<a):¬(a+1=b+1):=by lia
theorem gl72(h1:b<a):¬(a<b):=by lia
theorem gl73(h1:b+c=e):a+(b+(c+d))=a+(e+d):=by lia
theorem gl74(h1:0<=j):i<=i+j:=by lia
theorem gl75:a-1-b-1=a-b-2:=by lia
theorem gl76(h1:a<b)(h2:c=b)(h3:c<=a):False:=by lia
theorem gl77(h1:b<a):¬(a-1<b):=by lia
theorem gl78(h1:b<a)(h2:¬(a=b+1)):¬(a-1=b):=by lia
theorem gl79(h1:b<a):¬(a+1<b):=by lia
theorem gl82:¬(a+b<a):=by lia
theorem gl87(h1:(a:Int)=(b:Int)):a=b:=by lia
theorem gl91(h1:a<b):a<b+c:=by lia
theorem gl94(h1:0<=j):i-j<=i:=by lia
theorem gl97(h1:0<j)(h2:j<=i):0<i:=by lia
theorem gl98(h1:(a:Int)<=j)(h2:j<(a+1:Int))(h3:j=i):i=(a:Int):=by lia
theorem gl99(h1:i=(a:Int)+1):0<=i:=by lia
theorem gl100(h1:0<i)(h2:j+i<=k)(h3:k<=l)(h4:l<=j):False:=by lia
theorem gl101(h1:a=b)(h2:b<=900):a<1000:=by lia
theorem gl102(h1:i%6=(a:Int)):a<6:=by lia
theorem gl103(h1:i%26=(a:Int)):a<26:=by lia
theorem gl104(h1:a<d/\d<=b/\b<c):a≠b/\a<c/\b<c:=by lia
theorem gl105(h1:a<c)(h2:c<=b):a≠b:=by lia
theorem gl106(h1:a<=b)(h2:b<c)(h3:c=d)(h4:d<=900):a<=900:=by lia
theorem gl107(h1:a<c)(h2:b=c+1):a<b:=by lia
theorem gl108(h1:a<=4):a<16777216:=by lia
theorem gl109(h1:4<a)(h2:b<2):a≠b:=by lia
theorem gl110(h1:a<2):3≠a:=by lia
theorem gl111(h1:a<2):4≠a:=by lia
theorem gl112(h1:b<a):1<=a-b:=by lia
theorem gl113(h1:0<a):a-1<a:=by lia
theorem gl114:a+3+b-a=3+b:=by lia
theorem gl115(h1:a<=b)(h2:b<=900):a<1000:=by lia
theorem gl116(h1:0<=i)(h2:0<=j)(h3:¬(0<i))(h4:¬(0<j)):i=j:=by lia
theorem gl120(h1:k<l)(h2:l<=k):i<=j:=by lia
end
end NAG
set_option maxRecDepth 100000
namespace NAL
open PySem PySem.Spec PyProof.Rows
abbrev T4:=Sum Int To
noncomputable def xa0:T4->Value->Bool| .inl k,v=>Value.isInt k v| .inr x,v=>Value.isStrOf x v
noncomputable def keyH (w:Ud):T4->Int| .inl k=>hashInt k| .inr x=>hashStr w x
theorem lB:∀{k:T4} {v:Value},xa0 k v=tj->(∃i t,k=Sum.inl i/\v=Value.int i t)\/(∃x t,k=Sum.inr x/\v=Value.str x t)| .inl i,v,h=>by obtain⟨t,e⟩:=Value.isInt_shape (k:=i) (v:=v) h;exact .inl #[i,t,rfl,e]| .inr x,v,h=>by obtain⟨t,e⟩:=Value.isStrOf_shape (x:=x) (v:=v) h;exact .inr #[x,t,rfl,e]
theorem zaN (i:Int)(t:Tok):xa0 (.inl i) (.int i t)=tj:=by simp[xa0,Value.isInt]
theorem IB (x:To)(t:Tok):xa0 (.inr x) (.str x t)=tj:=by simp[xa0,Value.isStrOf]
theorem zaU (a b:Int):decide ((Sum.inl a:T4)=Sum.inl b)=(a==b):=by by_cases e:a=b;subst e;simp;have h:¬(Sum.inl a:T4)=Sum.inl b:=λq=>e (Sum.inl.inj q);rw[Tf h];exact(beq_eq_false_iff_ne.mpr e).symm
theorem ID (a b:To):decide ((Sum.inr a:T4)=Sum.inr b)=decide (a=b):=by by_cases e:a=b;subst e;simp;have h:¬(Sum.inr a:T4)=Sum.inr b:=λq=>e (Sum.inr.inj q);rw[Tf h,Tf e]
theorem zcu (a:Int)(b:To):decide ((Sum.inl a:T4)=Sum.inr b)=fh:=Tf (λq=>nomatch q)
theorem zbU (a:To)(b:Int):decide ((Sum.inr a:T4)=Sum.inl b)=fh:=Tf (λq=>nomatch q)
noncomputable def Ue (prog:TF) (w:Ud):PySem.KeyKind prog w T4 where
 is:=xa0
 hash:=keyH w
 inj:=λv a b ha hb=>by
  rcases lB ha with ⟨i,t,rfl,rfl⟩ | ⟨x,t,rfl,rfl⟩
  .rcases lB hb with ⟨j,u,rfl,e⟩ | ⟨y,u,rfl,e⟩
   .injection e with e1 _;rw[e1]
   .exact nomatch e
  .rcases lB hb with ⟨j,u,rfl,e⟩ | ⟨y,u,rfl,e⟩
   .exact nomatch e
   .injection e with e1 _;rw[e1]
 byValue:=λk v h=>by rcases lB h with ⟨i,t,rfl,rfl⟩ | ⟨x,t,rfl,rfl⟩<;>rfl
 pyHash:=λhv h=>by
  rcases lB hv with ⟨i,t,rfl,rfl⟩ | ⟨x,t,rfl,rfl⟩
  .exact wpAny_pyHash_int h
  .exact wpAny_pyHash_str h
 eqBool:=λhu hv h=>by
  rcases lB hu with ⟨i,t,rfl,rfl⟩ | ⟨x,t,rfl,rfl⟩
  .rcases lB hv with ⟨j,u,rfl,rfl⟩ | ⟨y,u,rfl,rfl⟩
   .rw[zaU] at h;exact wpAny_eqBool_int h
   .rw[zcu] at h;exact SeqAt.EqAt.int_str i t y u _ _ _ _ h
  .rcases lB hv with ⟨j,u,rfl,rfl⟩ | ⟨y,u,rfl,rfl⟩
   .rw[zbU] at h;exact SeqAt.EqAt.str_int x t j u _ _ _ _ h
   .rw[ID] at h;exact wpAny_eqBool_str h
 «strs»:=λk x t v h=>by
  rcases lB h with ⟨i,u,rfl,e⟩ | ⟨y,u,rfl,e⟩
  .exact nomatch e
  .injection e with e1 _
   subst e1;cases v<;>rfl
theorem zek (prog:TF)(w:Ud)(i:Int)(t:Tok):(Ue prog w).is (.inl i) (.int i t)=tj:=zaN i t
theorem zeM (prog:TF)(w:Ud)(x:To)(t:Tok):(Ue prog w).is (.inr x) (.str x t)=tj:=IB x t
inductive V where
 | non | bl (b:Bool) | int (i:Int) | str (x:To) | byt (b:Array UInt8) | flt (b:UInt64) | ref (a:Tn) | ty (n:String)
 deriving DecidableEq
inductive HO where
 /-- a list -/
 | lst (xs:Pp)
 /-- a tuple (never changes) -/
 | tup (xs:Pp)
 /-- a dict whose keys are ints and texts;one whose keys are tuples of ints and texts (the empty one is both) -/
 | dK (d7:List (T4×V)) | dT (d7:List (Ϟ×V))
 /-- a set of ints: cJ members,cJ size -/
 | set (S:Int->Bool) (n:Nat)
 /-- an instance of the class at C,cJ dict at dx,cJ attributes -/
 | ins (C dx:Tn) (fs:List (To×V))
 /-- the dict of the instance at x -/
 | own (x:Tn)
 /-- the dict of an exception -/
 | xd (fs:List (To×V))
 /-- a bound method,f of x -/
 | met (f x:Tn)
 /-- a range object lo,lo+1,.. below hi -/
 | rng (lo hi:Int)
 /-- a thing that is known to the object (the script;a dict while a loop walks it): read,never written while it is so -/
 | frz (o:UK) (u:HO)
 /-- a code object's table -/
 | tbl (ps:K3)
 /-- any other thing,by what is tj of cJ one object (a def of one's own: SetO a S n:=HO.ext λh=>..) -/
 | ext (φ:TU->Prop)
abbrev Hp:=Tn->Option HO
noncomputable def upd (H:Hp) (a:Tn) (o:HO):Hp:=λb=>if b=a then ζ else H b
section
end
section
end
section
end
section
end
noncomputable def allNews (g h:TU) (L:Tn):List (Tn×UK):=(aT h.objs.size).filterMap λa=>if a=L\/(g.get? a).isSome=tj then ng else '@'.map λo=>(a,o)
noncomputable def rest (g h:TU) (L d:Tn):List (Tn×UK):=(allNews g h L).filter λp=>decide (p.1≠d)
structure Mod (K:a9)(mg:To->Hc)(base:TU):Prop where
 kin:OB
 glob:base.Ns TB mg
 blt:∃mb,base.Ns builtinsNs mb/\∀x:To,x≠"__name__"->mb x=T9 x
 nolimit:base.NoLimit
def Vis (sc:WU)(x:To):Prop:=IV=XL\/IV=RM\/IV=J0
def Loc (sc:WU)(x:To):Prop:=IV=XL\/IV=RM
def Look (env:Env)(h:TU)(m:To->Hc)(x:To)(u:Value):Prop :=(Oj=XL/\m x=MT)\/((Oj=RM\/Oj=J0)/\∃c,Qw=ϛ/\h.IsCell c MT)
section
theorem xaz {N:μ}(hN:N.Nodup){i j:Nat}{x:To}(a:N[i]?=ω)(b:N[j]?=ω):i=j:=by obtain⟨h1,e1⟩:=aQ.mp a;obtain⟨h2,e2⟩:=aQ.mp b;exact(List.getElem_inj hN).mp (e1.trans e2.symm)
end
theorem Uy {α:Type}{t:Sem α}{Q Q':α->Tj->Prop}{M:Model}{A:TC}{E:Value->Tj->Prop}{s:Tj}(h:Tv M A t Q E s)(hQ:∀a s,Q a s->Q' a s):Tv M A t Q' E s:=UF h hQ λ_ _ x=>x
section
end
section
end
section
end
section
end
section
end
section
end
theorem zaA {M:Model}{A:TC}{E:Value->Tj->Prop}{s:Tj}{tg:TV}{it:Tn}{u:Value}{o:UK}{n:String}{vs:K3}{Q:Unit->Tj->Prop}(ho:s.heap.get? it=ζ)(hc:o.cls=.type n)(hd:o.data=KL) (hn:["enumerate","zip","dict_itemiterator","dict_reverseitemiterator","odict_iterator","itertools.zip_longest","itertools.pairwise"].contains n=fh) (hQ:Q () s):Tv M A (UY tg II u) Q E s:=by unfold UY;cases tg<;>first|exact Tq hQ|((cases u<;>first|exact Tq hQ|(refine Ti (wpAny_load ho ?_);rw[hc,hd];show Tv M A (if(["enumerate","zip","dict_itemiterator","dict_reverseitemiterator","odict_iterator","itertools.zip_longest","itertools.pairwise"].contains n&&vs[0]?==se (XS _))=tj then _ else _) Q E s;rw[S9 (by intro h;rw[hn,Bool.false_and] at h;cases h)];exact Tq hQ)))
section
noncomputable def Yh (fp:LM) (h:TU):List (Tn×UK):=fp.filterMap λb=>(h.get? b).map λo=>(b,o)
theorem Cp {fp:LM}{h:TU}{b:Tn}{o:UK}(hb:b∈fp)(e:h.get? b=ζ):(b,o)∈Yh fp h:=rQ.mpr #[b,hb,by rw[e];rfl]
theorem Cq {fp:LM}{h:TU}{p:Tn×UK}(hp:p∈Yh fp h):p.1∈fp/\h.get? p.1=se p.2:=by obtain⟨b,hb,e⟩:=rQ.mp hp;cases q:h.get? b with| none=>rw[q] at e;cases e| some o =>rw[q] at e;have e':(b,o)=p:=dU e;subst e';exact#[hb,q]
end
section
end
section
theorem vy:(sizeLine:Nat)<2^63:=by rw[Vc];decide
end
structure xaX (h:TU)(x dx C:Tn)(mA:To->Hc):Prop where
 obj:h.get? x=se (vq C dx)
 ns:h.Ns1 dx mA
 ne:dx≠x
theorem IJ {h:TU}{dx:Tn}{mA:To->Hc}(n:h.Ns1 dx mA):∃od,h.get? dx=se od/\∀name,vr name od=se (mA name):=by obtain⟨o,es,ep,ho,hd,hk,_,hm⟩:=n;refine#[o,ho,λname=>?_];have e:=hm name;unfold nsFind findBy at e;rw[<-Array.find?_toList] at e;unfold vr;rw[hd];dsimp only;split;rename_i y q;rw[q] at e;exact congrArg se e;rename_i q;rw[q] at e;(have a:es.toList.any (·.refKey)=fh:=by rw[u7];intro y hy;obtain⟨z,t,hkey⟩:=hk y (AK.mp hy);simp[DictEntry.refKey,hkey]);(have a':¬es.toList.any (·.refKey)=tj:=by rw[a];exact rG);rw[S9 a'];exact congrArg se e
theorem xaX.look {h:TU}{x dx C:Tn}{mA:To->Hc}(I:xaX h x dx C mA):∃od,PySem.W.InstAt h x (vq C dx) C (se od)/\∀name,vr name od=se (mA name) :=let #[od,ho,hl]:=IJ I.ns;#[od,#[I.obj,rfl,rfl,ho],hl]
section
variable {prog:TF}{w:Ud}{A:TC}{E:Value->Tj->Prop}{s:Tj}{K:a9}{x dx C f:Tn}{mA:To->Hc}{name:To}{v:Value}
theorem IK {expr:Bool}{Q:Value->Tj->Prop}(X:IZ)(I:xaX s.heap x dx C mA)(hg:sj K C name=tj)(hh:vo K C=tj) (ha:[TT,K,name]=PV) (hv:mA name=se v) (hv':Ci v=tj) (h:Q v { s with toks:=s.toks+1}) :Tv [ϑ,w] A (getAttr (.ref x) name expr) Q E s:=by obtain⟨od,J,hl⟩:=I.look;exact PySem.W.get_value X J (xT hg).1 (PySem.W.findObj_own hh ha rfl (by rw[hl,hv])) hv' h
theorem IL {pl:Sem Bool}{Q:Value× Ϛ->Tj->Prop}(X:IZ)(I:xaX s.heap x dx C mA)(hg:sj K C name=tj) (hf:[TT,K,name]=PH) (ht:o7 K Fr=tj) (hv:mA name=ng) (h:Q (Fr,[.ref x]) s) :Tv [ϑ,w] A (getMethod (.ref x) name pl) Q E s:=by obtain⟨od,J,hl⟩:=I.look;exact PySem.W.method_fn X J (xT hg).1 (xT hg).2 hf (beq_iff_eq.mp ht) (by show(vr name od).map (·.isSome)=se fh;rw[hl,hv];rfl) h
theorem zaw {ns:μ}{Q:Unit->Tj->Prop}(X:IZ)(I:xaX s.heap x dx C mA) (hs:[TT,K,"__setattr__"]=se [TO,"object.__setattr__"]) (hp:xV K C=tj) (ht:xY K C name=PV) (hh:vo K C=tj) (hw:PySem.Within mA ns) (jm:ns.length<=sizeLine) (h:∀h',xaX h' x dx C (λy=>if y=name then se v else mA y)->[OP,dx,h']->Q () { s with heap:=h',toks:=s.toks+2}) :Tv [ϑ,w] A (setAttr (.ref x) name v) Q E s:=by obtain⟨od,J,hl⟩:=I.look;refine PySem.W.set_plain X J hs (PySem.W.osa_open (s:={ s with toks:=s.toks+1}) (r:=ng) X J hp ht λb=>?_);obtain⟨cd,hc,kM⟩:=PySem.W.any_some hh;have hx:s.heap.get? x=se #[H1,se dx,.plain,([].toArray)]:=I.obj;refine Ti (Tq (Ti (Ti (wpAny_loadPart hx (Ti (PySem.W.Looks.here (s:={ s with toks:=s.toks+1}) (PySem.W.looks_clsIn X hc) ?_))))));rw[kM];refine Tq (a:=se dx) (Ti (Tq (Ti ?_)));refine wpAny_nsSet1 (s:={ s with toks:=s.toks+1}) I.ns λh' hn2 oy=>?_;obtain⟨oD,esD,epD,hoD,hdD,hcD⟩:=hn2.count (PySem.Within.cons name v hw);refine Ti (wpAny_lookBehind hoD (by rw[hdD];exact pastItsLine_dict (cf hcD (by rw[fO];exact rY jm))) ?_);exact Tq (h _ #[(oy.2 _ (Ne.symm I.ne)).trans I.obj,hn2,I.ne] oy)
theorem IN {R:Result->Tj->Prop}{vs:Ϛ}{kw:List (To×Value)}(X:IZ)(hm:qP K C=tj) (hi:[TT,K,"__init__"]=PH) (hf:x6 K Fr=[P6,"function"]) (h:Wh [ϑ,w] [J6,"type.__call__",#[H1::vs,kw]] (.call Fr #[.ref (s.heap.objs.size+1)::vs,kw]) (PySem.W.InitBack (s.heap.objs.size+1) R) { s with heap:=(s.heap.push qO).push (vq C s.heap.objs.size)}) :Wh [ϑ,w] A (.call H1 #[vs,kw]) R s:=by obtain⟨hh,g,d,t,os⟩:=s;exact PySem.W.make_core (PySem.W.makes_of X hm) (vk X hi) (λself=>PySem.W.bind_fn X self hf) lS h
end
section
end
structure Cls (K:a9)(C:Tn):Prop where
 pg:sj K C Str.empty=tj
 hd:vo K C=tj
 po:xV K C=tj
 sa:[TT,K,"__setattr__"]=se [TO,"object.__setattr__"]
theorem Cls.get {K:a9}{C:Tn}(c:Cls K C)(f:To):sj K C f=tj:=c.pg
def xbP (K:a9)(C:Tn)(f:To):Prop:=[TT,K,f]=PV
theorem xbP.taker {K:a9}{C:Tn}{f:To}(n:xbP K C f):xY K C f=se none:=by unfold xY;rw[show[TT,K,f]=PV from n];rfl
structure Meth (K:a9)(C:Tn)(m:To)(f:Tn):Prop where
 at_:[TT,K,m]=PH
 fn:o7 K Fr=tj
 kp:iG K Fr=tj
section
variable {s:Tj}{f:To}{A:TC}{E:Value->Tj->Prop}
theorem zbB {prog:TF}{w:Ud}{env:Env}{e:TV}{f:To}{pos:VX}{s:Tj}{Q:Value->Tj->Prop}(hb:attributeBase e f env (UA e env)=UA e env) (h:Tv [ϑ,w] A (UA e env) (λo s₁=>Tv [ϑ,w] A (getAttr o f tj) Q E s₁) E s):Tv [ϑ,w] A (UA (.Attribute e f pos) env) Q E s :=Attribute_any_ h (by rw[arm_eval_Attribute,hb])
end
section
end
section
end
structure UM (k:Nat)(A:TC):Prop where
 hd:A.handled=ng
 dp:A.depth+3*k+5<recursionLimit
 un:A.units+16*k+200<cLine
theorem UM.mono {j k:Nat}{A:TC}(r:UM k A)(h:j<=k):UM j A:=#[r.hd,by have:=r.dp;lia,by have:=r.un;lia]
theorem UM.deeper {k:Nat}{A:TC}(r:UM (k+1) A)(env:Env):UM k (A.deeper env) :=#[r.hd,by have:=r.dp;show A.depth+1+3*k+5<_;lia,by have:=r.un;show A.units+3+16*k+200<_;lia]
theorem zb3 {A:TC}{C:Tn}{us:Ϛ}{kw:List (To×Value)}:[J6,"type.__call__",#[H1::us,kw]].depth=A.depth+1:=by first |rfl|simp[Around.under,Code.weight,Code.isCreation,Code.isGuard,Code.isCaller,Code.frames,Code.isFrame,guardIds]
theorem IS {A:TC}{C:Tn}{us:Ϛ}{kw:List (To×Value)}:[J6,"type.__call__",#[H1::us,kw]].units=A.units+1:=by first |rfl|simp[Around.under,Code.cUnits,Code.frames,Code.isFrame]
theorem UM.make {k:Nat}{A:TC}(r:UM (k+1) A)(C:Tn)(us:Ϛ)(kw:List (To×Value)):UM k [J6,"type.__call__",#[H1::us,kw]] :=#[r.hd,by have:=r.dp;rw[zb3];lia,by have:=r.un;rw[IS];lia]
theorem UM.depth {k:Nat}{A:TC}(r:UM k A):A.depth<recursionLimit:=by have:=r.dp;lia
section
end
section
end
def Binds (K:a9)(fd:Uk)(ps:μ)(ds:Ϛ):Prop :=∀(s:Tj) (us:List Value),IZ->(us++ds).length=ps.length->BindsTo s fd #[us,[]] (ps.zip (us++ds))
theorem Binds.all {K:a9}{fd:Uk}{ps:μ}(h:∀us:Ϛ,us.length=ps.length->bindArgs fd #[us,[]]=SD):Binds K fd ps []:=λs us _ hl=>by rw[k8] at hl ⊢;exact .of_eq (h us hl)
section
variable {f C:Tn}
structure Mk (K:a9)(C f:Tn):Prop where
 makes:qP K C=tj
 init:[TT,K,"__init__"]=PH
 fn:o7 K Fr=tj
 kp:iG K H1=tj
end
section
end
structure VB (N P:μ)(sc:WU):Prop where
 kind:sc.kind=.function
 co:sc.isCoroutine=fh
 gen:sc.isGenerator=fh
 nd:N.Nodup
 pre:N.take P.length=P
 par:∀x∈P,IV=XL\/IV=RM
 nofree:∀y∈sc.names,y.2≠.free
theorem Cs {kindOf:To->Mi}{x:To}:∀{binds:List (To×Value)} {m:To->Option Value},(∀v,(x,v)∉binds)->bindL kindOf binds m x=m x| [],_,_=>rfl| (n,v)::r,m,h=>by unfold bindL;rw[Cs λw hw=>h w (a7 _ hw)];split;(have:x≠n:=by rintro rfl;exact h v aR);simp[this];rfl
theorem Ct {kindOf:To->Mi}{x:To}:∀{binds:List (To×Value)} {m:To->Option Value},(∀v,(x,v)∉binds)->bindC kindOf binds m x=m x| [],_,_=>rfl| (n,v)::r,m,h=>by unfold bindC;rw[Ct λw hw=>h w (a7 _ hw)];split;rfl;(have:x≠n:=by rintro rfl;exact h v aR);simp[this]
theorem Cu {kindOf:To->Mi}{x:To}{v:Value}:∀{P:List To} {vs:List Value} {i:Nat} {m:To->Option Value},P.Nodup->P[i]?=ω->vs[i]?=se v->kindOf x=XL->bindL kindOf JD m x=se v| [],_,_,_,_,h,_,_=>by trivial| _::_,[],_,_,_,_,h,_=>by trivial| p::P,w::vs,0,m,nd,h1,h2,hk=>by simp at h1 h2;subst h1;subst h2;show bindL kindOf ((p,w)::JD) m p=_;unfold bindL;rw[Cs λv hv=>'V'.1 (cg hv).1,Ta hk];simp| p::P,w::vs,i+1,m,nd,h1,h2,hk=>by show bindL kindOf ((p,w)::JD) m x=_;unfold bindL;exact Cu (i:=i) 'V'.2 (by assumption) (by assumption) hk
theorem Cv {kindOf:To->Mi}{x:To}{v:Value}:∀{P:List To} {vs:List Value} {i:Nat} {m:To->Option Value},P.Nodup->P[i]?=ω->vs[i]?=se v->kindOf x≠XL->bindC kindOf JD m x=se v| [],_,_,_,_,h,_,_=>by trivial| _::_,[],_,_,_,_,h,_=>by trivial| p::P,w::vs,0,m,nd,h1,h2,hk=>by simp at h1 h2;subst h1;subst h2;show bindC kindOf ((p,w)::JD) m p=_;unfold bindC;rw[Ct λv hv=>'V'.1 (cg hv).1,S9 hk];simp| p::P,w::vs,i+1,m,nd,h1,h2,hk=>by show bindC kindOf ((p,w)::JD) m x=_;unfold bindC;exact Cv (i:=i) 'V'.2 (by assumption) (by assumption) hk
theorem Cw {sc:WU}{n:Nat}{x:To}(h:IV=RM):∃c,(cellsFrom n sc.names []).lookup x=ϛ:=by have q:=xR sc.names n [] (.inl h);exact vh.mp q
section
end
end NAL
namespace NAH
open PySem PyProof.Rows
section
open PySem.SeqAt
open PySem.AutoSeq1 (wpAny_loadPart')
open PySem.MeetsSeq PySem.MeetsSeq2 PySem.MeetsSeq3
end
section
variable {prog:TF}{w:Ud}{A:TC}{E:Value->Tj->Prop}{s:Tj}
noncomputable def V1 (n d:Nat):XK->Nat| none=>d| some v=>if v<0 then(v+(n:Int)).toNat else min v.toNat n
theorem zct (n d:Nat)(hd:d<=n)(o:XK):V1 n d o<=n:=by cases o with| none=>exact hd| some v =>show(if v<0 then(v+(n:Int)).toNat else min v.toNat n)<=n;by_cases hv:v<0;rw[Ta hv];lia;rw[S9 hv];exact Nat.min_le_right _ _
theorem Cy (v:Int)(n d:Nat):(if v<0 then max (v+(n:Int)) 0 else min v (n:Int))=((V1 n d (se v):Nat):Int):=by show(if v<0 then max (v+(n:Int)) 0 else min v (n:Int))=(((if v<0 then(v+(n:Int)).toNat else min v.toNat n):Nat):Int);by_cases hv:v<0;simp only[Ta hv];simp_all;simp only[S9 hv];lia
theorem IU (lo hi:XK)(n:Nat):Builtin.Slice.sliceAdjust lo hi 1 (n:Int)=(((V1 n 0 lo:Nat):Int),((V1 n n hi:Nat):Int)):=by(have h1:¬((1:Int)<0):=by trivial);unfold Builtin.Slice.sliceAdjust;simp only[h1,if_false];refine Prod.ext ?_ ?_;(cases lo with| none=>rfl| some v=>exact Cy v n 0);cases hi with| none=>rfl| some v=>exact Cy v n n
theorem zcS (i j:Nat):[JL,(i:Int),(j:Int)]=j-i:=by unfold Builtin.Slice.slicePlaces;(have h1:(1:Int)>0:=by trivial);simp only[h1,if_true,Int.ediv_one];split<;>lia
theorem CA {v:Value}{o:XK}{Q:XK->Tj->Prop}(p:IsPart v o)(h:Q o s):Tv [ϑ,w] A (Builtin.Slice.slicePartIndex v) Q E s:=by cases p with| none=>exact slicePart_none h| int i t=>exact slicePart_int h
theorem IX {sl:Tn}{vl vu:Value}{lo hi:XK}{n:Nat}{Q:Int×Int×Nat->Tj->Prop}(hs:s.heap.IsSliceOf sl vl vu .none)(pl:IsPart vl lo)(pu:IsPart vu hi) (h:Q (((V1 n 0 lo:Nat):Int),1,V1 n n hi-V1 n 0 lo) s):Tv [ϑ,w] A (Builtin.Slice.sliceApplied (.ref sl) (pure (n:Int))) Q E s:=by obtain⟨os,hos,hcs,hds⟩:=id hs;unfold Builtin.Slice.sliceApplied Builtin.Slice.sliceFields;refine Ti (Ti (Uz hos hds (x:=vl) rfl (Ti (Uz hos hds (x:=vu) rfl (Ti (Uz hos hds (x:=.none) rfl (Tq ?_)))))));refine Ti (slicePart_none ?_);show Tv _ _ (if((1:Int)==0)=tj then _ else _) _ _ s;rw[S9 (by decide)];refine Ti (CA pl (Ti (CA pu (Ti (Tq ?_)))));show Tv _ _ (match Builtin.Slice.sliceAdjust lo hi 1 (n:Int)with | (lo,hi)=>pure (lo,(1:Int),[JL,lo,hi])) _ _ s;rw[IU lo hi n];show Tv _ _ (pure (((V1 n 0 lo:Nat):Int),(1:Int),[JL,((V1 n 0 lo:Nat):Int),((V1 n n hi:Nat):Int)])) _ _ s;rw[zcS];exact Tq h
theorem IY (xs:K3)(i k:Nat):((aT k).filterMap λ(m:Nat)=>xs[((i:Int)+(m:Int)*1).toNat]?).toArray=((xs.toList.drop i).take k).toArray:=by(have e:(λ(m:Nat)=>xs[((i:Int)+(m:Int)*1).toNat]?)=λm=>xs[i+m]?:=by funext m;(have:((i:Int)+(m:Int)*1).toNat=i+m:=by lia);rw[this]);rw[e];have:=pick_run xs i k;rw[xu] at this;have e2:((λx=>xs[x]?)∘λx=>i+x)=λm=>xs[i+m]?:=rfl;rw[e2] at this;rw[this]
theorem ZR {t sl:Tn}{items:K3}{vl vu:Value}{lo hi:XK}{Q:Value->Tj->Prop}(ht:IsTup s.heap t items)(hs:s.heap.IsSliceOf sl vl vu .none)(pl:IsPart vl lo)(pu:IsPart vu hi) (hw:¬([TG,0,lo]=0/\[TG,items.size,hi]=items.size)) (h:Q VK { s with heap:=s.heap.push { cls:=.type "tuple",data:=.seq ((items.toList.drop [TG,0,lo]).take ([TG,items.size,hi]-[TG,0,lo])).toArray}}) (jm:items.size<=sizeLine):Tv [ϑ,w] A (getItem (.ref t) (.ref sl)) Q E s:=by(have ji:sizeOk (.seq ((items.toList.drop [TG,0,lo]).take ([TG,items.size,hi]-[TG,0,lo])).toArray):=by show((items.toList.drop [TG,0,lo]).take ([TG,items.size,hi]-[TG,0,lo])).toArray.size<=sizeLine;rw[hV,jr,Bo,Array.length_toList];lia);have hj:[TG,items.size,hi]<=items.size:=zct _ _ ϱ hi;obtain⟨os,hos,hcs,hds⟩:=id hs;have hTs:s.TypeIs (.ref sl) "slice":=#[os,hos,hcs];unfold getItem;(try with_reducible refine UN ?_);(first |refine Ti (Tq ?_)|skip);refine Ti (wpAny_sequenceKey ht.typeIs (by decide) ?_);refine Ti (U7 (name:=Str.ofString "__getitem__") ht.typeIs xQ (Vz xQ ht.typeIs entry_tuple_getitem ?_ (args_tuple_getitem _ _)));show Tv _ _ (Builtin.Tuple.tupleItemsOf (.ref t)>>=_) _ _ s;refine Ti (tupleItemsOf_ ht ?_);refine Ti (wpAny_typeOf hTs ?_);rw[Ta (by decide)];refine Ti (IX hs pl pu ?_);(have hno:¬(((([TG,0,lo]:Nat):Int)==0&&(1:Int)==1&&([TG,items.size,hi]-[TG,0,lo])==items.size)=tj):=by intro q;rw[cC,cC] at q;have q1:(([TG,0,lo]:Nat):Int)=0:=eq_of_beq q.1.1;have q2:[TG,items.size,hi]-[TG,0,lo]=items.size:=eq_of_beq q.2;exact hw #[by simpa using q1,ε]);show Tv _ _ (if((([TG,0,lo]:Nat):Int)==0&&(1:Int)==1&&([TG,items.size,hi]-[TG,0,lo])==items.size)=tj then _ else _) _ _ s;rw[S9 hno,IY];first|exact Ti (m:=PS) (Uq (Tq #[_,rfl,Tq h]) ji)|exact Ti (m:=PS) (Uq (Ti (Tq (Tq #[_,rfl,Tq h]))) ji)|exact Ti (Ti (m:=PS) (Uq (Tq (Tq #[_,rfl,Tq h])) ji))|exact Ti (Ti (m:=PS) (Uq (Tq #[_,rfl,Tq h]) ji))
end
end NAH
namespace NAL
open PySem PySem.Spec PyProof.Rows
section
end
noncomputable def ixN (n:Nat) (i:Int):Rf:=if 0<=i then(if i<n then se i.toNat else ng)else if-(n:Int)<=i then se (i+n).toNat else ng
theorem CB {n:Nat}{i:Int}{j:Nat}(h:ixN n i=se j):seqIndex? i n=se j/\j<n/\-(n:Int)<=i/\i<n:=by unfold ixN at h;by_cases h0:0<=i;rw[Ta h0] at h;by_cases h1:i<n;rw[Ta h1] at h;have e:i.toNat=j:=dU h;exact#[by rw[seqIndex_of h0 h1,e],by lia,by lia,h1];rw[S9 h1] at h;cases h;rw[S9 h0] at h;by_cases h1:-(n:Int)<=i;rw[Ta h1] at h;have e:(i+n).toNat=j:=dU h;exact#[by rw[seqIndex_neg ε h1,e],by lia,h1,by lia];rw[S9 h1] at h;cases h
def zbN (b:TV):Prop:=∀o i,subscripted b fh o i=operate [o,i] (getItem o i)
section
theorem zcA (lo hi:XK)(n:Nat):(T7 lo hi ng n).1=((NAH.V1 n 0 lo:Nat):Int)/\(T7 lo hi ng n).2.1=((NAH.V1 n n hi:Nat):Int)/\(T7 lo hi ng n).2.2=1:=by refine#[?_,?_,rfl];(cases lo with| none=>rfl| some i =>simp only[T7,NAH.V1,BQ,show(1:Int)>0 by decide,if_true];by_cases h:i<0;simp only[h,if_true]<;>lia;simp only[h,if_false]<;>lia);cases hi with| none=>rfl| some i =>simp only[T7,NAH.V1,BQ,show(1:Int)>0 by decide,if_true];by_cases h:i<0;simp only[h,if_true]<;>lia;simp only[h,if_false]<;>lia
theorem I4 (cJ:Ϛ)(lo hi:XK):Wr cJ.toArray lo hi ng=((cJ.drop (NAH.V1 cJ.length 0 lo)).take (NAH.V1 cJ.length cJ.length hi-NAH.V1 cJ.length 0 lo)).toArray:=by obtain⟨h1,h2,h3⟩:=zcA lo hi cJ.toArray.size;unfold Wr;rw[h1,h2,h3];simp only[sliceRange_one,pick_run,hV]<;>rfl
end
theorem I8 {α:Type}(l:ϐ):l.eraseIdx (l.length-1)=l.dropLast:=by induction l with| nil=>rfl| cons a r ih =>cases r with| nil=>rfl| cons b r =>(have e:(a::b::r).length - 1=((b::r).length - 1)+1:=by have h1:(a::b::r).length=r.length+2:=rfl;have h2:(b::r).length=r.length+1:=rfl;assumption);rw[e,List.eraseIdx_cons_succ,ih];all_goals rfl
theorem foldl_rep (cJ:Ϛ):∀(k:Nat) (acc:List Value),List.foldl (λx1 x2=>x1++x2) acc.toArray (bh k cJ.toArray)=(acc++(bh k cJ).flatten).toArray| 0,acc=>by simp| k+1,acc=>by(have e:acc.toArray++cJ.toArray=(acc++cJ).toArray:=by simp);(have e2:(acc++cJ)++(bh k cJ).flatten=acc++(bh (k+1) cJ).flatten:=by rw[oU,List.flatten_cons,eF]);rw[<-e2,<-foldl_rep cJ k (acc++cJ),<-e,oU,qJ]
section
theorem CD {n:Nat}(h:n<=sizeLine):Builtin.List.listTooLong n=fh:=by unfold Builtin.List.listTooLong;exact Tf (by exact xP.mpr h)
end
section
end
section
end
section
end
end NAL
namespace NAA
open PySem PySem.W PySem.Calls PyProof.Rows
theorem I9 {P:Params}{h:TU}:∀(ns:xam) (vs:List Value),WellAll P h vs (ns.map WData.int)->IntsAre vs ns:=by intro ns;induction ns with| nil =>intro vs w;rw[oX] at w;cases w;exact .nil| cons n ns ih =>intro vs w;rw[bz] at w;cases w with| cons a b =>cases a;exact .cons _ _ (ih _ b)
theorem zdP {l:OpenLaw}{n:Nat}(hn:l.most=se n){P:Params}{h:TU}{args:List WData}{aA:Ϛ} (mP:l.row.toRowW.claim.pre args=tj) (kL:WellAll P h aA args) :∃a vs ns,aA=[Value.ref a]/\args=[WData.list (ns.map WData.int)]/\'@'=se { cls:=.type "list",data:=Me}/\IntsAre vs ns/\ns.length<=n:=by have hsh:WShape.hasAll [] args [.list .int]=tj:=(pre_splitW mP).1;have hc:l.pre.holds [] { args:=args}=tj:=(pre_splitW mP).2;obtain⟨d,r,rfl,h1,h2⟩:=hasAllW_cons hsh;obtain rfl:=hasAllW_nil h2;obtain⟨xs,rfl,h3⟩:=hasW_list h1;obtain⟨ns,rfl⟩:=items_int h3;(have eN:ns.length<=n:=by unfold OpenLaw.pre at hc;(have h4:(WTm.not (.lt (.lit (.int (n:Int))) (.len (.arg 0)))).holds [] { args:=[.list Nn]}=tj:=by have h4:=(holds_andW hc).1;rw[hn] at h4;exact h4);have h5:=condW_of h4 (w_not (w_lt w_lit (w_len_list (w_arg rfl))));rw[bq] at h5;refine qN λq=>?_;(have q':(n:Int)<((ns.length:Nat):Int):=by simpa using q);first|(rw[Tc q'] at h5;exact absurd h5 (by decide))|(simp at h5;lia));cases kL with| cons w1 w2 =>cases w2;cases w1 with| list ho kO=>exact#[_,_,ns,rfl,rfl,ho,I9 ns _ kO,eN]
theorem Jb (l:OpenLaw)(args:List WData):l.row.toRowW.claim.post args Ng args=tj :=postW_of (r:=l.row.toRowW) (X:=(tj==tj)) (show WShape.has [] Ng .bool=tj by first |rfl|decide|simp[WShape.has,WShape.arms,WShape.armsAll]) (show(WTm.eq .res (.lit Ng)).value [] { args:=args,res:=se Ng,after:=args}=se (.bool (tj==tj))from w_eq_bool (w_res rfl) w_lit) rfl
theorem attach_call {l:OpenLaw}{n:Nat}{q:TF}{kE:μ}{XP:(To->Hc)->TU->Prop}{YP:Ud->TU->Prop}{d:DefRec} (hn:l.most=se n) (hdf:d.params.defaults=[]) (call:∀(w:Ud) (s₀ s₁:Tj) (mg mb:To->Option Value) (fa:Tn) (o:UK) (pm cd cj:Value) (a:Tn) (vs:List Value) (ns:xam),Ground q kE [] XP w s₀ mg mb s₁.heap->YP w s₁.heap->s₁.heap.get? fa=ζ->o.data=.func (docDef d.name d.params d.body d.scope pm cd cj)->s₁.heap.CodeRec cd d.name->mg d.name=[TS,fa]->s₁.heap.get? a=se { cls:=.type "list",data:=Me}->IntsAre vs ns->ns.length<=n->s₁.gens=([].toArray)->Wh (Tz l.prog w) callerA (.call (.ref fa) #[[ψ],[]]) (λr s'=>r=[JF,Ng]/\OldK s₁.heap s'.heap/\s'.os=s₁.os/\SS) s₁) :WalkO q kE XP YP l.row.toRowW d [] (λf vs=>PySem.call f vs):=by intro w s₀ s₁ mg mb G Y fa o pm cd cj dV kV ho hd hcd hD hmg hg args aA as mP hlay hrd kL kH;obtain rfl:dV=.none:=Dflts.none hD hdf;obtain rfl:kV=.none:=Dflts.noKw hD;obtain⟨a,vs,ns,rfl,rfl,hobj,hints,eN⟩:=zdP hn mP kL;refine enter_call (U5 (call w s₀ s₁ mg mb fa o pm cd cj a vs ns G Y ho (fd_plain hd) hcd hmg hobj hints eN hg) λr s' hq=>?_);obtain⟨rfl,h2,h3,h4⟩:=hq;exact#[.inl #[Ng,Ng,[],rfl,λ_=>rfl,Ng,Jb l _,λ_=>#[List.Pairwise.nil,λ_ hm=>(nomatch hm)]],h2,h3,h4]
section
noncomputable def ledger (h:TU) (L d:Tn):List (Tn×UK):=(aT h.objs.size).filterMap λa=>if a=L\/a=d then ng else '@'.map λo=>(a,o)
end
end NAA
namespace NAL
open PySem PySem.Spec PyProof.Rows
noncomputable def ZQ (s:UW) (j:Nat):UW:=match s with| .ClassDef _ _ _ body _ _ _ _ _ _ _=>body.getD j (.Pass #[0,0,0,0])| _=>.Pass #[0,0,0,0]
noncomputable def Vr (s:UW):Arguments:=match s with| .FunctionDef _ a _ _ _ _ _ _ _ _=>a| _=>{ posonlyargs:=[],args:=[],vararg:=ng,kwonlyargs:=[],kw_defaults:=[],kwarg:=ng,defaults:=[]}
noncomputable def U4 (s:UW):List UW:=match s with| .FunctionDef _ _ b _ _ _ _ _ _ _=>b| _=>[]
noncomputable def T8 (s:UW):WU:=match s with| .FunctionDef _ _ _ _ _ _ sc _ _ _=>sc| _=>{ kind:=.function,names:=[],isGenerator:=fh,isCoroutine:=fh}
structure Fun (K:a9)(x qual:To)(st:UW)(f:Tn)(fd:Uk):Prop where
 ex:∃(oc:Value) (od:Option Tn) (kV cj pm:Value) (an:Option Tn) (cdv ct:Value) (dY:Array (Option Value)),
  fd=iH x qual Nq Ke wr .none kV cj pm an cdv ct/\Ki=se #[oc,od,.func fd,dY]/\ly K cdv qual=tj
 kp:iG K Fr=tj
section
variable {K:a9}
theorem Fun.binds {x qual:To}{st:UW}{f:Tn}{fd:Uk}{ps:μ}(F:Fun K x qual st f fd) (h:∀(kV cj pm:Value) (an:Option Tn) (cdv ct:Value) (us:List Value),us.length=ps.length->bindArgs (iH x qual Nq Ke wr .none kV cj pm an cdv ct) #[us,[]]=SD):Binds K fd ps []:=by obtain⟨oc,od,kV,cj,pm,an,cdv,ct,dY,rfl,lk,hcd⟩:=F.ex;exact .all (h kV cj pm an cdv ct)
theorem nU {x qual:To}{st:UW}{f:Tn}{oc:Value}{od an:Option Tn}{dY:Array Hc}{kV cj pm cdv ct:Value}(l:Ki=se #[oc,od,.func (iH x qual Nq Ke wr .none kV cj pm an cdv ct),dY]) (c:ly K cdv qual=tj) (k:iG K Fr=tj):Fun K x qual st f (iH x qual Nq Ke wr .none kV cj pm an cdv ct):=#[#[oc,od,kV,cj,pm,an,cdv,ct,dY,rfl,l,c],k]
end
section
end
end NAL
namespace NAL.EX
open PySem PySem.Spec PyProof.Rows
section
def Bd (n:Nat)(i:Int):Prop:=i.natAbs<2^n
noncomputable def okC (c:String):Bool:=["int","bool","str","list","tuple","dict"].contains c
end
structure Top (K:a9)(mg:To->Hc)(x:To)(st:UW)(ps:μ):Prop where
 is:∃(f:Tn) (fd:Uk),Fun K x x st f fd/\Binds K fd ps []/\mg x=se (Fr)
section
end
section
end
section
end
section
end
theorem zaR:T9 "abs"=[TO,"abs"]:=by decide +kernel
theorem zdo:T9 "min"=[TO,"min"]:=by decide +kernel
theorem Je:T9 "sum"=[TO,"sum"]:=by decide +kernel
theorem Jf:T9 "any"=[TO,"any"]:=by decide +kernel
theorem CG:T9 "isinstance"=[TO,"isinstance"]:=by decide +kernel
theorem zcO:T9 "int"=[P6,"int"]:=by decide +kernel
theorem vz:T9 "list"=[P6,"list"]:=by decide +kernel
theorem CJ:T9 "dict"=[P6,"dict"]:=by decide +kernel
theorem Jh:T9 "enumerate"=[P6,"enumerate"]:=by decide +kernel
theorem x7:T9 "zip"=[P6,"zip"]:=by decide +kernel
section
end
theorem zdQ (hi:Bd m i)(hj:Bd n j)(h:m+n<=134217728):IntMulOk i j:=IntMulOk.of_le (intBits_le_iff.mpr hi) (intBits_le_iff.mpr hj) h
theorem zbP (h:Bd n j)(hn:n<=9000)(h0:j≠0):j.natAbs.log2<9000:=by have h2:=(Nat.log2_lt ε).mpr h;lia
theorem Bd.le (h:Bd m i)(k:m<=n):Bd n i:=hZ h (oY (by decide) k)
theorem zfm {K:a9}{st:UW}{kV cj pm cdv ct:Value}(X:IF)(G:h.Ns TB mg) (a:jQ K TB x=PH) (l:Ki=se #[oc,od,.func (iH x x Nq Ke wr .none kV cj pm an cdv ct),dY]) (c:ly K cdv x=tj) (k:iG K Fr=tj) (b:∀kV cj pm an cdv ct us,us.length=ps.length->bindArgs (iH x x Nq Ke wr .none kV cj pm an cdv ct) #[us,[]]=SD):Top K mg x st ps :=#[f,_,nU l c k,(nU l c k).binds b,nQ X G a]
theorem x8:∀(ns:List (To×Xu)) acc,(∀y∈ns,y.2=.free->∃c,env.cells.lookup y.1=ϛ)->(∀x c,N4=ϛ->Qw=ϛ)->∃cl:List (To×Tn),(forIn ns acc (λx r=>match x with | (name,kind)=>if(kind==NameKind.free)=tj then do let c <-cellOf env name;pure (ForInStep.yield ((name,c)::r)) else[PY,r]):Sem (List (To×Tn)))=pure cl/\(∀x c,K6=ϛ->Qw=ϛ)/\(∀x c,N4=ϛ->∃c',K6=se c')/\∀y∈ns,y.2=.free->∃c,cl.lookup y.1=ϛ| [],acc,_,h2=>#[acc,rfl,h2,λx c e=>#[c,e],λy hy=>nomatch hy]| (n,k)::r,acc,h1,h2=>by have mJ:=λy hy=>h1 y (a7 _ hy);by_cases hk:k=.free;subst hk;obtain⟨c,hc⟩:=h1 (n,.free) aR rfl;(have kD:∀x d,((n,c)::acc).lookup x=ϩ->Qw=ϩ:=λx d e=>by grind);obtain⟨cl,e,a,b,d⟩:=x8 r ((n,c)::acc) mJ kD;(have kp:∀x c',N4=se c'->∃c'',((n,c)::acc).lookup x=se c'':=λx c' q=>by grind);refine#[cl,?_,a,λx c' q=>let #[c'',q']:=kp x c' q;b x c'' q',λy hy hf=>?_];(have ec:cellOf env n=pure c:=by grind[cellOf]);simp_all;grind;obtain⟨cl,e,a,b,d⟩:=x8 r acc mJ h2;grind
theorem Jl (h:∀y∈scope.names,y.2=.free->∃c,env.cells.lookup y.1=ϛ) :∃cl,closureFor scope env=pure cl/\(∀x c,K6=ϛ->Qw=ϛ)/\∀y∈scope.names,y.2=.free->∃c,cl.lookup y.1=ϛ:=by obtain⟨cl,e,a,_,d⟩:=x8 scope.names [] h (λx c e=>by trivial);refine#[cl,?_,a,d];exact(congrArg (· >>= pure) e).trans (pure_bind _ _)
section
variable {prog:TF}{w:Ud}{A:TC}{R:Result->Tj->Prop}{s:Tj}
abbrev NoE:Value->Tj->Prop:=λ_ _=>False
theorem Jm (J:Nat->Tj->Prop) (turn:∀n s,J n s->Tv [ϑ,w] A (pyNext it) (λr s₁=>match r with| none=>R (.ok .next) s₁| some v=>Tv [ϑ,w] A (UY target it v) (λ_ s₂=>Tv [ϑ,w] A (assign target env v) (λ_ s₃ =>Tv [ϑ,w] A (forIn kI tj λc r=>if r=tj then do let ok <-isTrue c env (UA c env);pure (ForInStep.yield ok) else[PY,r]) (λok s₄ =>if ok=tj then Tv [ϑ,w] A (UA fY env) (λx s₅=>Tv [ϑ,w] A (call (.builtin "list.append") [acc,x]) (λ_ s₆=>∃m,m<n/\J m s₆) NoE s₅) NoE s₄ else∃m,m<n/\J m s₄) NoE s₃) NoE s₂) NoE s₁) NoE s) (n:Nat) (h:J n s):Wh [ϑ,w] A (.compLoop [Sr,fY,[#[target,iter,kI,0]],pos] 0 it acc env) R s:=by refine codeAny_loop rfl J (λn s hJ=>?_) n h;refine wpAny_noted ?_;refine Ti (wpAny_standAt (Ti (UF (turn n s hJ) (λr s₁ h₁=>?_) λ_ _ z=>z.elim)));cases r with| none=>exact Tq h₁| some v =>refine Ti (UF h₁ (λ_ s₂ h₂=>?_) λ_ _ z=>z.elim);refine Ti (UF h₂ (λ_ s₃ h₃=>?_) λ_ _ z=>z.elim);refine Ti (UF h₃ (λok s₄ h₄=>?_) λ_ _ z=>z.elim);cases ok with| false=>exact Tq #[rfl,h₄]| true =>exact Ti (Ti (UF h₄ (λx s₅ h₅=>Ti (UF h₅ (λ_ s₆ h₆=>Tq (Tq #[rfl,h₆])) λ_ _ z=>z.elim)) λ_ _ z=>z.elim))
end
theorem x9 {env:Env}{x:To}{k':Xu}:∀{names:List (To×Xu)},(names.map λ(n,k)=>if(k==NameKind.free&&env.scope.kind==.function&&Ye==RM)then(n,NameKind.cell)else(n,k)).lookup x=se k'->∃k,names.lookup x=Q8/\(k'=k\/(k=.free/\k'=.cell))| [],h=>nomatch h| (n,k)::r,h=>by have ih:=@x9 env x k' r;rw[jt];simp only[bz] at h;cases e:x==n with| true =>refine#[k,rfl,?_];split at h<;>rw[jt,e] at h<;>cases h;rename_i c;simp only[cC,beq_iff_eq] at c;exact .inr #[c.1.1,rfl];exact lS| false=>split at h<;>exact ih (by simpa only[jt,e] using h)
theorem Jn {env:Env}{names:List (To×Xu)}(h:names.lookup x=J0) :(names.map λ(n,k)=>if(k==NameKind.free&&env.scope.kind==.function&&Ye==RM)then(n,NameKind.cell)else(n,k)).lookup x=RM\/(names.map λ(n,k)=>if(k==NameKind.free&&env.scope.kind==.function&&Ye==RM)then(n,NameKind.cell)else(n,k)).lookup x=J0:=by induction names with| nil=>exact nomatch h| cons p r ih =>obtain⟨n,k⟩:=p;rw[jt] at h;simp only[bz];cases e:x==n with| true =>rw[e] at h;cases h;split;left;rw[jt,e];right;rw[jt,e]| false =>rw[e] at h;have ih:=ih h;split<;>simpa only[jt,e] using ih
def xaJ (env:Env):μ->Prop| []=>True| x::r=>(Oj=RM\/Oj=J0)/\xaJ env r
theorem xaJ.mem:∀{l:List To},xaJ env l->x∈l->Oj=RM\/Oj=J0| _::_,h,hx=>by rcases bi.mp hx with rfl | hx;exact h.1;exact xaJ.mem h.2 hx
section
end
section
end
section
end
section
end
structure ClsF (K:a9)(C:Tn)(f:To):Prop where
 cl:Cls K C
 no:xbP K C f
structure MTop (K:a9)(C:Tn)(m qual:To)(st:UW)(ps:μ):Prop where
 is:∃(f:Tn) (fd:Uk),Fun K m qual st f fd/\Binds K fd ps []/\Meth K C m f
 cl:Cls K C
section
end
section
end
def Sh (n:Nat)(d:PyData):Prop:=d.canLay0=tj/\d.depth<=n
theorem Jo (i:Int):Sh n JE:=#[by simp only[PyData.canLay0],by grind[PyData.depth]]
theorem zbv (i:Bool):Sh n (.bool i):=#[by simp only[PyData.canLay0],by grind[PyData.depth]]
theorem vA (h:∀d∈ds,Sh n d):PyData.canLayAll0 ds=tj/\PyData.depthAll ds<=n:=by induction ds with| nil=>grind[PyData.canLayAll0,PyData.depthAll]| cons d ds ih =>obtain⟨h1,h2⟩:=h d aR;obtain⟨h3,h4⟩:=ih λx hx=>h x (a7 _ hx);refine#[by simp only[PyData.canLayAll0,h1,h3,Bool.and_self],?_];simp only[PyData.depthAll];lia
theorem za8 (h:∀d∈ds,Sh n d):Sh (n+1) (.list ds):=#[(vA h).1,by simp only[PyData.depth];have:=(vA h).2;lia]
theorem zbI (h:∀d∈ds,Sh n d):Sh (n+1) (.tuple ds):=#[(vA h).1,by simp only[PyData.depth];have:=(vA h).2;lia]
theorem Sh.shaped (h:Sh 60 d):B8 d=tj:=by unfold B8;rw[h.1,Tc (cf h.2 (by decide))];rfl
section
theorem ya (hr:UM k A):A.units+64<cLine:=by have:=hr.un;lia
end
section
theorem vB {A:TC}(h:A.handled=ng):A.in1.handled=none:=h
theorem Js (bs:L5):((aT bs.length).any λi=>[PB,i])=bs.any id:=by rw[gb,gU,gU];constructor;rintro⟨i,hi,e⟩;have hl:=dA.mp hi;refine#[tj,?_,rfl];(have:bs[i]?=BT:=by rw[bO,aV hl] at e;rw[aV hl];exact congrArg se e);exact aM this;rintro⟨b,hb,e⟩;obtain⟨i,hi⟩:=bH hb;refine#[i,dA.mpr 'U'.1,?_];rwa [bO,hi]
theorem CK (ns:xam):∀n,n<=ns.length->preSum (λi=>[Jr,i]) n=(ns.take n).sum| 0,_=>by simp[preSum]| n+1,h=>by(have hn:n<ns.length:=by lia);rw[preSum,CK ns n (by lia),bO,aV hn,(A0 hn).symm,kb];simp
theorem zdV (ns:xam):preSum (λi=>[Jr,i]) ns.length=ns.sum:=by rw[CK ns _ ϱ,lY]
theorem argBest_lt (bt:Nat->Nat->Bool):∀k,argBest bt k<=k| 0=>ϱ| k+1=>by have:=argBest_lt bt k;unfold argBest;split<;>lia
theorem CL (ns:xam):∀k,∀j≤k,[Jr,argBest (λi j=>decide ([Jr,i]<[Jr,j])) k]<=[Jr,j]| 0,j,h=>by(have:j=0:=by lia);subst this;exact lT| k+1,j,h=>by have ih:=CL ns k;unfold argBest;split;by_cases e:j=k+1;subst e;exact lT;have:=ih j (by lia);lia;by_cases e:j=k+1;lia;exact ih j (by lia)
end
end NAL.EX
namespace NAP
structure WD where
 G:Nat
 nE:Nat
 ends:xak
 bG:xag
structure WD.WF (N:WD):Prop where
 gle:N.G<=N.nE
 len:N.bG.length=N.nE
 lo:∀(k:Nat) p,N.ends[k]?=ϕ->p.1<N.G/\N.G<=p.2/\p.2<N.nE
 mem:∀(e:Nat) l k,N.bG[e]?=tx->(k∈l↔∃p,N.ends[k]?=ϕ/\(p.1=e\/p.2=e))
noncomputable def inc (p:Nat×Nat) (e:Nat):Bool:=decide (p.1=e\/p.2=e)
noncomputable def load:xak->xam->Nat->Int| p::r,s::q,e=>(if inc p e then s else 0)+load r q e| _,_,_=>0
theorem CM:∀{ends:xak} {ad:xam} {k:Nat} {v s:Int} {p:Nat×Nat} {e:Nat},ends[k]?=ϕ->ad[k]?=ϫ->load ends (ad.set k v) e=load ends ad e+(if inc p e then v-s else 0)| [],_,_,_,_,_,_,h,_=>by trivial| _::_,[],_,_,_,_,_,_,h=>by trivial| p::r,s::q,0,v,s',p',e,h1,h2=>by simp at h1 h2;subst h1 h2;simp only[u0,load];split<;>lia| p::r,s::q,k+1,v,s',p',e,h1,h2=>by have ih:=CM (ends:=r) (ad:=q) (k:=k) (v:=v) (s:=s') (p:=p') (e:=e) (by assumption) (by assumption);simp only[qH,load,ih];lia
noncomputable def Vh (a:Int) (ad:xam) (l:xat):xam:=l.foldl (λs k=>s.set k (s.getD k 0+a)) ad
theorem VR (a:Int):∀l ad,(Vh a ad l).length=ad.length:=by intro r;induction r with| nil =>rintro _;exact rfl| cons k r ih =>rintro ad;show(Vh a (ad.set k _) r).length=_;rw[ih,eX]
noncomputable def Wb (ends:xak) (e:Nat):xat->Int| []=>0| k::r=>(match ends[k]? with | some p=>if inc p e then 1 else 0| none=>0)+Wb ends e r
theorem yb {ends:xak}{a:Int}{e:Nat}:∀{l:xat} {ad:xam},ad.length=ends.length->(∀k∈l,k<ends.length)->load ends (Vh a ad l) e=load ends ad e+a*Wb ends e l| [],ad,_,_=>by simp[Vh,Wb]| k::r,ad,hl,hk=>by have hk0:k<ends.length:=hk k aR;have hs:ad[k]?=se (ad[k]' ε):=aV ε;have hp:ends[k]?=se ends[k]:=aV hk0;have ih:=yb (ends:=ends) (a:=a) (e:=e) (l:=r) (ad:=ad.set k ([KQ,0]+a)) (by simpa using hl) (λj hj=>hk j (a7 _ hj));show load ends (Vh a (ad.set k ([KQ,0]+a)) r) e=_;rw[ih,CM hp hs,Wb,hp];(have hg:[KQ,0]=ad[k]' ε:=by simp[hW,hs]);rw[hg];by_cases hc:inc ends[k] e=tj;simp only[hc,if_true,rI,Int.mul_one];lia;simp only[hc,if_false,rI,Int.mul_zero];simp
theorem CN {a:Int}:∀{l:xat} {ad:xam} {k:Nat} {s:Int},ad[k]?=ϫ->(Vh a ad l)[k]?=se (s+a*(l.count k:Int)):=by intro r;induction r with| nil =>rintro ad k s h;simp[Vh,h]| cons j r ih =>rintro ad k s h;have hk:k<ad.length:=(aQ.mp h).1;show(Vh a (ad.set j (ad.getD j 0+a)) r)[k]?=_;by_cases e:j=k;subst e;(have h':(ad.set j (ad.getD j 0+a))[j]?=se (s+a):=by rw[fD hk];simp[hW,h]);rw[ih h',List.count_cons_self];push_cast;rw[rI];simp;lia;(have h':(ad.set j (ad.getD j 0+a))[k]?=se s:=by rw[bF e];exact h);rw[ih h',List.count_cons_of_ne (by assumption)]
noncomputable def WT {α:Type}:Bool->ϐ->ϐ| _,[]=>[]| true,x::r=>x::WT fh r| false,_::r=>WT tj r
theorem ZY {α:Type}{x:α}:∀{b:Bool} {l:List α},x∈WT b l->x∈l| _,[],h=>by assumption| true,y::r,h=>(by rcases PT with rfl | h;exact aR;exact a7 _ (ZY h))| false,y::r,h=>a7 _ (ZY h)
theorem vC {α:Type}{x:α}:∀{b:Bool} {l:List α},x∈WT b l->∃i,l[i]?=ω/\i%2=(if b then 0 else 1)| b,[],h=>by trivial| true,y::r,h=>(by rcases PT with rfl | h;exact#[0,rfl,rfl];obtain⟨i,h1,h2⟩:=vC h;exact#[i+1,by assumption,by lia])| false,y::r,h=>by obtain⟨i,h1,h2⟩:=vC (b:=tj) h;exact#[i+1,by assumption,by lia]
theorem Ju {l:xat}(hn:l.Nodup)(b:Bool)(k:Nat):(WT b l).count k<=1:=by(have hs:∀(b:Bool) (l:xat),(WT b l).Sublist l:=by intro b l;induction l generalizing b with| nil=>cases b<;>simp[WT]| cons x r ih =>cases b;exact List.Sublist.cons _ (ih tj);exact List.Sublist.cons_cons _ (ih fh));exact xh.mp (hn.sublist (hs b l)) k
def Y6 (N:WD)(a k b:Nat):Prop:=∃p,N.ends[k]?=ϕ/\((p.1=a/\p.2=b)\/(p.2=a/\p.1=b))
def yd (N:WD):Nat->xat->Nat->Prop| e,[],f=>e=f| e,k::r,f=>∃b,Y6 N e k b/\yd N b r f
noncomputable def one (c:Prop) [Decidable c]:Int:=if c then 1 else 0
theorem zeO (W:N.WF)(h:Y6 N a k b):(match N.ends[k]? with | some p=>if inc p x then 1 else 0| none=>0)=one (x=a)+one (x=b):=by obtain⟨p,e,h⟩:=h;have hw:=W.lo k p e;have ne:p.1≠p.2:=cG (hZ hw.1 hw.2.1);(have bE:(if inc p x then(1:Int)else 0)=one (x=p.1)+one (x=p.2):=by unfold inc one;by_cases h1:x=p.1;subst h1;simp[ne];by_cases h2:x=p.2;subst h2;simp[Ne.symm ne];simp[h1,h2,Ne.symm h1,Ne.symm h2]);rw[e];rcases h with ⟨rfl,rfl⟩ | ⟨rfl,rfl⟩;exact bE;rw[Int.add_comm];exact bE
theorem chain_count {N:WD}(W:N.WF){f x:Nat}:∀{way:xat} {e:Nat},yd N e way f->Wb N.ends x (WT tj way)-Wb N.ends x (WT fh way)=one (x=e)+(if way.length%2=0 then-one (x=f)else one (x=f))| [],e,h=>by have h':e=f:=h;grind[WT,Wb]| k::r,e,h=>by obtain⟨b,t,c⟩:=h;have ih:=chain_count W (x:=x) c;have hi:=zeO W (x:=x) t;show((match N.ends[k]? with | some p=>if inc p x then 1 else 0| none=>0)+Wb N.ends x (WT fh r))-Wb N.ends x (WT tj r)=_;(have o:(k::r).length%2=0↔¬r.length%2=0:=by rw[fO];lia);rw[hi];by_cases c:r.length%2=0;rw['-'] at ih;rw[S9 λz=>o.mp z c];lia;rw[Cx] at ih;rw[Ta (o.mpr c)];lia
structure Flow (N:WD)(a8 ad ac:xam):Prop where
 ls:ad.length=N.ends.length
 lc:a8.length=N.nE
 lp:ac.length=N.nE
 nn:∀(k:Nat) s,ad[k]?=ϫ->0<=s
 eq:∀(e:Nat) c s,a8[e]?=ϛ->ac[e]?=ϫ->s=c-[Ko,ad,e]
 sp:∀(e:Nat) s,ac[e]?=ϫ->0<=s
def Go (N:WD)(ad:xam)(a k:Nat):Prop:=a<N.G\/∃s,ad[k]?=ϫ/\0<s
noncomputable def Lv (aa:xam) (e:Nat):Int:=aa.getD e (-1)
structure Xz (N:WD)(aa ad:xam)(es way:xat):Prop where
 len:es.length=way.length+1
 link:∀(i:Nat) k,way[i]?=Q8->∃a b,es[i]?=Ϸ/\es[i+1]?=SW/\Y6 N a k b/\Go N ad a k/\Lv aa b=Lv aa a+1
theorem CO {N:WD}:∀{way es:xat} {g f:Nat},es.length=way.length+1->es[0]?=se g->es[way.length]?=se f->(∀(i:Nat) k,way[i]?=Q8->∃a b,es[i]?=Ϸ/\es[i+1]?=SW/\Y6 N a k b)->yd N g way f| [],es,g,f,_,h0,h1,_=>by have mJ:es[0]?=se f:=h1;rw[h0] at mJ;exact dU mJ| k::r,[],g,f,hl,_,_,_=>by trivial| k::r,e::es,g,f,hl,h0,h1,h=>by obtain⟨a,b,ea,eb,t⟩:=h 0 k rfl;(have e1:=by simpa using h0);(have e2:=by simpa using ea);subst e1 e2;refine#[b,t,CO (by exact lh hl) (by assumption) (by assumption) λi k' hk=>?_];obtain⟨a',b',ea',eb',t'⟩:=h (i+1) k' (by assumption);exact#[a',b',by assumption,by assumption,t']
theorem Xz.lev (P:Xz N aa ad es way)(h0:es[0]?=se g):∀{i e:Nat},es[i]?=se e->Lv aa e=Lv aa g+i| 0,e,h=>ε| i+1,e,h=>by have hi:='l'.1;(have hw:i<way.length:=by have:=P.len;simp_all);obtain⟨a,b,ea,eb,_,_,hl⟩:=P.link i way[i] (aV hw);have:=P.lev h0 ea;lia
theorem Y6.side (W:N.WF)(t:Y6 N a k b):(a<N.G↔¬b<N.G):=by obtain⟨p,e,h⟩:=t;have:=W.lo k p e;lia
theorem Xz.side (W:N.WF)(P:Xz N aa ad es way)(h0:es[0]?=se g)(hg:g<N.G):∀{i e:Nat},es[i]?=se e->(e<N.G↔i%2=0)| 0,e,h=>ε| i+1,e,h=>by have hi:='l'.1;(have hw:i<way.length:=by have:=P.len;simp_all);obtain⟨a,b,ea,eb,t,_,_⟩:=P.link i way[i] (aV hw);have h1:=P.side W h0 hg ea;have h2:=t.side W;lia
theorem Xz.nodup {N:WD}{aa ad:xam}{es way:xat}(P:Xz N aa ad es way):way.Nodup:=by cases h0:es[0]? with| none =>have:=P.len;rw[w6] at h0;simp_all| some g =>rw[List.Nodup,rL];intro i j hi hj hij e;obtain⟨a,b,ea,eb,⟨p,ep,hp⟩,_,l1⟩:=P.link i way[i] (aV hi);obtain⟨c,d,ec,ed,⟨q,eq,hq⟩,_,l2⟩:=P.link j way[j] (aV hj);rw[<-e,ep] at eq;cases eq;have v1:=P.lev h0 ea;have v2:=P.lev h0 ec;rcases hp with ⟨rfl,rfl⟩ | ⟨rfl,rfl⟩<;>rcases hq with ⟨rfl,rfl⟩ | ⟨rfl,rfl⟩<;>lia
theorem Xz.lt (P:Xz N aa ad es way)(h:k∈way):k<N.ends.length:=by obtain⟨i,hi⟩:=bH h;obtain⟨a,b,_,_,⟨p,ep,_⟩,_,_⟩:=P.link i k hi;grind
noncomputable def Ws (a:Int) (ad:xam) (way:xat):xam:=Vh (-a) (Vh a ad (WT tj way)) (WT fh way)
theorem ye (a:Int)(ad:xam)(way:xat):(Ws a ad way).length=ad.length:=by unfold Ws;rw[VR,VR]
theorem zbd (W:N.WF)(P:Xz N aa ad es way)(h0:es[0]?=se g)(h1:es[way.length]?=se f)(hg:g<N.G)(hf:¬f<N.G)(hl:ad.length=N.ends.length)(x:Nat) :[Ko,Ws a ad way,x]=[Ko,ad,x]+a*(one (x=g)+one (x=f)):=by have d:=chain_count W (x:=x) (CO P.len h0 h1 λi k hk=>let #[a,b,e1,e2,t,_]:=P.link i k hk;#[a,b,e1,e2,t]);(have hodd:=by have:=P.side W h0 hg h1;lia);unfold Ws;rw[yb (by rwa [VR]) (λk hk=>P.lt (ZY hk)),yb hl (λk hk=>P.lt (ZY hk))];grind
theorem CQ (h:ad[k]?=ϫ):(Ws a ad way)[k]?=se (s+a*((WT tj way).count k)-a*((WT fh way).count k)):=by unfold Ws;rw[CN (CN h),Int.neg_mul];rfl
theorem Flow.send (W:N.WF)(F:Flow N a8 ad ac)(P:Xz N aa ad es way)(h0:es[0]?=se g)(h1:es[way.length]?=se f)(hg:g<N.G)(hf:¬f<N.G) (hx:ac[g]?=ω) (hy:ac[f]?=Ϫ) (ha:0<=a) (hax:a<=x) (hay:a<=y) (hb:∀k∈WT fh way,∀s,ad[k]?=ϫ->a<=s):Flow N a8 (Ws a ad way) ((ac.set g (x-a)).set f (y-a)):=by(have dB:g≠f:=by lia);have mG:g<ac.length:='r'.1;have hfl:f<ac.length:=(aQ.mp hy).1;refine#[by rw[ye];exact F.ls,F.lc,by simpa using F.lp,λk s' h=>?_,λe c s' hc h=>?_,λe s' h=>?_];(have hk:k<ad.length:=by grind[ye]);have hs:ad[k]?=se ad[k]:=aV hk;rw[CQ hs] at h;cases h;have n0:=F.nn k _ hs;have c1:0<=a*((WT tj way).count k):=jq ha (AP _);by_cases hm:k∈WT fh way;have hq:=hb k hm _ hs;have h2:=Ju P.nodup fh k;grind;grind;rw[zbd W P h0 h1 hg hf F.ls];by_cases e1:e=f;subst e1;rw[fD ε] at h;cases h;have:=F.eq e c y hc hy;simp[one,Ne.symm dB];lia;rw[[LX,e1]] at h;by_cases e2:e=g;subst e2;rw[fD mG] at h;cases h;have:=F.eq e c x hc hx;grind[one];rw[[LX,e2]] at h;have:=F.eq e c s' hc h;grind[one];by_cases e1:e=f;grind;rw[[LX,e1]] at h;by_cases e2:e=g;grind;rw[[LX,e2]] at h;exact F.sp e s' h
structure xaH (N:WD)(ad ac aa:xam):Prop where
 len:aa.length=N.nE
 zero:∀e,Lv aa e=0->e<N.G/\∃x,ac[e]?=ω/\0<x
 aJ:∀(g:Nat) x,g<N.G->ac[g]?=ω->0<x->Lv aa g=0
 pred:∀e,1<=Lv aa e->∃a k,Y6 N a k e/\Go N ad a k/\Lv aa a+1=Lv aa e
def UM (N:WD)(ac:xam)(e:Nat):Prop:=N.G<=e/\∃x,ac[e]?=ω/\0<x
def Jx (N:WD)(ad aa:xam):Prop:=∀a k b,Y6 N a k b->Go N ad a k->0<=Lv aa a->0<=Lv aa b
def Y8 (N:WD)(ad aa:xam)(a k b:Nat):Prop:=Y6 N a k b/\Go N ad a k/\Lv aa b=Lv aa a+1
def Z0 (N:WD)(ac ai:xam)(e:Nat):Prop:=¬UM N ac e/\∃l,N.bG[e]?=tx/\ai[e]?=se (l.length:Int)
def YG (N:WD)(ad ac aa ai:xam):Prop:=∀(e:Nat) l (j:Nat) k t,N.bG[e]?=tx->l[j]?=Q8->ai[e]?=se t->(j:Int)<t->∀b,Y8 N ad aa e k b->Z0 N ac ai b
theorem Y6.mem (W:N.WF)(t:Y6 N a k b)(h:N.bG[a]?=tx):k∈l:=by obtain⟨p,e,q⟩:=t;refine(W.mem a l k h).mpr #[p,e,?_];lia
theorem YG.next (W:N.WF)(D:YG N ad ac aa ai)(x:Z0 N ac ai a)(h:Y8 N ad aa a k b):Z0 N ac ai b:=by obtain⟨_,l,h1,h2⟩:=x;obtain⟨j,hj⟩:=bH (h.1.mem W h1);have jh:='Z'.1;exact D a l j k _ h1 hj h2 ε b h
theorem YG.all (W:N.WF)(S:xaH N ad ac aa)(D:YG N ad ac aa ai)(h:∀g,Lv aa g=0->Z0 N ac ai g):∀(d:Nat) e,Lv aa e=d->Z0 N ac ai e:=by intro d;induction d with| zero =>rintro e he;exact h e (by assumption)| succ d ih =>rintro e he;obtain⟨a,k,t,g,l⟩:=S.pred e (NAG.gl62 he);exact D.next W (ih a (by simp_all)) #[t,g,by exact l.symm]
theorem xaH.least (S:xaH N ad ac aa)(T:Nat->Prop)(h1:∀g x,g<N.G->ac[g]?=ω->0<x->T g)(h2:∀a k b,Y6 N a k b->Go N ad a k->T a->T b):∀(d:Nat) e,Lv aa e=d->T e:=by intro d;induction d with| zero =>rintro e he;obtain⟨hg,x,hx,h0⟩:=S.zero e (by assumption);simp_all| succ d ih =>rintro e he;obtain⟨a,k,t,g,l⟩:=S.pred e (NAG.gl62 he);exact h2 a k e t g (ih a (by simp_all))
theorem Y6.symm (t:Y6 N a k b):Y6 N b k a:=by obtain⟨p,e,h⟩:=t;exact#[p,e,h.symm.imp (λz=>#[z.2,z.1]) (λz=>#[z.2,z.1])]
structure Rows (N:WD)(ad ac:xam)(d:Nat)(row:xat)(aa:xam):Prop where
 st:xaH N ad ac aa
 row:∀e,e∈row↔Lv aa e=d
 top:∀e,Lv aa e<=d
 exp:∀a k b,Y6 N a k b->Go N ad a k->0<=Lv aa a->Lv aa a<d->0<=Lv aa b
 dry:∀e,0<=Lv aa e->Lv aa e<d->¬UM N ac e
structure aZ (N:WD)(ad:xam)(d:Nat)(row:xat)(au:xam)(done:Nat->Nat->Prop)(aa:xam)(ar:xat):Prop where
 len:aa.length=au.length
 old:∀e,0<=Lv au e->Lv aa e=Lv au e
 new:∀e,Lv au e<0->(Lv aa e=d+1/\e∈ar/\∃a k,a∈row/\Y6 N a k e/\Go N ad a k)\/(Lv aa e<0/\e∉ar)
 beh:∀e∈ar,Lv au e<0
 cl:∀a k b,done a k->Y6 N a k b->Go N ad a k->0<=Lv aa b
theorem xa9 (h:i<aa.length):Lv (aa.set i v) e=if e=i then v else Lv aa e:=by unfold Lv;grind
theorem aZ.start:aZ N ad d row au (λ_ _=>False) au [] :=#[rfl,λ_ _=>rfl,λe h=>.inr #[h,by simp],λe h=>ε,λ_ _ _ h=>h.elim]
theorem aZ.weak (B:aZ N ad d row au P aa ar)(h:∀a k,Q a k->P a k):aZ N ad d row au Q aa ar :=#[B.len,B.old,B.new,B.beh,λa k b q=>B.cl a k b (h a k q)]
theorem aZ.skip (W:N.WF)(B:aZ N ad d row au P aa ar)(t:Y6 N a k b)(h:0<=Lv aa b\/¬Go N ad a k) :aZ N ad d row au (λx y=>P x y\/(x=a/\y=k)) aa ar:=by refine#[B.len,B.old,B.new,B.beh,λx y z q t' g=>?_];rcases q with q | ⟨rfl,rfl⟩;exact B.cl x y z q t' g;(have e:z=b:=by obtain⟨p,e1,h1⟩:=t;obtain⟨p',e2,h2⟩:=t';lia);simp_all
theorem aZ.mark (W:N.WF)(B:aZ N ad d row au P aa ar)(t:Y6 N a k b)(g:Go N ad a k)(ha:a∈row)(hb:Lv aa b<0)(hl:b<aa.length) :aZ N ad d row au (λx y=>P x y\/(x=a/\y=k)) (aa.set b (d+1)) (ar++[b]):=by(have hb0:Lv au b<0:=by rcases g9 (Lv au b) 0 with z | z;exact z;have:=B.old b z;simp_all);refine#[by simpa using B.len,λe he=>?_,λe he=>?_,λe he=>?_,λx y z q t' g'=>?_];rw[xa9 hl,S9 (by lia)];exact B.old e he;(.rw[xa9 hl];by_cases e1:e=b;grind;.rcases B.new e he with ⟨h1,h2,h3⟩ | ⟨h1,h2⟩;all_goals grind);rcases dh.mp he with he | he;exact B.beh e he;simp_all;rw[xa9 hl];split;exact NAG.gl60;rcases q with q | ⟨rfl,rfl⟩;exact B.cl x y z q t' g';exfalso;obtain⟨p,e1,h1⟩:=t;obtain⟨p',e2,h2⟩:=t';lia
theorem Rows.next {row:xat}(R:Rows N ad ac d row au)(B:aZ N ad d row au (λa _=>a∈row) aa ar)(hd:∀e∈row,¬UM N ac e):Rows N ad ac (d+1) ar aa:=by(have up:∀e,0<=Lv aa e->0<=Lv au e\/(Lv aa e=d+1/\e∈ar/\∃a k,a∈row/\Y6 N a k e/\Go N ad a k):=λe he=>by rcases g9 (Lv au e) 0 with z | z;rcases B.new e z with h | ⟨h,_⟩;exact .inr h;lia;simp_all);refine#[#[by rw[B.len];exact R.st.len,λe he=>?_,λg x hg hx h0=>?_,λe he=>?_],λe=>#[λhe=>?_,λhe=>?_],λe=>?_,λa k b t g h0 h1=>?_,λe h0 h1=>?_];rcases up e ε with z | ⟨z,_⟩;exact R.st.zero e (by rwa [<-B.old e z]);lia;have:=R.st.aJ g x hg hx h0;rwa [B.old g ε];rcases up e (by exact cE he)with z | ⟨z,_,a,k,ha,t,g⟩;obtain⟨a,k,t,g,l⟩:=R.st.pred e (by rwa [<-B.old e z]);have h1:=B.old e z;have h2:=B.old a (by lia);grind;have h1:=(R.row a).mp ha;have h2:=B.old a ε;grind;(.rcases B.new e (B.beh e he)with ⟨h,_⟩ | ⟨_,h⟩;all_goals lia);push_cast at he;rcases up e (NAG.gl99 he)with z | ⟨_,z,_⟩;have:=B.old e z;have:=R.top e;lia;exact z;rcases g9 (Lv aa e) 0 with z | z;lia;rcases up e z with z' | ⟨z',_⟩;have:=B.old e z';have:=R.top e;lia;simp_all;rcases up a h0 with z | ⟨z,_⟩;have h2:=B.old a z;rcases g9 (Lv aa a) d with h3 | h3;have:=R.exp a k b t g z ε;have:=B.old b this;simp_all;exact B.cl a k b ((R.row a).mpr (NAG.gl98 h3 h1 h2)) t g;simp_all;rcases up e h0 with z | ⟨z,_⟩;have h2:=B.old e z;rcases g9 (Lv aa e) d with h3 | h3;exact R.dry e z ε;exact hd e ((R.row e).mpr (NAG.gl98 h3 h1 h2));simp_all
noncomputable def unr (aa:xam):Nat:=aa.countP λs=>decide (s<0)
structure Tr (N:WD)(ai:xam):Prop where
 len:ai.length=N.nE
 ok:∀(e:Nat) l t,N.bG[e]?=tx->ai[e]?=se t->0<=t/\t<=l.length
theorem Xi {l:xam}(h:b≠e):(l.set e v)[b]?=l[b]?:=[LX,h]
theorem Z0.keep (x:Z0 N ac ai b)(h1:N.bG[e]?=tx)(h2:ai[e]?=se t)(h3:t<l.length):Z0 N ac (ai.set e v) b:=by obtain⟨n,l',h4,h5⟩:=x;refine#[n,l',h4,?_];grind
theorem YG.step (D:YG N ad ac aa ai){t k:Nat}(h1:N.bG[e]?=tx)(h2:ai[e]?=se (t:Int))(h3:l[t]?=Q8) (h:∀b,Y8 N ad aa e k b->Z0 N ac ai b):YG N ad ac aa (ai.set e (t+1)):=by have hl:=(aQ.mp h3).1;intro e' l' j k' t' g1 g2 g3 g4 b L;have kp:Z0 N ac ai b->Z0 N ac (ai.set e (t+1)) b:=λx=>x.keep h1 h2 ε;by_cases q:e'=e;subst q;rw[h1] at g1;cases g1;rw[fD (aQ.mp h2).1] at g3;cases g3;by_cases q:j=t;simp_all;exact kp (D e' l j k' t h1 g2 h2 (by lia) b L);rw[Xi q] at g3;exact kp (D e' l' j k' t' g1 g2 g3 g4 b L)
theorem Tr.step (T:Tr N ai){t:Nat}(h1:N.bG[e]?=tx)(h2:ai[e]?=se (t:Int))(h3:t<l.length):Tr N (ai.set e (t+1)):=by refine#[by simpa using T.len,λe' l' t' g1 g2=>?_];by_cases q:e'=e;grind;rw[Xi q] at g2;exact T.ok e' l' t' g1 g2
noncomputable def pot:xag->xam->Nat| l::r,t::q=>(l.length-t.toNat)+pot r q| _,_=>0
theorem xay:∀{bG:xag} {ai:xam} {e:Nat} {l:xat} {t:Nat},bG[e]?=tx->ai[e]?=se (t:Int)->t<l.length->pot bG (ai.set e ((t:Int)+1))+1=pot bG ai| [],_,_,_,_,h,_,_=>by trivial| _::_,[],_,_,_,_,h,_=>by trivial| l::r,x::q,0,l',t,h1,h2,h3=>by simp at h1 h2;subst h1 h2;simp only[u0,pot];lia| l::r,x::q,e+1,l',t,h1,h2,h3=>by have ih:=xay (bG:=r) (ai:=q) (e:=e) (l:=l') (t:=t) (by assumption) (by assumption) h3;simp only[qH,pot];lia
theorem lv_top:∀aa,∃B:Nat,∀e,Lv aa e<=B:=by intro r;induction r with| nil =>exact#[0,λe=>by simp[Lv]]| cons x r ih =>obtain⟨B,h⟩:=ih;refine#[B+x.toNat,λe=>?_];cases e with| zero=>simp[Lv];lia| succ e =>have:=h e;grind[Lv]
structure Walk (N:WD)(ad ac aa:xam)(g:Nat)(ai:xam)(es way:xat):Prop where
 tr:Tr N ai
 dead:YG N ad ac aa ai
 path:es≠[]->Xz N aa ad es way/\es[0]?=se g
 none:es=[]->way=[]/\Z0 N ac ai g
 on:∀(i:Nat) k e,way[i]?=Q8->es[i]?=se e->¬UM N ac e/\∃l t,N.bG[e]?=tx/\ai[e]?=se ((t:Nat):Int)/\l[t]?=Q8
theorem Y6.uniq (W:N.WF)(t:Y6 N a k b)(t':Y6 N a k c):b=c:=by obtain⟨p,e1,h1⟩:=t;obtain⟨p',e2,h2⟩:=t';lia
theorem Xz.inj (P:Xz N aa ad es way)(h0:es[0]?=se g){i j e:Nat}(h1:es[i]?=se e)(h2:es[j]?=se e):i=j:=by have a:=P.lev h0 h1;have b:=P.lev h0 h2;lia
theorem Walk.skip (w:Walk N ad ac aa g ai es way){t k:Nat}(he:es.getLast?=se e)(h1:N.bG[e]?=tx)(h2:ai[e]?=se (t:Int))(h3:l[t]?=Q8) (h:∀b,¬Y8 N ad aa e k b):Walk N ad ac aa g (ai.set e (t+1)) es way:=by(have dB:es≠[]:=by grind);obtain⟨P,h0⟩:=Qb;refine#[w.tr.step h1 h2 (aQ.mp h3).1,w.dead.step h1 h2 h3 λb L=>absurd L (h b),w.path,λq=>absurd q dB,λi k' e' hk hi=>?_];obtain⟨n,l',t',g1,g2,g3⟩:=w.on i k' e' hk hi;refine#[n,l',t',g1,?_,g3];(have dJ:=by rw[qE] at he;have:=P.len;rw[show es.length-1=way.length by simp_all] at he;exact he);rwa [Xi (by rintro rfl;have:=P.inj h0 hi dJ;simp_all)]
theorem Walk.push (w:Walk N ad ac aa g ai es way){t k:Nat}(he:es.getLast?=se e)(h1:N.bG[e]?=tx)(h2:ai[e]?=se (t:Int))(h3:l[t]?=Q8) (h:Y8 N ad aa e k b) (hr:¬UM N ac e):Walk N ad ac aa g ai (es++[b]) (way++[k]):=by(have dB:es≠[]:=by rintro rfl;trivial);obtain⟨P,h0⟩:=Qb;(have dJ:=by rw[qE] at he;have:=P.len;rw[show es.length-1=way.length by simp_all] at he;exact he);refine#[w.tr,w.dead,λ_=>#[#[by simp[P.len],λi k' hk=>?_],?_],λq=>absurd q (by simp),λi k' e' hk hi=>?_];rcases oZ i way.length with q | q | q;rw[iN q] at hk;obtain⟨a,c,ea,ec,r⟩:=P.link i k' hk;have:=P.len;exact#[a,c,by rwa [iN (NAG.gl107 q this)],by rwa [iN ε],r];subst q;simp at hk;subst hk;have:=P.len;refine#[e,b,by rwa [iN ε],?_,h.1,h.2.1,h.2.2];rw[hU ε,show way.length+1-es.length=0 by simp_all];rfl;rw[hU (by exact fF q)] at hk;rw[gf (by exact NAG.gl112 q)] at hk;cases hk;rwa [iN (fM.mpr dB)];rcases oZ i way.length with q | q | q;rw[iN q] at hk;have:=P.len;rw[iN (NAG.gl107 q this)] at hi;exact w.on i k' e' hk hi;subst q;simp at hk;subst hk;have:=P.len;rw[iN ε,dJ] at hi;cases hi;exact#[hr,l,t,h1,h2,h3];rw[hU (by exact fF q)] at hk;rw[gf (by exact NAG.gl112 q)] at hk;cases hk
theorem Walk.pop (W:N.WF)(w:Walk N ad ac aa g ai es way)(rD:es.getLast?=se e)(he:es.dropLast.getLast?=se f)(h1:N.bG[e]?=tx)(h2:ai[e]?=se (l.length:Int)) (hr:¬UM N ac e):∃(t:Nat) (l':xat),N.bG[f]?=se l'/\ai[f]?=se (t:Int)/\t<l'.length/\Walk N ad ac aa g (ai.set f (t+1)) es.dropLast way.dropLast:=by(have dB:es≠[]:=by rintro rfl;trivial);obtain⟨P,h0⟩:=Qb;have pl:=P.len;(have dJ:=by rw[qE] at rD;rw[show es.length-1=way.length by simp_all] at rD;exact rD);(have hd:es.dropLast.length=way.length:=by simp;simp_all);(have uq:0<way.length:=by rcases qM way.length with z | z;rw[z] at hd;rw[oQ.mp hd] at he;trivial;exact z);(have hf:=by rw[qE,hd] at he;rw[oR,Ta ε] at he;exact he);obtain⟨k,hk⟩:∃k,way[way.length-1]?=Q8:=#[_,aV (NAG.gl113 uq)];obtain⟨a,b,ea,eb,t,gg,lv⟩:=P.link _ k hk;rw[hf] at ea;cases ea;rw[show way.length-1+1=way.length by lia,dJ] at eb;cases eb;obtain⟨n,l',t',g1,g2,g3⟩:=w.on _ k f hk hf;have iD:=(aQ.mp g3).1;refine#[t',l',g1,g2,iD,w.tr.step g1 g2 iD,w.dead.step g1 g2 g3 λb L=>?_,λ_=>#[#[by simp;lia,λi k' cP=>?_],?_],λq=>?_,λi k' e' cP hi=>?_];have:=t.uniq W L.1;subst this;exact#[hr,l,h1,h2];rw[oR] at cP;split at cP;obtain⟨a,c,ea,ec,r⟩:=P.link i k' cP;exact#[a,c,by rwa [oR,Ta (by lia)],by rwa [oR,Ta (by lia)],r];cases cP;rwa [oR,Ta ε];simp_all;rw[oR] at cP hi;split at cP;rw[Ta ε] at hi;obtain⟨n',l2,t2,q1,q2,q3⟩:=w.on i k' e' cP hi;refine#[n',l2,t2,q1,?_,q3];rwa [Xi (by rintro rfl;have:=P.inj h0 hi hf;simp_all)];cases cP
theorem Walk.fin (w:Walk N ad ac aa g ai es way)(rD:es.getLast?=se e)(he:es.dropLast=[])(h1:N.bG[e]?=tx)(h2:ai[e]?=se (l.length:Int)) (hr:¬UM N ac e):way=[]/\Walk N ad ac aa g ai [] []:=by(have dB:es≠[]:=by grind);obtain⟨P,h0⟩:=Qb;have pl:=P.len;(have hl:es.length=1:=by have:=congrArg rW he;grind);have hw:way=[]:=oQ.mp ε;(have hg:e=g:=by grind);subst hg;exact#[hw,w.tr,w.dead,λq=>[Oq,q],λ_=>#[rfl,hr,l,h1,h2],λi k e' hk=>by trivial]
theorem Walk.short (w:Walk N ad ac aa g ai es way)(hg:Lv aa g=0){B:Nat}(hB:∀e,Lv aa e<=B):es.length<=B+1:=by by_cases dB:es=[];simp_all;obtain⟨P,h0⟩:=Qb;have kF:=fM.mpr dB;have h:=P.lev h0 (aV (NAG.gl113 kF));grind
noncomputable def wm (B:Nat) (bG:xag) (ai:xam) (es:xat):Nat:=if es=[]then 0 else pot bG ai*(B+3)+(B+2-es.length)+1
theorem Jy {x:α}{way:ϐ}(h:x∈WT fh way):∃i,way[i]?=ω/\i%2=1:=by obtain⟨i,h1,h2⟩:=vC h;exact#[i,h1,by assumption]
theorem Jz {x:α}{way:ϐ}(h:x∈WT tj way):∃i,way[i]?=ω/\i%2=0:=by obtain⟨i,h1,h2⟩:=vC h;exact#[i,h1,by assumption]
theorem Xz.back (W:N.WF)(P:Xz N aa ad es way)(h0:es[0]?=se g)(hg:g<N.G)(h:k∈WT fh way):∃s,ad[k]?=ϫ/\0<s:=by obtain⟨i,hk,hi⟩:=Jy h;obtain⟨a,b,ea,eb,t,go,_⟩:=P.link i k hk;have:=P.side W h0 hg ea;rcases go with go | go;simp_all;exact go
theorem Y8.before (W:N.WF)(P:Xz N aa ad es way)(h0:es[0]?=se g)(hg:g<N.G)(hx:0<=x)(hl:ad.length=N.ends.length)(L:Y8 N (Ws x ad way) aa a k b):Y8 N ad aa a k b:=by obtain⟨t,go,lv⟩:=L;refine#[t,?_,lv];rcases go with go | ⟨s',h1,h2⟩;exact .inl go;by_cases ha:a<N.G;exact .inl ha;(have hk:=by have:='4'.1;rwa [ye] at this);have hs:=aV hk;refine .inr #[_,hs,?_];rw[CQ hs] at h1;have c2:0<=x*((WT fh way).count k):=jq hx (AP _);by_cases hm:k∈WT tj way;exfalso;obtain⟨i,cP,hi⟩:=Jz hm;obtain⟨c,d,ec,ed,t',_,lv'⟩:=P.link i k cP;have hc:=(P.side W h0 hg ec).mpr hi;obtain⟨p,e1,q1⟩:=t;obtain⟨p',e2,q2⟩:=t';lia;grind
theorem UM.le (h:∀(e:Nat) x y,ac[e]?=ω->aq[e]?=Ϫ->y<=x)(hl:ac.length=aq.length)(r:UM N aq e):UM N ac e:=by obtain⟨h1,y,h2,h3⟩:=r;(have he:e<ac.length:=by grind);have hx:=aV he;have:=h e _ _ hx h2;exact#[h1,_,hx,by exact qC h3 this]
theorem YG.send (W:N.WF)(P:Xz N aa ad es way)(h0:es[0]?=se g)(hg:g<N.G)(hx:0<=x)(hl:ad.length=N.ends.length) (h:∀(e:Nat) x y,ac[e]?=ω->aq[e]?=Ϫ->y<=x) (mK:ac.length=aq.length) (D:YG N ad ac aa ai):YG N (Ws x ad way) aq aa ai:=by intro e l j k t h1 h2 h3 h4 b L;obtain⟨n,r⟩:=D e l j k t h1 h2 h3 h4 b (L.before W P h0 hg hx hl);exact#[λq=>n (q.le h mK),r]
theorem sum_set:∀{l:xam} {i:Nat} {x v:Int},l[i]?=ω->(l.set i v).sum=l.sum+v-x| [],_,_,_,h=>by trivial| y::r,0,x,v,h=>by simp at h;subst h;simp only[u0,cq];lia| y::r,i+1,x,v,h=>by have ih:=sum_set (l:=r) (i:=i) (x:=x) (v:=v) (by assumption);simp only[qH,cq,ih];lia
theorem xas:∀{l:xam},(∀(i:Nat) x,l[i]?=ω->0<=x)->0<=l.sum| [],_=>by simp| y::r,h=>by have h0:=h 0 y rfl;have ih:=xas λi x hx=>h (i+1) x (by assumption);simp only[cq];lia
structure Sent (N:WD)(a8:xam)(ad ac:xam)(way:xat)(g f:Nat)(a:Int)(aq:xam):Prop where
 flow:Flow N a8 (Ws a ad way) aq
 le:∀(e:Nat) x y,ac[e]?=ω->aq[e]?=Ϫ->y<=x
 sum:aq.sum=ac.sum-2*a
theorem Flow.ad (W:N.WF){a8 aa ad ac:xam}(F:Flow N a8 ad ac)(P:Xz N aa ad es way)(h0:es[0]?=se g)(h1:es[way.length]?=se f)(hg:g<N.G)(hf:¬f<N.G) (hx:ac[g]?=ω) (hy:ac[f]?=Ϫ) (ha:0<=a) (hax:a<=x) (hay:a<=y) (hb:∀k∈WT fh way,∀s,ad[k]?=ϫ->a<=s):Sent N a8 ad ac way g f a ((ac.set g (x-a)).set f (y-a)):=by refine#[F.send W P h0 h1 hg hf hx hy ha hax hay hb,λe u v hu hv=>?_,?_];by_cases e1:e=f;subst e1;rw[fD (by simpa using (aQ.mp hy).1)] at hv;cases hv;rw[hy] at hu;cases hu;exact NAG.gl94 ha;rw[Xi e1] at hv;by_cases e2:e=g;subst e2;rw[fD 'r'.1] at hv;cases hv;rw[hx] at hu;cases hu;exact NAG.gl94 ha;rw[Xi e2,hu] at hv;simp_all;rw[sum_set (by rwa [Xi (by lia)]),sum_set hx];lia
structure YA (N:WD)(a8 aa aB ao:xam)(done:xat)(ad ac ai:xam):Prop where
 flow:Flow N a8 ad ac
 tr:Tr N ai
 dead:YG N ad ac aa ai
 le:∀(e:Nat) x y,ao[e]?=ω->ac[e]?=Ϫ->y<=x
 prog:(ad=aB/\ac=ao/\∀g∈done,Z0 N ac ai g)\/ac.sum<ao.sum
theorem YA.walked (p:YA N a8 aa aB ao done ad ac ai)(T:Tr N ak)(D:YG N ad ac aa ak)(h:∀b,Z0 N ac ai b->Z0 N ac ak b) :YA N a8 aa aB ao done ad ac ak :=#[p.flow,T,D,p.le,p.prog.imp (λ#[a,b,c]=>#[a,b,λg hg=>h g (c g hg)]) id]
theorem YA.ad (W:N.WF){a8 aa aB ao ad ac ai aq:xam}(p:YA N a8 aa aB ao done ad ac ai)(P:Xz N aa ad es way)(h0:es[0]?=se g)(hg:g<N.G)(ha:0<a) (S:Sent N a8 ad ac way g f a aq):YA N a8 aa aB ao done (Ws a ad way) aq ai:=by(have hl:ac.length=aq.length:=by rw[p.flow.lp,S.flow.lp]);refine#[S.flow,p.tr,p.dead.send W P h0 hg (cE ha) p.flow.ls S.le hl,λe x y hx hy=>?_,.inr ?_];(have he:e<ac.length:=by grind);have hz:=aV he;have h1:=p.le e _ _ hx hz;have h2:=S.le e _ _ hz hy;exact NAG.gl66 h2 h1;have:=S.sum;rcases p.prog with ⟨_,rfl,_⟩ | q;lia;lia
theorem YA.one {a8 aa aB ao ad ac ai:xam}(p:YA N a8 aa aB ao done ad ac ai)(h:Z0 N ac ai g\/ac.sum<ao.sum):YA N a8 aa aB ao (done++[g]) ad ac ai:=by refine#[p.flow,p.tr,p.dead,p.le,?_];rcases p.prog with ⟨a,b,c⟩ | q;all_goals grind
theorem YA.less (W:N.WF){a8 aa aB ao ad ac ai:xam}(p:YA N a8 aa aB ao done ad ac ai)(S:xaH N aB ao aa)(hd:∀g,Lv aa g=0->g∈done)(he:0<=Lv aa e)(hr:UM N ao e):ac.sum<ao.sum:=by rcases p.prog with ⟨rfl,rfl,c⟩ | q;exact absurd hr (YG.all W S p.dead (λg hg=>c g (hd g hg)) (Lv aa e).toNat e (NAG.gl29 he)).1;exact q
structure Wj (N:WD)(a8 ad ac aa:xam):Prop where
 flow:Flow N a8 ad ac
 st:xaH N ad ac aa
 cl:Jx N ad aa
 dry:∀e,0<=Lv aa e->¬UM N ac e
theorem Rows.done {row:xat}(R:Rows N ad ac d row aa)(F:Flow N a8 ad ac)(h:row=[]\/∃e∈row,UM N ac e)(hd:∀e,0<=Lv aa e->¬UM N ac e):Wj N a8 ad ac aa:=by(have hr:row=[]:=by rcases h with h | ⟨e,he,hr⟩;exact h;exact absurd hr (hd e (by rw[(R.row e).mp he];simp_all)));refine#[F,R.st,λa k b t g h0=>?_,hd];have h1:=R.top a;(have h2:Lv aa a≠d:=λq=>by have:=(R.row a).mpr q;simp_all);exact R.exp a k b t g h0 (by lia)
noncomputable def nr (aa:xam) (e:Nat):Bool:=decide (0<=Lv aa e)
noncomputable def upTo (f:Nat->Int):Nat->Int| 0=>0| n+1=>[ut,f]+f n
theorem Xg (f g:Nat->Int):∀n,[ut,λe=>f e+g e]=[ut,f]+[ut,g]:=by intro n;induction n with| zero =>exact rfl| succ n ih =>simp only[upTo,ih];lia
theorem UD:∀n,[ut,λ_=>0]=0:=by intro n;induction n with| zero =>exact rfl| succ n ih =>simp[upTo,ih]
theorem Xf (a:Nat)(v:Int):∀n,[ut,λe=>if e=a then v else 0]=if a<n then v else 0:=by intro n;induction n with| zero =>exact rfl| succ n ih =>simp only[upTo,ih];lia
theorem Tx:∀{n},(∀e<n,f e=g e)->[ut,f]=[ut,g]:=by intro n;induction n with| zero =>rintro _;exact rfl| succ n ih =>rintro h;simp only[upTo];rw[ih λe he=>h e (by exact fE he),h n (by simp_all)]
theorem Zb {S:Nat->Bool}{n:Nat}:∀{ends:xak} {ad:xam},(∀p∈ends,p.1≠p.2/\p.1<n/\p.2<n)->ad.length=ends.length->[ut,λe=>if S e then load ends ad e else 0]=((ends.zip ad).map λq=>(if S q.1.1 then q.2 else 0)+(if S q.1.2 then q.2 else 0)).sum:=by intro ends;induction ends with| nil=>(intro ad _ hl;cases ad with| nil=>simp[load,UD]| cons _ _=>cases hl)| cons p r ih=>intro ad h hl;cases ad with| nil=>cases hl| cons s q =>have ih:=ih (λx hx=>h x (a7 _ hx)) (by exact lh hl);obtain⟨h1,h2,h3⟩:=h p aR;(have e:(λe=>if S e then load (p::r) (s::q) e else 0)=λe=>((if e=p.1 then (if S p.1 then s else 0) else 0)+(if e=p.2 then (if S p.2 then s else 0) else 0))+(if S e then load r q e else 0):=by funext e;simp only[load,inc];by_cases a:e=p.1;subst a;by_cases c:S p.1=tj<;>simp[c,h1];by_cases b:e=p.2;subst b;by_cases c:S p.2=tj<;>simp[c,a];have a':¬p.1=e:=λz=>a z.symm;have b':¬p.2=e:=λz=>b z.symm;simp_all);rw[e,Xg,Xg,ih,Xf,Xf,Ta h2,Ta h3];rfl
theorem jR {f g:α->Int}:∀{l:List α},(∀x∈l,f x=g x)->'>'.sum='N'.sum:=by intro r;induction r with| nil =>rintro _;exact rfl| cons x r ih =>rintro h;simp only[bz,cq];rw[h x aR,ih λy hy=>h y (a7 _ hy)]
theorem ZJ:∀{α:Type} {xs:List α} {ys:xam},ys.length=xs.length->((xs.zip ys).map λq=>q.2).sum=ys.sum| _,[],[],_=>rfl| _,[],_::_,h=>by simp at h| _,_::_,[],h=>by simp at h| _,x::r,y::q,h=>by have ih:=ZJ (by simpa using h);simp_all
theorem Wj.bound (W:N.WF)(D:Wj N a8 ad ac aa) :ad.sum=upTo (λe=>if(if e<N.G then ! nr aa e else nr aa e)then a8.getD e 0 else 0) N.nE:=by(have hw:∀p∈N.ends,p.1≠p.2/\p.1<N.nE/\p.2<N.nE:=λp hp=>by obtain⟨k,hk⟩:=bH hp;have:=W.lo k p hk;exact NAG.gl104 this);(have h1:upTo (λe=>if(if e<N.G then ! nr aa e else nr aa e)then a8.getD e 0 else 0) N.nE=upTo (λe=>if(if e<N.G then ! nr aa e else nr aa e)then[Ko,ad,e]else 0) N.nE:=by refine Tx λe he=>?_;by_cases c:(if e<N.G then ! nr aa e else nr aa e)=tj;rw['-','-'];have hc:a8[e]?=se (a8[e]'(by rwa [D.flow.lc])):=aV _;have hs:ac[e]?=se (ac[e]'(by rwa [D.flow.lp])):=aV _;have q:=D.flow.eq e _ _ hc hs;have n0:=D.flow.sp e _ hs;(have hz:(ac[e]'(by grind))=0:=by by_cases hg:e<N.G;rw[Ta hg] at c;(have c':=by simpa [nr] using c);rcases g9 0 (ac[e]'(by grind))with z | z;have:=D.st.aJ e _ hg hs z;simp_all;exact NAG.gl61 n0 z;rw[S9 hg] at c;rcases g9 0 (ac[e]'(by grind))with z | z;exact absurd #[ε,_,hs,z] (D.dry e (by simpa [nr] using c));exact NAG.gl61 n0 z);grind;simp[*]);rw[h1,Zb hw D.flow.ls,<-ZJ D.flow.ls];refine jR λq hq=>?_;obtain⟨k,hk⟩:=Rk;obtain⟨p,s⟩:=q;obtain⟨hp,hs⟩:=Nh;have kH:=W.lo k p hp;have n0:=D.flow.nn k s hs;have t:Y6 N p.1 k p.2:=#[p,hp,.inl #[rfl,rfl]];have c1:=D.cl p.1 k p.2 t (.inl kH.1);have c2:=λh z=>D.cl p.2 k p.1 t.symm (.inr #[s,hs,z]) h;simp only[kH.1,by lia,if_true,if_false,nr];lia
theorem o8 {f g:α->Int}:∀{l:List α},(∀x∈l,f x<=g x)->'>'.sum<='N'.sum:=by intro r;induction r with| nil =>rintro _;simp| cons x r ih =>rintro h;have:=ih λy hy=>h y (a7 _ hy);grind
theorem ze3 {f g:α->Int}:∀{l:List α},(∀x∈l,f x<=g x)->'N'.sum<='>'.sum->∀x∈l,f x=g x:=by intro r;induction r with| nil =>rintro _ _;exact λ_ h=>by simp_all| cons x r ih =>rintro h e;have h0:=h x aR;have hr:=λy hy=>h y (a7 _ hy);have h1:=o8 hr;simp only[bz,cq] at e;have ih:=ih hr (NAG.gl65 e h0);grind
theorem jv:∀{n},(∀e<n,f e<=g e)->[ut,f]<=[ut,g]| 0,_=>lT| n+1,h=>by have:=jv λe he=>h e (by exact fE he);have:=h n ε;simp only[upTo];lia
theorem nV:∀{n},(∀e<n,f e<=g e)->[ut,g]<=[ut,f]->∀e<n,f e=g e:=by intro n;induction n with| zero =>rintro _ _;exact λe he=>by simp_all| succ n ih =>rintro h q;have h0:∀e<n,f e<=g e:=λe he=>h e (by exact fE he);have h1:=jv h0;have h2:=h n (by simp_all);simp only[upTo] at q;have ih:=ih h0 (by lia);grind
noncomputable def side (N:WD) (S:Nat->Bool) (e:Nat):Bool:=if e<N.G then ! S e else S e
noncomputable def bnd (N:WD) (a8:xam) (S:Nat->Bool):Int:=upTo (λe=>if side N S e then a8.getD e 0 else 0) N.nE
theorem Flow.load_le {a8 ad ac:xam}(F:Flow N a8 ad ac)(he:e<N.nE):[Ko,ad,e]<=a8.getD e 0/\([My,e]=a8.getD e 0-[Ko,ad,e]):=by have hc:a8[e]?=se (a8[e]'(by rwa [F.lc])):=aV _;have hs:ac[e]?=se (ac[e]'(by rwa [F.lp])):=aV _;have q:=F.eq e _ _ hc hs;have n0:=F.sp e _ hs;grind
theorem WD.WF.two {N:WD}(W:N.WF):∀p∈N.ends,p.1≠p.2/\p.1<N.nE/\p.2<N.nE:=λp hp=>by obtain⟨k,hk⟩:=bH hp;have:=W.lo k p hk;exact NAG.gl104 this
theorem Wj.bnd (W:N.WF)(D:Wj N a8 ad ac aa):ad.sum=bnd N a8 (nr aa):=D.bound W
theorem Wj.aj (D:Wj N a8 ad ac aa):∀a k b,Y6 N a k b->a<N.G->nr aa a=tj->nr aa b=tj:=λa k b t hg h =>Tc (D.cl a k b t (.inl hg) (Td h))
theorem Wj.sub (D:Wj N a8 ad ac aa){S:Nat->Bool}(h1:∀g x,g<N.G->ac[g]?=ω->0<x->S g=tj)(h2:∀a k b,Y6 N a k b->Go N ad a k->S a=tj->S b=tj)(h:nr aa e=tj):S e=tj:=by have h':=Td h;exact D.st.least (λe=>S e=tj) h1 h2 (Lv aa e).toNat e (NAG.gl29 h')
noncomputable def Vs (f:Nat->Int) (S:Nat->Bool) (n:Nat):Int:=[ut,λe=>if S e then f e else 0]
theorem ze4 (h:∀e<n,S e=tj->f e<=g e):Vs f S n<=Vs g S n:=jv λe he=>by grind
theorem yf (h:∀e<n,S e=tj->f e=g e):Vs f S n=Vs g S n:=Tx λe he=>ε
theorem yg (W:N.WF)(F:Flow N a8 ad ac)(S T:Nat->Bool)(hS:∀e,S e=tj->e<N.G)(hT:∀e,T e=tj->¬e<N.G) :Vs (load N.ends ad) S N.nE=('e'.map λq=>if S q.1.1 then q.2 else 0).sum/\Vs (load N.ends ad) T N.nE=('e'.map λq=>if T q.1.2 then q.2 else 0).sum:=by constructor;unfold Vs;rw[Zb W.two F.ls];refine jR λq hq=>?_;obtain⟨k,hk⟩:=Rk;obtain⟨p,s⟩:=q;obtain⟨hp,_⟩:=Nh;have:=W.lo k p hp;grind;unfold Vs;rw[Zb W.two F.ls];refine jR λq hq=>?_;obtain⟨k,hk⟩:=Rk;obtain⟨p,s⟩:=q;obtain⟨hp,_⟩:=Nh;have:=W.lo k p hp;grind
theorem Wj.full (W:N.WF)(D:Wj N a8 ad ac aa)(he:e<N.nE)(h:(e<N.G/\nr aa e=fh)\/(¬e<N.G/\nr aa e=tj)):[Ko,ad,e]=a8.getD e 0:=by have q:='F'.2;have hs:ac[e]?=se (ac[e]'(by rwa [D.flow.lp])):=aV _;have n0:=D.flow.sp e _ hs;(have hg:[My,e]=ac[e]'(by grind):=by simp[*]);(have hz:¬0<(ac[e]'(by grind)):=λz=>by rcases h with ⟨h1,h2⟩ | ⟨h1,h2⟩;have:=D.st.aJ e _ h1 hs z;have:=of_decide_eq_false h2;simp_all;exact D.dry e (Td h2) #[ε,_,hs,z]);lia
theorem Wj.none_sent (W:N.WF)(D:Wj N a8 ad ac aa){k:Nat}(hp:N.ends[k]?=ϕ)(hs:ad[k]?=ϫ)(h1:nr aa p.1=fh)(h2:nr aa p.2=tj):s=0:=by have n0:=D.flow.nn k s hs;rcases g9 0 s with z | z;have:=D.cl p.2 k p.1 #[p,hp,.inr #[rfl,rfl]] (.inr #[s,hs,z]) (Td h2);have:=of_decide_eq_false h1;trivial;exact NAG.gl61 n0 z
theorem Wj.hi (W:N.WF)(D:Wj N a8 ad ac aa)(S T:Nat->Bool)(hS:∀e,S e=tj->e<N.G/\nr aa e=fh)(hT:∀e,T e=tj->¬e<N.G) (h:∀(k:Nat) p,N.ends[k]?=ϕ->S p.1=tj->nr aa p.2=fh->T p.2=tj):Vs (λe=>a8.getD e 0) S N.nE<=Vs (λe=>a8.getD e 0) T N.nE:=by obtain⟨l1,l2⟩:=yg W D.flow S T (λe he=>(hS e he).1) hT;rw[yf λe he c=>(D.full W he (.inl (hS e c))).symm,l1];refine hK ?_ (ze4 λe he _=>'F'.1);rw[l2];refine o8 λq hq=>?_;obtain⟨k,hk⟩:=Rk;obtain⟨p,s⟩:=q;obtain⟨hp,hs⟩:=Nh;have n0:=D.flow.nn k s hs;by_cases a:S p.1=tj;rcases rF (nr aa p.2)with z | z;have:=D.none_sent W hp hs (hS _ a).2 z;simp_all;grind;lia
theorem Wj.lo (W:N.WF)(D:Wj N a8 ad ac aa)(S T:Nat->Bool)(hS:∀e,S e=tj->e<N.G)(hT:∀e,T e=tj->¬e<N.G/\nr aa e=tj) (h:∀(k:Nat) p,N.ends[k]?=ϕ->nr aa p.1=tj->T p.2=tj->S p.1=tj) (dB:∃e,e<N.nE/\T e=tj):Vs (λe=>a8.getD e 0) T N.nE<Vs (λe=>a8.getD e 0) S N.nE:=by obtain⟨l1,l2⟩:=yg W D.flow S T hS (λe he=>(hT e he).1);have e1:=yf λe he c=>(D.full W he (.inr (hT e c))).symm;(have mR:∀e<N.nE,(if S e then[Ko,ad,e]else 0)<=(if S e then a8.getD e 0 else 0):=λe he=>by by_cases c:S e=tj;simp only[c,if_true];exact 'F'.1;simp[c]);have e2:Vs (load N.ends ad) S N.nE<=Vs (λe=>a8.getD e 0) S N.nE:=jv mR;(have tm:∀q∈'e',(if T q.1.2 then q.2 else 0)<=(if S q.1.1 then q.2 else 0):=λq hq=>by obtain⟨k,hk⟩:=Rk;obtain⟨p,s⟩:=q;obtain⟨hp,hs⟩:=Nh;have n0:=D.flow.nn k s hs;by_cases b:T p.2=tj;rcases rF (nr aa p.1)with z | z;have:=h k p hp z b;simp[b,this];have:=D.none_sent W hp hs z (hT _ b).2;subst this;simp;by_cases a:S p.1=tj<;>simp[a,b]<;>assumption);have e3:=o8 tm;rw[<-l1,<-l2] at e3;rcases g9 (Vs (λe=>a8.getD e 0) T N.nE) (Vs (λe=>a8.getD e 0) S N.nE)with z | z;exact z;exfalso;have q1:=nV mR (by show Vs _ S _<=Vs _ S _;lia);have q2:=ze3 tm (by rw[<-l1,<-l2];lia);obtain⟨t,ht,hTt⟩:=dB;have sub:=D.sub (S:=λe=>nr aa e&&! S e&&! T e) (λg x hg hx h0=>?_) (λa k b tie go ha=>?_) (hT t hTt).2;simp[hTt] at sub;have n:nr aa g=tj:=Tc (by rw[D.st.aJ g x hg hx h0];exact lT);(have mG:=by have:=W.gle;exact NAG.gl56 hg this);(have nT:T g=fh:=by rcases rF (T g)with z | z;exact absurd hg (hT g z).1;exact z);(have nS:S g=fh:=by rcases rF (S g)with z | z;have:=q1 g mG;simp only[z,if_true] at this;have w:=(D.flow.load_le mG).2;(have:[My,g]=x:=by simp[hW,hx]);simp_all;exact z);simp[n,nT,nS];simp only[cC,kR] at ha ⊢;obtain⟨⟨a1,a2⟩,a3⟩:=ha;have nb:=Tc (D.cl a k b tie go (Td a1));obtain⟨p,hp,q⟩:=tie;have kH:=W.lo k p hp;refine#[#[nb,?_],?_];rcases rF (S b)with z | z;exfalso;have hb:=hS b z;(have qy:p.2=a/\p.1=b:=by rcases q with ⟨q1,q2⟩ | q;lia;exact q);rcases go with go | ⟨s,hs,h0⟩;lia;have hm:(p,s)∈'e':=[LV,#[hp,hs]];have:=q2 _ hm;simp_all;exact z;grind
theorem JC (W:N.WF)(F:Flow N a8 ad ac):Vs (load N.ends ad) (λe=>decide (e<N.G)) N.nE=ad.sum/\Vs (load N.ends ad) (λe=>[JH,e<N.G]) N.nE=ad.sum:=by obtain⟨l1,l2⟩:=yg W F (λe=>decide (e<N.G)) (λe=>[JH,e<N.G]) (λe h=>Td h) (λe h=>by simpa using h);(have c1:('e'.map λq=>if(decide (q.1.1<N.G))=tj then q.2 else 0).sum=ad.sum:=by rw[<-ZJ F.ls];refine jR λq hq=>?_;obtain⟨k,hk⟩:=Rk;obtain⟨p,s⟩:=q;obtain⟨hp,hs⟩:=Nh;have:=W.lo k p hp;simp[this.1]);(have c2:('e'.map λq=>if[JH,q.1.2<N.G]=tj then q.2 else 0).sum=ad.sum:=by rw[<-ZJ F.ls];refine jR λq hq=>?_;obtain⟨k,hk⟩:=Rk;obtain⟨p,s⟩:=q;obtain⟨hp,hs⟩:=Nh;have:=W.lo k p hp;simp_all);simp_all
theorem Wj.far (W:N.WF)(D:Wj N a8 ad ac aa)(hs:Vs (λe=>a8.getD e 0) (λe=>decide (e<N.G)) N.nE<=Vs (λe=>a8.getD e 0) (λe=>[JH,e<N.G]) N.nE) (hn:∃e,nr aa e=tj):∃e,¬e<N.G/\e<N.nE/\nr aa e=fh:=by apply Classical.byContradiction;intro hc;(have kO:∀e,¬e<N.G->e<N.nE->nr aa e=tj:=λe h1 h2=>ε);obtain⟨a1,a2⟩:=JC W D.flow;(have e1:Vs (λe=>a8.getD e 0) (λe=>[JH,e<N.G]) N.nE=ad.sum:=by rw[<-a2];refine yf λe he c=>(D.full W he (.inr #[?_,kO e ?_ he])).symm;all_goals lia);(have le:∀e<N.nE,(if(decide (e<N.G))=tj then[Ko,ad,e]else 0)<=(if(decide (e<N.G))=tj then a8.getD e 0 else 0):=λe he=>by by_cases c:(decide (e<N.G))=tj;simp only[c,if_true];exact 'F'.1;simp[c]);have q:=nV le (by grind[Vs]);obtain⟨e,he⟩:=hn;have hl:=Td he;(have:∀(d:Nat) e,Lv aa e=d->False:=by intro d;induction d with| zero =>intro e h;obtain⟨hg,x,hx,h0⟩:=D.st.zero e (by simpa using h);(have mG:=by have:=W.gle;exact NAG.gl56 hg this);have w:=(D.flow.load_le mG).2;grind| succ d ih =>intro e h;obtain⟨a,k,t,g,l⟩:=D.st.pred e (NAG.gl62 h);simp_all);exact this (Lv aa e).toNat e (NAG.gl29 hl)
theorem zdG (f:Nat->Int):∀n,upTo f (n+1)=f 0+[ut,λe=>f (e+1)]:=by intro n;induction n with| zero =>simp[upTo]| succ n ih =>rw[upTo,ih];simp only[upTo];lia
theorem Xe (f:Nat->Int)(a:Nat):∀b,upTo f (a+b)=upTo f a+upTo (λe=>f (a+e)) b:=by intro b;induction b with| zero =>simp[upTo]| succ b ih =>rw[<-Nat.add_assoc,upTo,ih];simp only[upTo];lia
theorem W9:∀(l:xat),upTo (λe=>φ [IQ,e]) l.length=(l.map φ).sum| []=>rfl| x::r=>by rw[fO,zdG];have ih:=W9 (φ:=φ) r;simp_all
noncomputable def YT (g t:Nat) (aj:xak) (bG:xag):WD:=#[g,g+t,aj.map λp=>(p.1,g+p.2),bG]
theorem yh {A:Nat->Bool}{l:xat}{φ:Nat->Int}(h:∀e<l.length,f e=φ [IQ,e]):Vs f (λe=>decide (e<l.length)&&A [IQ,e]) (l.length+t)=(l.map λc=>if A c then φ c else 0).sum:=by unfold Vs;rw[Xe,<-W9];(have z:upTo (λe=>if(decide (l.length+e<l.length)&&A [IQ,l.length+e])=tj then f (l.length+e)else 0) t=0:=by rw[Tx (g:=λ_=>0) λe he=>by simp[xP.mpr (jP l.length e)],UD]);rw[z,oO];exact Tx λe he=>by simp[he,h e he]
theorem yi {A:Nat->Bool}{l:xat}{φ:Nat->Int}(h:∀e<l.length,f (g+e)=φ [IQ,e]):Vs f (λe=>[JH,e<g]&&A [IQ,e-g]) (g+l.length)=(l.map λc=>if A c then φ c else 0).sum:=by unfold Vs;rw[Xe,<-W9];(have z:upTo (λe=>if([JH,e<g]&&A [IQ,e-g])=tj then f e else 0) g=0:=by refine(Tx λe he=>?_).trans (UD g);simp_all);rw[z,m9];refine Tx λe he=>?_;simp[*]
section
variable {wk:Nat->Int}{dr:Nat->xat}{ah ae:xat}
def xbN (dr:Nat->xat)(ah ae:xat)(aj:xak):Prop:=∀g t:Nat,(g,t)∈aj↔∃c h,ae[g]?=ϛ/\ah[t]?=se h/\h∈dr c
structure Cut (wk:Nat->Int)(dr:Nat->xat)(ah ae:xat)(m W:Int)(nc nh:Nat->Bool):Prop where
 up:∀c∈ae,∀h∈ah,h∈dr c->nc c=tj->ϥ=tj
 hi:∀T:Nat->Bool,(ae.map λc=>if(! nc c&&ah.all λh=>(ϥ||!(dr c).contains h||T h))then RF*m else 0).sum<=(ah.map λh=>if(! ϥ&&T h)then W else 0).sum
 lo:∀T:Nat->Bool,(∃h∈ah,ϥ=tj/\T h=tj)->(ah.map λh=>if(ϥ&&T h)then W else 0).sum<(ae.map λc=>if(nc c&&ah.any λh=>((dr c).contains h&&T h))then RF*m else 0).sum
 far:(∃h∈ah,ϥ=tj)->∃h∈ah,ϥ=fh
theorem UE {l:xat}(h:l[i]?=ω):[IQ,i]=x:=ε
theorem VW {l:xat}(h:i<l.length):l[i]?=se [IQ,i]:=ε
theorem zbW:(∀e<ae.length,(ae.map (λc=>RF*m)++[Jq,W]).getD e 0=wk (ae.getD e 0)*m)/\∀e<ah.length,(ae.map (λc=>RF*m)++[Jq,W]).getD (ae.length+e) 0=W:=by constructor;intro e he;rw[bO,iN ε,bo,VW he];rfl;intro e he;rw[bO,hU (by simp),bq,BJ,nq,Ta he];rfl
theorem cut_of (uL:xbN dr ah ae aj)(WF:[PU,ah.length,aj,bG].WF) (D:Wj [PU,ah.length,aj,bG] (ae.map (λc=>RF*m)++[Jq,W]) ad ac aa) (hc:∀i c,ae[i]?=ϛ->nc c=nr aa i) (hh:∀i h,ah[i]?=se h->ϥ=nr aa (ae.length+i)) (hsum:(ae.map λc=>RF*m).sum=(ah.map λ_=>W).sum):Cut wk dr ah ae m W nc nh:=by obtain⟨cp1,cp2⟩:=zbW;(have tie:∀(k:Nat) p,[PU,ah.length,aj,bG].ends[k]?=ϕ->∃t c h,p.2=ae.length+t/\ae[p.1]?=ϛ/\ah[t]?=se h/\h∈dr c:=λk p hp=>by have d5:(aj.map λp=>(p.1,ae.length+p.2))[k]?=ϕ:=hp;rw[bo] at d5;cases q:aj[k]? with| none=>rw[q] at d5;cases d5| some x =>rw[q] at d5;cases d5;obtain⟨c,h,h1,h2,h3⟩:=(uL x.1 x.2).mp (aM q);exact#[x.2,c,h,rfl,h1,h2,h3]);(have mk:∀g t c h,ae[g]?=ϛ->ah[t]?=se h->h∈dr c->∃k:Nat,[PU,ah.length,aj,bG].ends[k]?=se (g,ae.length+t):=λg t c h h1 h2 h3=>by obtain⟨k,hk⟩:=bH ((uL g t).mpr #[c,h,h1,h2,h3]);refine#[k,?_];show(aj.map λp=>(p.1,ae.length+p.2))[k]?=_;rw[bo,hk];rfl);refine#[λc qq h kJ hd hn=>?_,λT=>?_,λT hT=>?_,λhn=>?_];obtain⟨g,hg⟩:=bH qq;obtain⟨t,ht⟩:=bH kJ;obtain⟨k,hk⟩:=mk g t c h hg ht hd;rw[hh t h ht];refine D.aj g k (ae.length+t) #[_,hk,.inl #[rfl,rfl]] (aQ.mp hg).1 ?_;rwa [<-hc g c hg];have q:=D.hi WF (λe=>decide (e<ae.length)&&(λc=>! nc c&&ah.all λh=>(ϥ||!(dr c).contains h||T h)) (ae.getD e 0)) (λe=>[JH,e<ae.length]&&(λh=>! ϥ&&T h) [LK,e-ae.length]) (λe he=>?_) (λe he=>?_) (λk p hp hS hn=>?_);exact hK (ni (yh (f:=λe=>(ae.map (λc=>RF*m)++[Jq,W]).getD e 0) (t:=ah.length) (φ:=λc=>RF*m) cp1).symm) (hK q (ni (yi (A:=λh=>! ϥ&&T h) (φ:=λ_=>W) cp2)));rw[cC] at he;have h1:=Td he.1;refine#[h1,?_];have h2:=he.2;simp only[cC,kR] at h2;rw[<-hc e _ (VW h1)];exact h2.1;rw[cC] at he;show¬e<ae.length;simpa using he.1;obtain⟨t,c,h,e2,h1,h2,h3⟩:=tie k p hp;rw[cC] at hS;have jD:=hS.2;rw[UE h1] at jD;simp only[cC,iO,rH,kR] at jD;(have nn:ϥ=fh:=by rwa [hh t h h2,<-e2]);(have hT:T h=tj:=by rcases jD.2 h (aM h2)with (z | z) | z;rw[nn] at z;cases z;rw[kY.mpr h3] at z;cases z;exact z);(have kB:p.2-ae.length=t:=ε);show([JH,p.2<ae.length]&&(! nh [LK,p.2-ae.length]&&T [LK,p.2-ae.length]))=tj;rw[kB,UE h2,nn,hT,Tf ε];rfl;have q:=D.lo WF (λe=>decide (e<ae.length)&&(λc=>nc c&&ah.any λh=>((dr c).contains h&&T h)) (ae.getD e 0)) (λe=>[JH,e<ae.length]&&decide (e<ae.length+ah.length)&&(λh=>ϥ&&T h) [LK,e-ae.length]) (λe he=>?_) (λe he=>?_) (λk p hp hn hS=>?_) ?_;(have e2:Vs (λe=>(ae.map (λc=>RF*m)++[Jq,W]).getD e 0) (λe=>[JH,e<ae.length]&&decide (e<ae.length+ah.length)&&(λh=>ϥ&&T h) [LK,e-ae.length]) (ae.length+ah.length)=Vs (λe=>(ae.map (λc=>RF*m)++[Jq,W]).getD e 0) (λe=>[JH,e<ae.length]&&(λh=>ϥ&&T h) [LK,e-ae.length]) (ae.length+ah.length):=by refine Tx λe he=>?_;simp[he]);exact AQ (ni ((yi (A:=λh=>ϥ&&T h) (φ:=λ_=>W) cp2).symm.trans e2.symm)) (qC q (ni (yh (f:=λe=>(ae.map (λc=>RF*m)++[Jq,W]).getD e 0) (A:=λc=>nc c&&ah.any λh=>((dr c).contains h&&T h)) (t:=ah.length) (φ:=λc=>RF*m) cp1)));rw[cC] at he;exact Td he.1;rw[cC,cC] at he;(have h1:¬e<ae.length:=by simpa using he.1.1);have h0:e<ae.length+ah.length:=Td he.1.2;refine#[h1,?_];have h2:=he.2;simp only[cC] at h2;have h3:=hh (e-ae.length) _ (VW (NAG.gl51 h0 h1));rw[show ae.length+(e-ae.length)=e by simp_all] at h3;rw[<-h3];exact h2.1;obtain⟨t,c,h,e2,h1,h2,h3⟩:=tie k p hp;rw[cC] at hS;have jD:=hS.2;(have kB:p.2-ae.length=t:=by simp[*]);rw[kB,UE h2] at jD;simp only[cC] at jD;(have nc1:nc c=tj:=by rwa [hc p.1 c h1]);have an:(ah.any λh=>((dr c).contains h&&T h))=tj:=gU.mpr #[h,aM h2,by rw[kY.mpr h3,jD.2];rfl];simp only[(aQ.mp h1).1,decide_true,Bool.true_and,UE h1,nc1,an];obtain⟨h,h1,h2,h3⟩:=hT;obtain⟨t,ht⟩:=bH h1;have iD:=(aQ.mp ht).1;refine#[ae.length+t,by show _<ae.length+ah.length;simp_all,?_];(have:¬ae.length+t<ae.length:=ε);(have k2:ae.length+t-ae.length=t:=ε);show([JH,ae.length+t<ae.length]&&decide (ae.length+t<ae.length+ah.length)&&(nh [LK,ae.length+t-ae.length]&&T [LK,ae.length+t-ae.length]))=tj;rw[k2,UE ht,h2,h3,Tf this,Tc ε];rfl;obtain⟨h,h1,h2⟩:=hn;obtain⟨t,ht⟩:=bH h1;(have uF:Vs (λe=>(ae.map (λc=>RF*m)++[Jq,W]).getD e 0) (λe=>decide (e<[PU,ah.length,aj,bG].G)) [PU,ah.length,aj,bG].nE<=Vs (λe=>(ae.map (λc=>RF*m)++[Jq,W]).getD e 0) (λe=>[JH,e<[PU,ah.length,aj,bG].G]) [PU,ah.length,aj,bG].nE:=by show Vs _ _ (ae.length+ah.length)<=Vs _ _ (ae.length+ah.length);have g1:=yh (f:=λe=>(ae.map (λc=>RF*m)++[Jq,W]).getD e 0) (A:=λ_=>tj) (t:=ah.length) (φ:=λc=>RF*m) cp1;have g2:=yi (f:=λe=>(ae.map (λc=>RF*m)++[Jq,W]).getD e 0) (A:=λ_=>tj) (φ:=λ_=>W) cp2;simp only[wW,if_true] at g1 g2;have g1':Vs (λe=>(ae.map (λc=>RF*m)++[Jq,W]).getD e 0) (λe=>decide (e<[PU,ah.length,aj,bG].G)) (ae.length+ah.length)=_:=g1;have g2':Vs (λe=>(ae.map (λc=>RF*m)++[Jq,W]).getD e 0) (λe=>[JH,e<[PU,ah.length,aj,bG].G]) (ae.length+ah.length)=_:=g2;rw[g1',g2',hsum];exact lT);obtain⟨e,e1,e2,e3⟩:=D.far WF uF #[ae.length+t,by rwa [<-hh t h ht]];have jy:¬e<ae.length:=e1;have e2':e<ae.length+ah.length:=e2;have hg:=VW (i:=e-ae.length) (NAG.gl51 e2' jy);refine#[_,aM hg,?_];rwa [hh _ _ hg,show ae.length+(e-ae.length)=e by simp_all]
end
abbrev Cr:=List Nat×xat
section
variable (wk:Nat->Int)(dr:Nat->xat)
noncomputable def xbl (c:Cr) (T:Nat->Bool):Int:=(c.2.map λx=>if(c.1.any λh=>('2'.contains h&&T h))then wk x else 0).sum
noncomputable def Yk (c:Cr) (T:Nat->Bool):Int:=(c.2.map λx=>if(c.1.all λh=>(! '2'.contains h||T h))then wk x else 0).sum
noncomputable def cnt (c:Cr) (T:Nat->Bool):Int:=(c.1.map λh=>if T h then 1 else 0).sum
noncomputable def WE (c:Cr):Int:=(c.2.map wk).sum
def Lo (c:Cr)(p q:Int):Prop:=∀T:Nat->Bool,(∃h∈c.1,T h=tj)->p*cnt c T<q*xbl wk dr c T
def Hi (c:Cr)(p q:Int):Prop:=∀T:Nat->Bool,q*Yk wk dr c T<=p*cnt c T
def Above (x y:Cr):Prop:=∃p q:Int,0<q/\Lo wk dr x p q/\Hi wk dr y p q
end
noncomputable def Vg (c:Cr) (nc nh:Nat->Bool):Cr:=(c.1.filter nh,c.2.filter nc)
noncomputable def aY (c:Cr) (nc nh:Nat->Bool):Cr:=(c.1.filter λh=>! ϥ,c.2.filter λx=>! nc x)
theorem qQ {f:Nat->Int}:∀(l:xat),('d'.map f).sum=(l.map λx=>if p x then f x else 0).sum:=by intro r;induction r with| nil =>exact rfl| cons x r ih =>by_cases h:p x=tj;simp[h,ih];simp[h,ih]
theorem Yi (k:Int)(f:Nat->Int):∀(l:xat),k*'>'.sum=(l.map λx=>k*f x).sum:=by intro r;induction r with| nil =>simp| cons x r ih =>simp only[bz,cq,rI,ih]
theorem any_filter (l:xat):('d'.any q)=l.any λh=>(p h&&q h):=by rw[List.any_filter]
theorem all_filter (l:xat):('d'.all q)=l.all λh=>(! p h||q h):=by rw[List.all_filter]
theorem any_congr {l:xat}(h:∀x∈l,p x=q x):l.any p=l.any q:=by grind
theorem all_congr {l:xat}(h:∀x∈l,p x=q x):l.all p=l.all q:=by grind
section
variable {wk:Nat->Int}{dr:Nat->xat}{c:Cr}{m W:Int}{nc nh:Nat->Bool}
theorem CS (T:Nat->Bool):cnt (Vg c nc nh) T=cnt c (λh=>ϥ&&T h):=by unfold cnt Vg;rw[qQ];refine jR λh _=>?_;by_cases a:ϥ=tj<;>simp[a]
theorem CU (T:Nat->Bool):cnt (aY c nc nh) T=cnt c (λh=>! ϥ&&T h):=by unfold cnt aY;rw[qQ];refine jR λh _=>?_;by_cases a:ϥ=tj<;>simp[a]
theorem CV:cnt c (λ_=>tj)=c.1.length:=by(have g:∀l:xat,(l.map λ_=>(1:Int)).sum=l.length:=λl=>by induction l with| nil=>rfl| cons x r ih =>simp only[bz,cq,fO,ih];lia);exact g _
theorem CW (T:Nat->Bool):W*cnt c T=(c.1.map λh=>if T h then W else 0).sum:=by unfold cnt;rw[Yi];refine jR λh _=>?_;by_cases a:T h=tj<;>simp[a]
theorem Cut.touch_near (C:Cut wk dr c.1 c.2 m W nc nh)(T:Nat->Bool):xbl wk dr (Vg c nc nh) T=(c.2.map λx=>if(nc x&&c.1.any λh=>('2'.contains h&&T h))then wk x else 0).sum:=by unfold xbl Vg;rw[qQ];refine jR λx hx=>?_;by_cases a:nc x=tj;(have e:(c.1.filter nh).any (λh=>('2'.contains h&&T h))=c.1.any (λh=>('2'.contains h&&T h)):=by rw[any_filter];refine any_congr λh hh=>?_;by_cases d:'2'.contains h=tj;rw[C.up x hx h hh (kY.mp d) a];rfl;(have d':'2'.contains h=fh:=by simpa using d);rw[d'];simp);rw[a,e];rfl;simp[a]
theorem Cut.lo_near (C:Cut wk dr c.1 c.2 m W nc nh):Lo wk dr (Vg c nc nh) W m:=by intro T hT;obtain⟨h,h1,h2⟩:=hT;have mJ:=h1;obtain⟨h3,h4⟩:=bB.mp mJ;have q:=C.lo T #[h,h3,h4,h2];rw[CS,CW,C.touch_near,Yi];refine qC q (ni (jR λx _=>?_));split<;>simp[hO]
theorem Cut.hi_rest (C:Cut wk dr c.1 c.2 m W nc nh):Hi wk dr (aY c nc nh) W m:=by intro T;have q:=C.hi T;rw[CU,CW];refine hK (ni ?_) q;unfold Yk aY;rw[qQ,Yi];refine jR λx hx=>?_;(have e:(c.1.filter λh=>! ϥ).all (λh=>(! '2'.contains h||T h))=c.1.all (λh=>(ϥ||! '2'.contains h||T h)):=by rw[all_filter];refine all_congr λh _=>?_;by_cases a:ϥ=tj<;>simp[a]);rw[e];by_cases a:nc x=tj;simp[a];(have a':=by simpa using a);by_cases b:c.1.all (λh=>(ϥ||! '2'.contains h||T h))=tj;rw[b,a'];simp[hO];rw[eq_false_of_ne_true b,a'];simp
theorem zcQ (hw:∀x∈c.2,0<=wk x)(T:Nat->Bool):xbl wk dr c T<=WE wk c:=by refine o8 λx hx=>?_;have:=hw x hx;split<;>lia
theorem zaD:Yk wk dr c (λ_=>tj)=WE wk c:=by unfold Yk WE;simp_all
theorem Lo.avg (h:Lo wk dr c p q)(hq:0<q)(dB:c.1≠[])(hw:∀x∈c.2,0<=wk x):p*c.1.length<q*WE wk c:=by obtain⟨x,hx⟩:=List.exists_mem_of_ne_nil _ dB;have:=h (λ_=>tj) #[x,hx,rfl];rw[CV] at this;exact qC this (uO (zcQ hw _) (cE hq))
theorem Hi.avg (h:Hi wk dr c p q):q*WE wk c<=p*c.1.length:=by have:=h (λ_=>tj);rw[CV,zaD] at this;exact this
theorem Cut.lo_rest (C:Cut wk dr c.1 c.2 m W nc nh)(h:Lo wk dr c p q):Lo wk dr (aY c nc nh) p q:=by intro T hT;obtain⟨k,h1,h2⟩:=hT;obtain⟨h3,h4⟩:=bB.mp h1;rw[CU];refine qC (h (λh=>! ϥ&&T h) #[k,h3,by rwa [h4]]) (ni ?_);congr 1;unfold xbl aY;rw[qQ];refine jR λx hx=>?_;by_cases a:nc x=tj;(have e:c.1.any (λh=>('2'.contains h&&(! ϥ&&T h)))=fh:=by rw[u7];intro h hh;by_cases d:'2'.contains h=tj;rw[C.up x hx h hh (kY.mp d) a];simp;simp_all);lia;grind
theorem Cut.hi_near (C:Cut wk dr c.1 c.2 m W nc nh)(hq:0<q)(hw:∀x∈c.2,0<=wk x)(h:Hi wk dr c p q):Hi wk dr (Vg c nc nh) p q:=by intro T;rw[CS];refine hK (uO ?_ (cE hq)) (h (λh=>ϥ&&T h));unfold Yk Vg;rw[qQ];refine o8 λx hx=>?_;have w0:=hw x hx;by_cases a:nc x=tj;(have e:(c.1.filter nh).all (λh=>(! '2'.contains h||T h))=c.1.all (λh=>(! '2'.contains h||(ϥ&&T h))):=by rw[all_filter];refine all_congr λh hh=>?_;by_cases d:'2'.contains h=tj;rw[C.up x hx h hh (kY.mp d) a,d];rfl;simp_all);lia;lia
end
structure Xv (wk:Nat->Int)(dr:Nat->xat)(ag ae:Nat)(L:List Cr):Prop where
 ord:∀(i:Nat) x y,L[i]?=ω->L[i+1]?=Ϫ->Above wk dr x y
 ne:∀c∈L,c.1≠[]
 own:∀c∈L,∀x∈c.2,∃h∈c.1,h∈'2'
 up:∀(i:Nat) c,L[i]?=ϛ->∀x∈c.2,∀h∈'2',∃(j:Nat) (d:Cr),j<=i/\L[j]?=ϩ/\h∈d.1
 hs:∀h:Nat,(L.map λc=>c.1.count h).sum=if h<ag then 1 else 0
 cs:∀x:Nat,(L.map λc=>c.2.count x).sum=if x<ae then 1 else 0
 hr:∀c∈L,c.1.Pairwise (· < ·)
 cr:∀c∈L,c.2.Pairwise (· < ·)
theorem CY {l:xat}(h:Nat):'d'.count h+(l.filter λx=>! p x).count h=l.count h:=by induction l with| nil=>rfl| cons x r ih =>rw[jZ,jZ];by_cases a:p x=tj;simp only[a,if_true,Bool.not_true,wV,if_false,xG];lia;(have a':=by simpa using a);simp only[a',wV,if_false,Bool.not_false,if_true,xG];lia
theorem iP {A B:ϐ}{c:α}(i:Nat):(A++c::B)[i]?=if i<A.length then A[i]? else if i=A.length then ϛ else B[i-A.length-1]?:=by rw[xj];by_cases h:i<A.length;rw[Ta h,Ta h];rw[S9 h,S9 h];by_cases e:i=A.length;subst e;simp;obtain⟨k,rfl⟩:∃k,i=A.length+(k+1):=#[i-A.length-1,by lia];simp
theorem qR (i:Nat):(A++c::d::B)[i]?=if i<A.length then A[i]? else if i=A.length then ϛ else if i=A.length+1 then ϩ else B[i-A.length-2]?:=by rw[iP];split;rfl;split;rfl;split;rename_i h3;subst h3;simp;rw[show i-A.length-1=(i-A.length-2)+1 by lia];simp
theorem Xv.cut (hw:∀x,0<wk x)(K:Xv wk dr ag ae (A++c::B))(C:Cut wk dr c.1 c.2 c.1.length (WE wk c) nc nh)(hn:∃h∈c.1,ϥ=tj) :Xv wk dr ag ae (A++Vg c nc nh::aY c nc nh::B):=by(have hc:c∈A++c::B:=by simp);(have m0:(0:Int)<c.1.length:=by have:=fM.mpr (K.ne c hc);simp_all);(have mem:∀d,d∈A++Vg c nc nh::aY c nc nh::B->d=Vg c nc nh\/d=aY c nc nh\/d∈A++c::B:=λd hd=>by rcases dh.mp hd with h | h;exact .inr (.inr (dh.mpr (.inl h)));rcases PT with h | h;exact .inl h;rcases PT with h | h;exact .inr (.inl h);exact .inr (.inr (dh.mpr (.inr (a7 _ h)))));obtain⟨hf,hf1,hf2⟩:=C.far hn;obtain⟨hh,hh1,hh2⟩:=hn;(have pW:∀x∈c.2,nc x=fh->∃h∈c.1,ϥ=fh/\h∈'2':=λx hx hnx=>by apply Classical.byContradiction;intro hno;have q:=C.hi (λ_=>fh);(have z:(c.1.map λh=>if(! ϥ&&fh)=tj then WE wk c else 0).sum=0:=by(have:(c.1.map λh=>if(! ϥ&&fh)=tj then WE wk c else 0)=c.1.map λ_=>0:=by refine cH λh _=>?_;simp);rw[this];clear this;induction c.1 with| nil=>rfl| cons a r ih=>simp_all);rw[z] at q;have pos:=kX (hw x) m0;(have one:wk x*c.1.length<=(c.2.map λy=>if(! nc y&&c.1.all λh=>(ϥ||!(dr y).contains h||fh))=tj then wk y*c.1.length else 0).sum:=by(have nn:∀y∈c.2,(0:Int)<=(if(! nc y&&c.1.all λh=>(ϥ||!(dr y).contains h||fh))=tj then wk y*c.1.length else 0):=λy _=>by split;exact jq (cE (hw y)) (cE m0);exact lT);(have bG:(if(! nc x&&c.1.all λh=>(ϥ||! '2'.contains h||fh))=tj then wk x*c.1.length else 0)=wk x*c.1.length:=by simp[*]);(have bE:∀(l:xat) (f:Nat->Int),(∀y∈l,0<=f y)->x∈l->f x<='>'.sum:=by intro l f hl hm;induction l with| nil=>simp_all| cons a r ih =>simp only[bz,cq];have ha:=hl a aR;have hr:∀y∈r,0<=f y:=λy hy=>hl y (a7 _ hy);(have hs:0<=(r.map f).sum:=xas λi v hv=>by obtain⟨y,hy,rfl⟩:=aU.mp (aM hv);exact hr y hy);rcases bi.mp hm with rfl | hm;exact NAG.gl74 hs;have:=ih hr hm;exact NAG.gl41 ha this);exact hK (ni bG.symm) (bE c.2 (λy=>if(! nc y&&c.1.all λh=>(ϥ||!(dr y).contains h||fh))=tj then wk y*c.1.length else 0) nn hx));exact NAG.gl70 pos one q);refine#[λi x y hx hy=>?_,λd hd=>?_,λd hd=>?_,λi d hd x hx h kJ=>?_,λh=>?_,λx=>?_,λd hd=>?_,λd hd=>?_];rw[qR] at hx hy;have old:=λi (x y) h1 h2=>K.ord i x y h1 h2;rcases oZ (i+1) A.length with h | h | h;rw[Ta (by exact fF h)] at hx;rw[Ta (by assumption)] at hy;exact old i x y (by rwa [iP,Ta (by exact fF h)]) (by rwa [iP,Ta (by assumption)]);rw[Ta (by exact ve h)] at hx;rw[S9 ε,Ta (by assumption)] at hy;cases hy;obtain⟨p,q,q0,l,u⟩:=old i x c (by rwa [iP,Ta (by exact ve h)]) (by rw[iP,S9 ε,Ta (by assumption)]);exact#[p,q,q0,l,C.hi_near q0 (λx _=>cE (hw x)) u];rcases oZ i A.length with h' | h' | h';lia;rw[S9 ε,Ta h'] at hx;rw[S9 ε,S9 (by exact eG h),Ta (by rw[h'])] at hy;cases hx;cases hy;exact#[WE wk c,c.1.length,m0,C.lo_near,C.hi_rest];rw[S9 (by exact Nat.not_le.mpr h),S9 (by exact eG h')] at hx;rw[S9 (NAG.gl79 h'),S9 (by exact eG h),S9 (NAG.gl71 h')] at hy;by_cases h2:i=A.length+1;rw[Ta h2] at hx;cases hx;obtain⟨p,q,q0,l,u⟩:=old A.length c y (by rw[iP,S9 ε,Nk]) (by rw[iP,S9 ε,S9 ε];rwa [show i+1-A.length-2=A.length+1-A.length-1 by lia] at hy);exact#[p,q,q0,C.lo_rest l,u];rw[S9 h2] at hx;refine old (i-1) x y ?_ ?_;rwa [iP,S9 (NAG.gl77 h'),S9 (NAG.gl78 h' h2),show i-1-A.length-1=i-A.length-2 from NAG.gl75];rwa [iP,S9 (by lia),S9 (by lia),show i-1+1-A.length-1=i+1-A.length-2 by lia];rcases mem d hd with rfl | rfl | h;intro z;have:hh∈(Vg c nc nh).1:=bB.mpr #[hh1,hh2];rw[z] at this;simp_all;intro z;have:hf∈(aY c nc nh).1:=bB.mpr #[hf1,by rw[hf2];rfl];rw[z] at this;simp_all;exact K.ne d h;rcases mem d hd with rfl | rfl | h;intro x hx;obtain⟨h1,h2⟩:='^';obtain⟨h,h3,h4⟩:=K.own c hc x h1;exact#[h,bB.mpr #[h3,C.up x h1 h h3 h4 h2],h4];intro x hx;obtain⟨h1,h2⟩:='^';obtain⟨h,h3,h4,h5⟩:=pW x h1 (by simpa using h2);exact#[h,bB.mpr #[h3,by rw[h4];rfl],h5];exact K.own d h;(have place:∀j d oE,(A++c::B)[j]?=ϩ->h∈d.1->(j<A.length->j<=oE)->(j=A.length->A.length+1<=oE\/(ϥ=tj/\A.length<=oE))->(A.length<j->j+1<=oE)->∃(j:Nat) (d:Cr),j<=oE/\(A++Vg c nc nh::aY c nc nh::B)[j]?=ϩ/\h∈d.1:=by intro j d oE hj kM b1 b2 b3;rw[iP] at hj;rcases oZ j A.length with q | q | q;rw[Ta q] at hj;exact#[j,d,b1 q,by rwa [qR,Ta q],kM];rw[S9 ε,Ta q] at hj;cases hj;by_cases a:ϥ=tj;refine#[A.length,Vg c nc nh,?_,by rw[qR,S9 ε,Nk],bB.mpr #[kM,a]];rcases b2 q with z | z;exact fF z;exact z.2;rcases b2 q with z | z;exact#[A.length+1,aY c nc nh,z,by rw[qR,S9 ε,S9 ε,Nk],bB.mpr #[kM,ε]];exact absurd z.1 a;rw[S9 (NAG.gl72 q),S9 (by exact eG q)] at hj;exact#[j+1,d,b3 q,by rwa [qR,S9 (NAG.gl79 q),S9 (by lia),S9 (NAG.gl71 q),show j+1-A.length-2=j-A.length-1 by lia],kM]);rw[qR] at hd;rcases oZ i A.length with q | q | q;rw[Ta q] at hd;obtain⟨j,e,h1,h2,h3⟩:=K.up i d (by rwa [iP,Ta q]) x hx h kJ;exact place j e i h2 h3 (λ_=>h1) (λz=>(NAG.gl76 q z h1).elim) (λz=>by lia);rw[S9 ε,Ta q] at hd;cases hd;obtain⟨g1,g2⟩:='^';obtain⟨j,e,h1,h2,h3⟩:=K.up i c (by rw[iP,S9 ε,Ta q]) x g1 h kJ;refine place j e i h2 h3 (λ_=>h1) (λz=>.inr #[?_,ε]) (λz=>by lia);rw[iP,S9 ε,LN] at h2;cases h2;exact C.up x g1 h h3 kJ g2;rw[S9 (NAG.gl72 q),S9 (by exact eG q)] at hd;by_cases h2:i=A.length+1;rw[Ta h2] at hd;cases hd;obtain⟨g1,g2⟩:='^';obtain⟨j,e,h1,kD,h3⟩:=K.up A.length c (by rw[iP,S9 ε,Nk]) x g1 h kJ;exact place j e i kD h3 (λ_=>by exact fF (ke h1 q)) (λz=>.inl (by assumption)) (λz=>by exact ke h1 q);rw[S9 h2] at hd;obtain⟨j,e,h1,kD,h3⟩:=K.up (i-1) d (by rwa [iP,S9 (NAG.gl77 q),S9 (NAG.gl78 q h2),show i-1-A.length-1=i-A.length-2 from NAG.gl75]) x hx h kJ;exact place j e i kD h3 (λ_=>by lia) (λz=>.inl (by assumption)) (λz=>by lia);have:=K.hs h;rw[<-this];simp only[dz,bz,kb,cq];have:=CY (p:=nh) (l:=c.1) h;have e1:(Vg c nc nh).1=c.1.filter nh:=rfl;have e2:(aY c nc nh).1=c.1.filter λx=>! nh x:=rfl;rw[e1,e2];exact NAG.gl73 this;have:=K.cs x;rw[<-this];simp only[dz,bz,kb,cq];have:=CY (p:=nc) (l:=c.2) x;have e1:(Vg c nc nh).2=c.2.filter nc:=rfl;have e2:(aY c nc nh).2=c.2.filter λx=>! nc x:=rfl;rw[e1,e2];exact NAG.gl73 this;rcases mem d hd with rfl | rfl | h;exact(K.hr c hc).filter _;exact(K.hr c hc).filter _;exact K.hr d h;rcases mem d hd with rfl | rfl | h;exact(K.cr c hc).filter _;exact(K.cr c hc).filter _;exact K.cr d h
theorem Xv.fall (hw:∀x,0<wk x)(K:Xv wk dr ag ae L)(hx:L[i]?=ω)(hy:L[i+1]?=Ϫ):WE wk y*x.1.length<WE wk x*y.1.length:=by obtain⟨p,q,q0,l,u⟩:=K.ord i x y hx hy;(have x0:(0:Int)<x.1.length:=by have:=fM.mpr (K.ne x R7);simp_all);(have y0:(0:Int)<y.1.length:=by have:=fM.mpr (K.ne y (aM hy));simp_all);have a1:=kS u.avg (cE x0);have a2:=qz (l.avg q0 (K.ne x R7) (λz _=>cE (hw z))) y0;(have a3:q*(WE wk y*x.1.length)<q*(WE wk x*y.1.length):=by lia);simp_all
end NAP
namespace NAL.EX
open PySem PySem.Spec PyProof.Rows
section
end
theorem CZ:∀c k,((aT c).map (λi=>k+2+2*i)).filterMap ((x::y::r)[·]?)=((aT c).map (λi=>k+2*i)).filterMap (r[·]?):=by intro c k;rw[xu,xu];congr 1;grind
theorem yj:∀(xs:List α),((aT ((xs.length+1)/2)).map (λi=>0+2*i)).filterMap (xs[·]?)=NAP.WT tj xs/\((aT (xs.length/2)).map (λi=>1+2*i)).filterMap (xs[·]?)=NAP.WT fh xs| []=>#[by simp[NAP.WT],by simp[NAP.WT]]| [x]=>#[by simp[NAP.WT],by simp[NAP.WT]]| x::y::r=>by obtain⟨h1,h2⟩:=yj r;(have e1:((x::y::r).length+1)/2=(r.length+1)/2+1:=by simp only[fO];lia);(have e2:(x::y::r).length/2=r.length/2+1:=by simp only[fO];exact NAG.gl52);constructor;rw[e1,qF,bz,cD,rO];(have e:((λi=>0+2*i)∘jb)=λi=>0+2+2*i:=by funext i;simp only[Function.comp];lia);rw[e,CZ,h1];rfl;rw[e2,qF,bz,cD,rO];(have e:((λi=>1+2*i)∘jb)=λi=>1+2+2*i:=by funext i;simp only[Function.comp];lia);rw[e,CZ,h2];rfl
section
end
section
end
def XA (t:Bool)(h:TU)(i a:Tn)(k:Nat):Prop:=if t then h.IsTupleIter i a k else h.IsListIter i a k
def SeqAt (t:Bool)(h:TU)(a:Tn)(xs:K3):Prop:=if t then h.IsTuple a xs else h.IsList a xs
theorem XA.at (x:XA t h i a k)(e:∀o,h.get? i=ζ->h'.get? i=ζ):XA t h' i a k:=by cases t;exact Heap.IsListIter.at x e;exact Heap.IsTupleIter.at x e
theorem SeqAt.at (x:SeqAt t h a xs)(e:∀o,'@'=ζ->h'.get? a=ζ):SeqAt t h' a xs:=by cases t;obtain⟨o,ho,r⟩:=x;exact#[o,e _ ho,r];obtain⟨o,ho,r⟩:=x;exact#[o,e _ ho,r]
section
variable {prog:TF}{w:Ud}{A:TC}{E:Value->Tj->Prop}{s:Tj}
theorem za0 (dD:s.heap.IsTupleIter it t i)(ht:s.heap.IsTuple t items)(hx:items[i]?=ω) (hQ:∀h',h'.IsTupleIter it t (i+1)->[OP,it,h']->Q x { s with heap:=h'}):Tv [ϑ,w] A MK Q E s:=by obtain⟨o,ho,hc,hd⟩:=id dD;obtain⟨p,hp,_,n,hdp⟩:=ht;refine Ti (U7 dD.typeIs F.slot_tuple_iterator_next (Vz F.slot_tuple_iterator_next dD.typeIs F.entry_tuple_iterator_next ?_ RV));refine Ti (m:=field II 0) (Uz ho hd rfl ?_);refine Ti (Uz ho hd rfl ?_);refine Ti (Vu hp hdp ?_);simp only[uQ,hx];exact Ti (wpAny_setField ho hd (by simp) (Tq #[x,rfl,Tq (hQ _ #[_,Heap.get?_update_self _ ho (Obj.isFreed_of_fields (Obj.data_mapFields hd _)),(Obj.cls_mapFields ..).trans hc,by rw[Obj.data_mapFields hd];simp[XS]] (Heap.SameBut.update ..))]))
theorem zdD (hh:A.handled=ng)(dD:s.heap.IsTupleIter it t i)(ht:s.heap.IsTuple t items)(hx:items[i]?=ng) (hE:∀h' e,Heap.ExtBut it s.heap h'->(∃o,h'.get? e=ζ/\o.cls=.type "StopIteration")->E LW { s with heap:=h'}):Tv [ϑ,w] A MK Q E s:=by obtain⟨o,ho,hc,hd⟩:=id dD;obtain⟨p,hp,_,n,hdp⟩:=ht;refine Ti (U7 dD.typeIs F.slot_tuple_iterator_next (Vz F.slot_tuple_iterator_next dD.typeIs F.entry_tuple_iterator_next ?_ RV));refine Ti (m:=field II 0) (Uz ho hd rfl ?_);refine Ti (Uz ho hd rfl ?_);refine Ti (Vu hp hdp ?_);simp only[uQ,hx];refine[P8,Ti (wpAny_setField ho hd (by simp) ?_)];refine Ti ?_;refine Ti (Uq ?_ (by size_fits));refine Ti (wpAny_of_eq (by first |rfl|(simp only[firstArgMember])) ?_);refine Uq ?_ (by size_fits);refine Ti (wpAny_handled ?_);(first |rw[show A.in1.handled=ng from hh]|rw[hh]);exact Ti (Tq (wpAny_throw (hE _ _ (((Heap.SameBut.update ..).extBut.push _).push _) #[_,Heap.get?_push_size _ rfl,rfl])))
theorem C3 (dD:XA t s.heap i a k)(hs:[te,t,a,xs])(hx:xs[k]?=ω) (hQ:∀h',XA t h' i a (k+1)->[OP,i,h']->Q x { s with heap:=h'}):Tv [ϑ,w] A [O7,i] Q E s:=by cases t;exact wpAny_nextOf_list_item dD hs hx hQ;exact za0 dD hs hx hQ
theorem C4 (hh:A.handled=ng)(dD:XA t s.heap i a k)(hs:[te,t,a,xs])(hx:xs[k]?=ng) (hE:∀h' e,Heap.ExtBut i s.heap h'->(∃o,h'.get? e=ζ/\o.cls=.type "StopIteration")->E LW { s with heap:=h'}):Tv [ϑ,w] A [O7,i] Q E s:=by cases t;exact wpAny_nextOf_list_end hh dD hs hx hE;exact zdD hh dD hs hx hE
end
abbrev jS (h:TU)(T:Tn)(vs:Ϛ):Prop:=h.get? T=se { cls:=.type "tuple",data:=Me}
noncomputable abbrev xbq (b:Nat) (m:Nat):Ϛ:=(kc 0 m).map λj=>Value.ref (b+j)
abbrev su (h:TU)(e:Tn):Prop:=∃o,h.get? e=ζ/\o.cls=.type "StopIteration"
def Kp (b:Nat)(m:Nat)(c:Nat):Prop:=c<b\/c=b+m\/b+m+2<c
def Kept (b:Nat)(m:Nat)(h h':TU):Prop:=∀(c:Nat) o,Kp b m c->Pu=ζ->Lh=ζ
abbrev l9 (h:TU)(z I O:Tn)(f0:Value)(f1:Bool):Prop:=h.get? z=se { cls:=.type "zip",dict:=ng,data:=.fields ([f0,.bool f1,.bool fh,.ref I,.ref O].toArray),slots:=([].toArray)}
structure ZSt (b:Nat)(aJ:List (Bool×Tn))(k:Nat)(h:TU):Prop where
 zip:∃f0 f1,(f0=.none\/∃t:Nat,f0=XS t)/\l9 h (b+aJ.length+2) (b+aJ.length) (b+aJ.length+1) f0 f1
 cJ:jS h (b+aJ.length) (xbq b aJ.length)
 own:∃old,old.length=aJ.length/\jS h (b+aJ.length+1) old
 it:∀(j:Nat) p,aJ[j]?=ϕ->XA p.1 h (b+j) p.2 k
section
variable {prog:TF}{w:Ud}{A:TC}{E:Value->Tj->Prop}
theorem JJ (hT:jS s.heap T old)(hz:old.length<=sizeLine)(h:∀h',jS h' T (old.set j x)->[OP,T,h']->Q () { s with heap:=h'}) :Tv [ϑ,w] A (updateSeq T (·.setIfInBounds j x)) Q E s:=by refine wpAny_updateSeq hT rfl (h _ ?_ (Heap.SameBut.update ..)) (by assumption) (by simp;exact o4 hz);show Heap.get? _ _=_;rw[Heap.get?_update_self _ hT rfl];simp[Obj.mapSeq]
abbrev zec {β:Type}(prog:TF)(w:Ud)(A:TC)(f:Value×Nat->β->Sem (ForInStep β))(b0:β)(E:Value->Tj->Prop)(b:Nat)(aJ:List (Bool×Tn))(xss:Nat->K3)(k:Nat)(f1:Bool):Prop :=∀(j:Nat) (p:Bool×Tn) (s:Tj) (old:List Value) (Qf:ForInStep β->Tj->Prop),aJ[j]?=ϕ->XA p.1 s.heap (b+j) p.2 k->[te,p.1,p.2,xss j]->old.length=aJ.length->jS s.heap (b+aJ.length+1) old->l9 s.heap (b+aJ.length+2) (b+aJ.length) (b+aJ.length+1) .ellipsis f1->(∀x h',(xss j)[k]?=ω->XA p.1 h' (b+j) p.2 (k+1)->jS h' (b+aJ.length+1) (old.set j x)->(∀(c:Nat) o,c≠b+aJ.length+1->c≠b+j->ff=ζ->Lh=ζ)->h'.objs.size=s.heap.objs.size->Qf (.yield b0) { s with heap:=h'})->((xss j)[k]?=ng->∀h' e,[Q9,b,s.heap,h']->su h' e->E LW { s with heap:=h'})->Tv [ϑ,w] A (f (.ref (b+j),j) b0) Qf E s
theorem zfl {b:Nat}{aJ:List (Bool×Tn)}(aE:∀p∈aJ,p.2<b)(hb:zec prog w A f b0 E b aJ xss k f1) :∀r j,j+r=aJ.length->∀done rest s Q,done.length=j->rest.length=r->jS s.heap (b+aJ.length+1) (done++rest)->l9 s.heap (b+aJ.length+2) (b+aJ.length) (b+aJ.length+1) .ellipsis f1->(∀(i:Nat) p,aJ[i]?=ϕ->XA p.1 s.heap (b+i) p.2 (if i<j then k+1 else k))->(∀i p,aJ[i]?=ϕ->[te,p.1,p.2,Mc])->(∀h' aA,aA.length=r->(∀i:Nat,i<r->(xss (j+i))[k]?=aA[i]?)->jS h' (b+aJ.length+1) (done++aA)->l9 h' (b+aJ.length+2) (b+aJ.length) (b+aJ.length+1) .ellipsis f1->(∀(i:Nat) p,aJ[i]?=ϕ->XA p.1 h' (b+i) p.2 (k+1))->[Q9,b,s.heap,h']->h'.objs.size=s.heap.objs.size->Q b0 { s with heap:=h'})->((∃i:Nat,i<aJ.length/\Mc[k]?=ng)->∀h' e,[Q9,b,s.heap,h']->su h' e->E LW { s with heap:=h'})->Tv [ϑ,w] A (forIn ((kc j r).map λi=>(Value.ref (b+i),i)) b0 f) Q E s:=by intro r;induction r with| zero =>intro j hj done rest s Q hd hr hT hz hi hs hQ hE;show Tv _ _ (forIn [] b0 f) _ _ _;rw[BC];have er:rest = []:=oQ.mp hr;subst er;refine Tq (hQ s.heap [] rfl (λi hi=>absurd hi (l6 _)) hT hz (λi p hp=>?_) (λc o _ e=>e) rfl);have:=(aQ.mp hp).1;have z:=hi i p hp;rwa [Ta (show i<j by simp_all)] at z| succ r ih =>intro j hj done rest s Q hd hr hT hz hi hs hQ hE;cases rest with| nil=>cases hr| cons o rest =>(have jh:j<aJ.length:=by lia);(have hp:aJ[j]?=se aJ[j]:=by simp[jh]);have rE:=aE _ (ka jh);have h1:=hi j _ hp;rw[S9 (o5 _)] at h1;rw[xE,bz,Br];refine Ti (hb j aJ[j] s (done++o::rest) _ hp h1 (hs j _ hp) (by simp only[eE,fO] at hr ⊢;simp[*]) hT hz (λx h' hx i1 t1 kk sz=>?_) (λhx h' e kk st=>hE #[j,jh,hx] h' e kk st));(have eset:(done++o::rest).set j x=(done ++ [x])++rest:=by subst hd;simp);rw[eset] at t1;refine ih (j+1) (by lia) (done ++ [x]) rest { s with heap:=h' } Q (by simp[hd]) (by simpa using hr) t1 (kk _ _ (by simp_all) (by lia) hz) (λi p dX=>?_) (λi p dX=>?_) (λh2 aA vl vx t2 z2 i2 k2 s2=>?_) (λhex h2 e k2 st=>hE hex h2 e (λc o hc g=>k2 c o hc (kk c o (by unfold Kp at hc;lia) (by unfold Kp at hc;lia) g)) st);have mL:=(aQ.mp dX).1;by_cases e:i=j;subst e;rw[Ta (show i<i+1 by simp_all)];rw[hp] at dX;cases dX;exact i1;have z:=(hi i p dX).at λo g=>kk _ _ (by lia) (by simp_all) g;by_cases e2:i<j;rw[Ta e2] at z;rwa [Ta (show i<j+1 by exact fE e2)];rw[S9 e2] at z;rwa [S9 (show ¬i<j+1 by lia)];have mL:=(aQ.mp dX).1;have:=aE p (aM dX);exact(hs i p dX).at λo g=>kk _ _ (cG (hZ this (by lia))) (cG (hZ this (by simp_all))) g;refine hQ h2 (x::aA) (by simp[vl]) (λi i4=>?_) (by simpa using t2) z2 i2 (λc o hc g=>k2 c o hc (kk c o (by unfold Kp at hc;lia) (by unfold Kp at hc;lia) g)) (by rwa [s2]);cases i with| zero=>simpa using hx| succ i =>have:=vx i (by simp_all);rw[show j+(i+1)=j+1+i by lia];simpa using this
end
theorem JM (b m:Nat):(xbq b m).toArray.toList.zipIdx=(kc 0 m).map λi=>(Value.ref (b+i),i):=by apply jY;intro i;by_cases h:i<m;simp[h];simp[h]
section
variable {prog:TF}{w:Ud}{A:TC}{E:Value->Tj->Prop}{s:Tj}
theorem JN (hf:f0=.none\/∃t:Nat,f0=XS t)(hz:l9 s.heap z I O f0 f1) :
  Tv [ϑ,w] A (Builtin.SmallTypes.ownedTupleIsFree (.ref z)) (λr s'=>(r=tj/\s'=s)\/(r=fh/\∃h1 g1,l9 h1 z I O f0 g1/\[OP,z,h1]/\s'={ s with heap:=h1})) E s:=by
 refine Ti (Uz hz rfl rfl ?_);rcases hf with rfl | ⟨t,rfl⟩
 .exact Tq (.inl #[rfl,rfl])
 .refine Ti ?_;have bE:∀o,Tv [ϑ,w] A (if (o:Option UK).isNone=tj then Pure.pure tj else do
    let __do_lift <-field (.ref z) 1
    if (__do_lift != Value.bool tj)=tj then do
     setField (.ref z) 1 (.bool tj)
     Pure.pure fh
    else Pure.pure fh) (λr s'=>(r=tj/\s'=s)\/(r=fh/\∃h1 g1,l9 h1 z I O (XS t) g1/\[OP,z,h1]/\s'={ s with heap:=h1})) E s:=λo=>by
   split
   .exact Tq (.inl #[rfl,rfl])
   .refine Ti (Uz hz rfl rfl ?_)
    split
    .exact Ti (UQ hz (by simp) λh1 z1 s1=>Tq (.inr #[rfl,h1,tj,z1,s1,rfl]))
    .exact Tq (.inr #[rfl,s.heap,f1,hz,Heap.SameBut.refl ..,rfl])
  exactλ_ _ _=>bE (s.heap.get? _)
noncomputable abbrev V9 (vs:Ϛ):UK:={ cls:=.type "tuple",data:=Me}
abbrev ZB:=Option Fin× K3
theorem JO {f:Value->ZB->Sem (ForInStep ZB)}{b:Nat}{aJ:List (Bool×Tn)}{xss:Nat->K3}(aE:∀p∈aJ,p.2<b) (hb:∀(j:Nat) p s items Qf,aJ[j]?=ϕ->XA p.1 s.heap (b+j) p.2 k->[te,p.1,p.2,xss j]->(∀x h',(xss j)[k]?=ω->XA p.1 h' (b+j) p.2 (k+1)->[OP,b+j,h']->Qf (.yield (ng,items.push x)) { s with heap:=h'})->((xss j)[k]?=ng->∀h' e,Heap.ExtBut (b+j) s.heap h'->su h' e->E LW { s with heap:=h'})->Tv [ϑ,w] A (f (.ref (b+j)) (ng,items)) Qf E s) :∀r j,j+r=aJ.length->∀items s Q,(∀(i:Nat) p,aJ[i]?=ϕ->XA p.1 s.heap (b+i) p.2 (if i<j then k+1 else k))->(∀i p,aJ[i]?=ϕ->[te,p.1,p.2,Mc])->(∀h' (aA:List Value),aA.length=r->(∀i:Nat,i<r->(xss (j+i))[k]?=aA[i]?)->(∀(i:Nat) p,aJ[i]?=ϕ->XA p.1 h' (b+i) p.2 (k+1))->(∀c o,c<b\/b+aJ.length<=c->ff=ζ->Lh=ζ)->h'.objs.size=s.heap.objs.size->Q (ng,items++aA.toArray) { s with heap:=h'})->((∃i:Nat,i<aJ.length/\Mc[k]?=ng)->∀h' e,(∀c o,c<b\/b+aJ.length<=c->ff=ζ->Lh=ζ)->su h' e->E LW { s with heap:=h'})->Tv [ϑ,w] A (forIn ((kc j r).map λi=>Value.ref (b+i)) ((ng,items)) f) Q E s:=by intro r;induction r with| zero =>intro j hj items s Q hi hs hQ hE;show Tv _ _ (forIn [] _ f) _ _ _;rw[BC];have:=hQ s.heap [] rfl (λi hi=>absurd hi (l6 _)) (λi p hp=>by have z:=hi i p hp;rwa [Ta (show i<j by have:=(aQ.mp hp).1;simp_all)] at z) (λc o _ e=>e) rfl;exact Tq (by simpa using this)| succ r ih =>intro j hj items s Q hi hs hQ hE;(have jh:j<aJ.length:=by lia);(have hp:aJ[j]?=se aJ[j]:=by simp[jh]);have rE:=aE _ (ka jh);have h1:=hi j _ hp;rw[S9 (o5 _)] at h1;rw[xE,bz,Br];refine Ti (hb j _ s items _ hp h1 (hs j _ hp) (λx h' hx i1 sb=>?_) λhx h' e kk st=>hE #[j,jh,hx] h' e (λc o hc g=>kk _ _ (by lia) g) st);have k1:∀c o,c≠b+j->s.heap.get? c=se o->h'.get? c=se o:=λc o hc g=>sb.extBut _ _ hc g;refine ih (j+1) (by lia) (items.push x) { s with heap:=h' } Q (λi p dX=>?_) (λi p dX=>(hs i p dX).at λo g=>k1 _ _ (by have:=aE p (aM dX);exact cG (by lia)) g) (λh2 aA vl vx i2 k2 s2=>?_) λhex h2 e k2 st=>hE hex h2 e (λc o hc g=>k2 c o hc (k1 _ _ (by lia) g)) st;by_cases e:i=j;subst e;rw[Ta (by simp[*])];rw[hp] at dX;cases dX;exact i1;have z:=(hi i p dX).at λo g=>k1 _ _ (by simp[*]) g;by_cases e2:i<j;rw[Ta e2] at z;rwa [Ta (by exact fE e2)];rw[S9 e2] at z;rwa [S9 (by lia)];have:=hQ h2 (x::aA) (by simp[vl]) (λi i4=>?_) i2 (λc o hc g=>k2 c o hc (k1 _ _ (by lia) g)) (by rw[s2];exact sb.1);simpa using this;cases i with| zero=>simpa using hx| succ i =>have:=vx i (by exact rZ i4);rw[show j+(i+1)=j+1+i by lia];simpa using this
theorem JP {b:Nat}{aJ:List (Bool×Tn)}{xss:Nat->K3}{Q:Value->Tj->Prop}(hh:A.handled=ng)(dB:aJ.length≠0)(hm:aJ.length<=100)(aE:∀p∈aJ,p.2<b)(st:ZSt b aJ k s.heap) (hs:∀i p,aJ[i]?=ϕ->[te,p.1,p.2,Mc]) (hQ:∀h' aA,aA.length=aJ.length->(∀i:Nat,i<aJ.length->Mc[k]?=aA[i]?)->ZSt b aJ (k+1) h'->jS h' s.heap.objs.size aA->h'.objs.size=s.heap.objs.size+1->[Q9,b,s.heap,h']->Q VK { s with heap:=h'}) (hE:(∃i:Nat,i<aJ.length/\Mc[k]?=ng)->∀h' e,[Q9,b,s.heap,h']->su h' e->E LW { s with heap:=h'}) :Tv [ϑ,w] A (Builtin.«zip.__next__» #[[.ref (b+aJ.length+2)],[]]) (λfin s'=>∃v,fin=.done (.ret v)/\Q v s') E s:=by obtain⟨⟨f0,f1,hf,hz⟩,hTI,⟨old,hol,hTO⟩,dD⟩:=st;refine Ti (m:=field (.ref (b+aJ.length+2)) 2) (Uz hz rfl rfl ?_);refine Ti (Uz hz rfl rfl ?_);refine Ti (Vu hTI rfl ?_);show Tv _ _ (if(xbq b aJ.length).toArray.isEmpty=tj then _ else _) _ _ _;rw[S9 (by simp only[List.isEmpty_toArray,List.isEmpty_iff,xbq,List.map_eq_nil_iff,List.range'_eq_nil_iff];exact dB)];refine Ti (UF (JN hf hz) (λr s' hr=>?_) λ_ _ e=>e);rcases hr with ⟨rfl,e⟩ | ⟨rfl,h1,g1,p9,fH,rfl⟩;obtain rfl:=e.symm;simp only[if_true];refine[P8,?_];refine Ti (Uz hz rfl rfl ?_);refine Ti (UQ hz (by simp) λh1 p9 fH=>?_);replace p9:=p9;refine Ti ?_;rw[JM];have k1:∀c o,c≠b+aJ.length+2->ff=ζ->h1.get? c=ζ:=λc o hc e=>fH.extBut _ _ hc e;have kp1:[Q9,b,s.heap,h1]:=λc o hc e=>k1 c o (by unfold Kp at hc;lia) e;refine zfl aE ?_ aJ.length 0 ε [] old { s with heap:=h1} _ rfl hol (k1 _ _ ε hTO) p9 (λi p dX=>?_) (λi p dX=>?_) (λh2 aA vl vx t2 z2 i2 k2 s2=>?_) (λhex h2 e k2 mH=>hE hex h2 e (λc o hc g=>k2 c o hc (kp1 c o hc g)) mH);intro j p s old Qf hp hi hq hl hT hzz i4 he';have jh:=(aQ.mp hp).1;refine Ti (wpAny_onRaise ?_);refine Ti ?_;(cases hx:(xss j)[k]? with| none =>refine C4 hh hi hq hx λh2 e k2 mH=>?_;obtain⟨oe,hoe,hce⟩:=mH;have hz2:=k2 _ _ (show b+aJ.length+2≠b+j by lia) hzz;exact UQ hz2 (by simp) λh3 _ s3=>he' hx h3 e (λc o hc g=>s3.extBut _ _ (show c≠b+aJ.length+2 by unfold Kp at hc;lia) (k2 _ _ (show c≠b+j by unfold Kp at hc;lia) g)) #[oe,s3.extBut _ _ (λx=>by subst x;rw[hz2] at hoe;cases hoe;simp at hce) hoe,hce]| some x =>refine C3 hi hq hx λh2 i2 s2=>Tq ?_;have hT2:=s2.extBut _ _ (show b+aJ.length+1≠b+j by lia) hT;refine Ti (Vu hT2 rfl ?_);refine Ti (JJ hT2 (cf ε (show 100<=sizeLine by decide)) λh3 hT3 s3=>?_);refine Ti (wpAny_letGo (Tq ?_));refine i4 x h3 hx (i2.at λo g=>s3.extBut _ _ (show b+j≠b+aJ.length+1 by lia) g) hT3 (λc o c1 c2 g=>s3.extBut _ _ c1 (s2.extBut _ _ c2 g)) (by rw[s3.1,s2.1]));rw[S9 (l6 i)];have mL:=(aQ.mp dX).1;exact(dD i p dX).at λo g=>k1 _ _ (by lia) g;have:=aE p (aM dX);exact(hs i p dX).at λo g=>k1 _ _ (cG (hZ this (by lia))) g;have t2':=t2;refine Ti (Vu t2' rfl ?_);refine Ti (wpAny_newTuple ?_ (cf (show aA.toArray.toList.length<=100 by rw[Bc];simp_all) (show 100<=sizeLine by decide)));(have jm:h2.objs.size=s.heap.objs.size:=by rw[s2];exact fH.1);refine Ti ?_;unfold Builtin.SmallTypes.ownedTupleHandOut;have lt:=Heap.lt_size z2;refine Ti (UQ (Heap.get?_push_of_some _ z2) (by simp) λh4 z4 s4=>?_);replace z4:=z4;refine UQ z4 (by simp) λh5 z5 s5=>?_;replace z5:=z5;have up:∀c o,c≠b+aJ.length+2->h2.get? c=ζ->h5.get? c=ζ:=λc o c1 g=>s5.extBut _ _ c1 (s4.extBut _ _ c1 (Heap.get?_push_of_some _ g));have tN:=s5.extBut _ _ (show h2.objs.size≠b+aJ.length+2 by exact eG lt) (s4.extBut _ _ (show h2.objs.size≠b+aJ.length+2 by exact eG lt) (Heap.get?_push_size _ rfl));(have sz5:h5.objs.size=h2.objs.size+1:=by rw[s5.1,s4.1,Heap.size_push]);rw[jm] at z5 tN sz5;refine Tq #[_,rfl,?_];show Q (.ref h2.objs.size) _;rw[jm];refine hQ h5 aA vl (λi hi=>by have:=vx i hi;rwa [r4] at this) #[#[_,_,.inr #[_,rfl],z5],up _ _ ε (k2 _ _ (.inr lS) (k1 _ _ ε hTI)),#[aA,vl,up _ _ ε t2'],λj p hp=>(i2 j p hp).at λo g=>up _ _ ?_ g] tN sz5 (λc o hc g=>up c o (by unfold Kp at hc;lia) (k2 c o hc (kp1 c o hc g)));have mL:=(aQ.mp hp).1;lia;simp only[wV,if_false];refine Ti ?_;rw[<-Array.forIn_toList,show(xbq b aJ.length).toArray.toList=(kc 0 aJ.length).map λi=>Value.ref (b+i)from rfl];have k1:∀c o,c≠b+aJ.length+2->ff=ζ->h1.get? c=ζ:=λc o hc e=>fH.extBut _ _ hc e;refine JO aE (λj p s items Qf hp hi hq hQ hE=>?_) aJ.length 0 ε ([].toArray) { s with heap:=h1} _ (λi p dX=>?_) (λi p dX=>?_) (λh2 aA vl vx i2 k2 s2=>?_) λhex h2 e k2 mH=>hE hex h2 e (λc o hc g=>k2 c o (by unfold Kp at hc;lia) (k1 c o (by unfold Kp at hc;lia) g)) mH;refine Ti (UN (Ti ?_));(cases hx:(xss j)[k]? with| none=>exact C4 hh hi hq hx λh2 e k2 mH=>hE hx h2 e k2 mH| some x=>exact C3 hi hq hx λh2 i2 s2=>Tq (Tq (hQ x h2 hx i2 s2)));rw[S9 (l6 i)];have:=(aQ.mp dX).1;exact(dD i p dX).at λo g=>k1 _ _ (by lia) g;have:=aE p (aM dX);exact(hs i p dX).at λo g=>k1 _ _ (cG (by lia)) g;rw[show([].toArray)++aA.toArray=aA.toArray by simp];refine Ti (wpAny_newTuple ?_ (cf (show aA.toArray.toList.length<=100 by rw[Bc];simp_all) (show 100<=sizeLine by decide)));have jm:=s2.trans fH.1;have up:∀c o,h2.get? c=ζ->(h2.push (V9 aA)).get? c=ζ:=λc o g=>Heap.get?_push_of_some _ g;have tN:jS (h2.push (V9 aA)) h2.objs.size aA:=Heap.get?_push_size _ rfl;refine Tq #[_,rfl,?_];show Q (.ref h2.objs.size) { s with heap:=h2.push (V9 aA)};rw[jm] at tN ⊢;exact hQ _ aA vl (λi hi=>by have:=vx i hi;rwa [r4] at this) #[#[f0,g1,hf,up _ _ (k2 _ _ ε p9)],up _ _ (k2 _ _ ε (k1 _ _ ε hTI)),#[old,hol,up _ _ (k2 _ _ ε (k1 _ _ ε hTO))],λj p hp=>(i2 j p hp).at λo g=>up _ _ g] tN (by rw[Heap.size_push,jm]) λc o hc g=>up _ _ (k2 _ _ (by unfold Kp at hc;lia) (k1 _ _ (by unfold Kp at hc;lia) g))
theorem C5 {b:Nat}{aJ:List (Bool×Tn)}{xss:Nat->K3}(hh:A.handled=ng)(dB:aJ.length≠0)(hm:aJ.length<=100)(aE:∀p∈aJ,p.2<b)(st:ZSt b aJ k s.heap) (hs:∀i p,aJ[i]?=ϕ->[te,p.1,p.2,Mc]) (hQ:∀h' aA,aA.length=aJ.length->(∀i:Nat,i<aJ.length->Mc[k]?=aA[i]?)->ZSt b aJ (k+1) h'->jS h' s.heap.objs.size aA->h'.objs.size=s.heap.objs.size+1->[Q9,b,s.heap,h']->Q (se VK) { s with heap:=h'}) (hE:(∃i:Nat,i<aJ.length/\Mc[k]?=ng)->∀h',[Q9,b,s.heap,h']->Q ng { s with heap:=h'}) :Tv [ϑ,w] A (pyNext (.ref (b+aJ.length+2))) Q E s:=by obtain⟨_,_,_,hz⟩:=st.zip;have hT:s.TypeIs (.ref (b+aJ.length+2)) "zip":=#[_,hz,rfl];refine Ti (wpAny_attempt (U7 hT F.slot_zip_next (Vz F.slot_zip_next hT F.entry_zip_next (JP hh dB hm aE st hs (λh' aA a1 a2 a3 a4 a5 a6=>Tq (hQ h' aA a1 a2 a3 a4 a5 a6)) λhex h' e kk mH=>?_) (F.args_zip_next_1 _))));obtain⟨o,ho,hc⟩:=mH;exact Ti (wpAny_isInstance #[o,ho,hc] isSubtype_stop (Tq (hE hex h' kk)))
end
noncomputable abbrev UV (t:Bool) (a:Tn):UK:={ cls:=.type (if t then "tuple_iterator"else "list_iterator"),data:=.fields ([ψ,.int 0 0].toArray)}
noncomputable abbrev xa2 (I O:Tn):UK:={ cls:=.type "zip",data:=.fields ([.none,.bool fh,.bool fh,.ref I,.ref O].toArray)}
section
variable {prog:TF}{w:Ud}{A:TC}{E:Value->Tj->Prop}{s:Tj}
theorem sv (h:[te,t,a,xs])(hQ:Q VK { s with heap:=s.heap.push (UV t a)}):Tv [ϑ,w] A (pyIter ψ) Q E s:=by cases t;exact Uo h hQ;exact wpAny_pyIter_tuple h hQ
end
theorem SeqAt.push (x:SeqAt t h a xs)(o:UK):SeqAt t (h.push o) a xs:=x.at λ_ g=>Heap.get?_push_of_some _ g
noncomputable abbrev z2H (h:TU) (p q:Bool×Tn):TU:=(((([Ql,p.1,p.2].push (UV q.1 q.2)).push (V9 [IH,.ref [Ql,p.1,p.2].objs.size])).push (V9 [.none,.none])).push (xa2 ([Ql,p.1,p.2].push (UV q.1 q.2)).objs.size (([Ql,p.1,p.2].push (UV q.1 q.2)).push (V9 [IH,.ref [Ql,p.1,p.2].objs.size])).objs.size))
noncomputable abbrev z2A (h:TU) (p q:Bool×Tn):Tn:=((([Ql,p.1,p.2].push (UV q.1 q.2)).push (V9 [IH,.ref [Ql,p.1,p.2].objs.size])).push (V9 [.none,.none])).objs.size
theorem JQ (p q:Bool×Tn)(xs ys:K3) :Meets (Builtin.«zip.__new__» #[[.type "zip",.ref p.2,.ref q.2],[]]) (λ_ R s=>[te,p.1,p.2,xs]/\[te,q.1,q.2,ys]/\R [JF,.ref (z2A s.heap p q)] { s with heap:=z2H s.heap p q}) :=.of_wp λprog w A R s h=>by obtain⟨hp,g,d,tk,os⟩:=s;obtain⟨h1,h2,h⟩:=h;have kB:=sub_zip;have hL1:=h1;have hL2:SeqAt q.1 (Shared.heap #[hp.push (UV p.1 p.2),g,d,tk,os]) q.2 ys:=SeqAt.push h2 _;wp_walk using sv hL1,sv hL2;exact#[_,rfl,h]
noncomputable abbrev z3B (h:TU) (p q r:Bool×Tn):TU:=([Ql,p.1,p.2].push (UV q.1 q.2)).push (UV r.1 r.2)
noncomputable abbrev z3C (h:TU) (p q r:Bool×Tn):TU:=(z3B h p q r).push (V9 [IH,.ref [Ql,p.1,p.2].objs.size,.ref ([Ql,p.1,p.2].push (UV q.1 q.2)).objs.size])
noncomputable abbrev z3D (h:TU) (p q r:Bool×Tn):TU:=(z3C h p q r).push (V9 [.none,.none,.none])
noncomputable abbrev z3H (h:TU) (p q r:Bool×Tn):TU:=(z3D h p q r).push (xa2 (z3B h p q r).objs.size (z3C h p q r).objs.size)
set_option maxHeartbeats 2000000 in
theorem JR (p q r:Bool×Tn)(xs ys zs:K3) :
  Meets (Builtin.«zip.__new__» #[[.type "zip",.ref p.2,.ref q.2,.ref r.2],[]]) (λ_ R s=>[te,p.1,p.2,xs]/\[te,q.1,q.2,ys]/\[te,r.1,r.2,zs]/\R [JF,.ref (z3D s.heap p q r).objs.size] { s with heap:=z3H s.heap p q r}) :=
 .of_wp λprog w A R s h=>by
  obtain⟨hp,g,d,tk,os⟩:=s;obtain⟨h1,h2,h3,h⟩:=h;have kB:=sub_zip;have hL1:SeqAt p.1 (Shared.heap #[hp,g,d,tk,os]) p.2 xs:=h1
  have hL2:SeqAt q.1 (Shared.heap #[hp.push (UV p.1 p.2),g,d,tk,os]) q.2 ys:=SeqAt.push h2 _;have hL3:SeqAt r.1 (Shared.heap #[(hp.push (UV p.1 p.2)).push (UV q.1 q.2),g,d,tk,os]) r.2 zs:=SeqAt.push (SeqAt.push h3 _) _
  wp_walk using sv hL1,sv hL2,sv hL3
  exact#[_,rfl,h]
theorem zbc (a b c:Value):checkTypeCall "zip" #[[a,b,c],[]]=pure ():=by kernel_rfl
theorem JT (a b c:Value):checkBuiltinCall "zip.__new__" #[[.type "zip",a,b,c],[]]=pure ():=by kernel_rfl
theorem zcD (a b c d:Value):argsOk "object.__init__" #[[a,b,c,d],[]]:=by kernel_rfl
section
end
theorem JV (x:XA t h i a k):∃o,h.get? i=ζ/\∀v,o.data≠.cell v:=by cases t;obtain⟨o,e,c,d⟩:=x;simp_all;obtain⟨o,e,c,d⟩:=x;simp_all
theorem ZSt.obj (st:ZSt b aJ k h)(c:Nat)(h1:b<=c)(h2:c<b+aJ.length+3):∃o,Pu=ζ/\∀v,o.data≠.cell v:=by by_cases e:c<b+aJ.length;have:=JV (st.it (c-b) aJ[c-b] (by simp[by lia]));simp_all;rcases(by lia:c=b+aJ.length\/c=b+aJ.length+1\/c=b+aJ.length+2)with rfl | rfl | rfl;exact#[_,st.cJ,λv z=>by cases z];obtain⟨old,_,ho⟩:=st.own;simp_all;obtain⟨_,_,_,hz⟩:=st.zip;exact#[_,hz,λv z=>by cases z]
theorem ZSt.keep (st:ZSt b aJ k h)(kk:∀c,b<=c->c<b+aJ.length+3->∀o,Pu=ζ->Lh=ζ):ZSt b aJ k h':=by obtain⟨old,ol,ho⟩:=st.own;obtain⟨f0,f1,hf,hz⟩:=st.zip;refine#[#[f0,f1,hf,kk _ (by lia) ε _ hz],kk _ ε ε _ st.cJ,#[old,ol,kk _ (by lia) ε _ ho],λj p hp=>(st.it j p hp).at λo g=>kk _ ε ?_ _ g];grind
theorem Yn:c∈List.range' b (m+3)↔b<=c/\c<b+m+3:=by grind
section
variable {prog:TF}{w:Ud}{A:TC}{E:Value->Tj->Prop}{s:Tj}
theorem letGo (hf:f0=.none\/∃t:Nat,f0=XS t)(hz:l9 s.heap z I O f0 f1)(hQ:∀h' f,(f=.none\/∃t:Nat,f=XS t)->l9 h' z I O f f1->[OP,z,h']->Q () { s with heap:=h'}):Tv [ϑ,w] A (UY tg (.ref z) (.ref T)) Q E s:=by have no:Tv [ϑ,w] A (pure ()) Q E s:=Tq (hQ s.heap f0 hf hz (Heap.SameBut.refl ..));(have bE:Tv [ϑ,w] A (UY (.Tuple [] 0 #[0,0,0,0]) (.ref z) (.ref T)) Q E s:=by refine Ti (wpAny_load hz ?_);show Tv _ _ (if(_&&_)=tj then _ else _) Q E s;split;exact[P8,UQ hz (by simp) λh' hz' lR=>hQ h' .none lS hz' lR];exact no);cases tg<;>first |exact bE|exact no
theorem vD (st:ZSt b aJ k s.heap)(h:Q (.ref (b+aJ.length+2)) s):Tv [ϑ,w] A (pyIter (.ref (b+aJ.length+2))) Q E s:=by obtain⟨f0,f1,hf,hz⟩:=st.zip;have hT:s.TypeIs (.ref (b+aJ.length+2)) "zip":=#[_,hz,rfl];exact wpAny_pyIter_slot hT F.slot_zip_iter (Vz F.slot_zip_iter hT F.entry_zip_iter (Tq #[_,rfl,"zip",_,hT,F.slot_zip_next.lookup,h]) (F.args_zip_iter_1 _))
end
theorem qS (g:h.get? i=se (UV t a)):XA t h i a 0:=by cases t;exact#[_,g,rfl,rfl];exact#[_,g,rfl,rfl]
section
variable {prog:TF}{w:Ud}{A:TC}{E:Value->Tj->Prop}{s:Tj}
theorem C6 (l:List UK)(h:TU):(l.foldl Heap.push h).objs.size=h.objs.size+l.length/\(∀c o,Pu=ζ->(l.foldl Heap.push h).get? c=ζ)/\∀(j:Nat) o,l[j]?=ζ->o.isFreed=fh->(l.foldl Heap.push h).get? (h.objs.size+j)=ζ:=by induction l generalizing h with| nil=>exact#[rfl,λ_ _ e=>e,λj o e=>by simp at e]| cons x l ih =>obtain⟨a,b,c⟩:=ih (h.push x);rw[Heap.size_push] at a c;refine#[by rw[qJ,a,fO];lia,λc o e=>b c o (Heap.get?_push_of_some _ e),λj o e f=>?_];cases j with| zero=>cases e;exact b _ _ (Heap.get?_push_size _ f)| succ j =>rw[show h.objs.size+(j+1)=h.objs.size+1+j by lia];exact c j o e f
theorem C7 (h1:[te,p.1,p.2,xs])(h2:[te,q.1,q.2,ys]) (h:∀h',ZSt s.heap.objs.size [p,q] 0 h'->(∀c o,ff=ζ->Lh=ζ)->Q (.ref (s.heap.objs.size+4)) { s with heap:=h'}):Tv [ϑ,w] A (call (.type "zip") [.ref p.2,.ref q.2]) Q E s:=by refine callType_new F.called_zip (by decide) (F.typeCall_zip_2 _ _) (F.newCall_zip_2 _ _) (λobj=>F.args_object_init_3 obj _ _) F.entry_zip_new (JQ p q xs ys) #[h1,h2,?_];unfold z2A z2H;simp only[Heap.size_push];obtain⟨_,k,g⟩:=C6 [UV p.1 p.2,UV q.1 q.2,V9 [VK,.ref (s.heap.objs.size+1)],V9 [.none,.none],xa2 (s.heap.objs.size+1+1) (s.heap.objs.size+1+1+1)] s.heap;refine#[#[_,g 4 _ rfl rfl,rfl],h _ #[#[.none,fh,lS,g 4 _ rfl rfl],g 2 _ rfl rfl,#[[.none,.none],rfl,g 3 _ rfl rfl],λj r hr=>?_] k];match j,hr with| 0,hr=>cases hr;exact qS (g 0 _ rfl rfl)| 1,hr=>cases hr;exact qS (g 1 _ rfl rfl)| n+2,hr=>cases hr
theorem zbr (h1:[te,p.1,p.2,xs])(h2:[te,q.1,q.2,ys])(h3:[te,r.1,r.2,zs]) (h:∀h',ZSt s.heap.objs.size [p,q,r] 0 h'->(∀c o,ff=ζ->Lh=ζ)->Q (.ref (s.heap.objs.size+5)) { s with heap:=h'}):Tv [ϑ,w] A (call (.type "zip") [.ref p.2,.ref q.2,.ref r.2]) Q E s:=by refine callType_new F.called_zip (by decide) (zbc _ _ _) (JT _ _ _) (λobj=>zcD obj _ _ _) F.entry_zip_new (JR p q r xs ys zs) #[h1,h2,h3,?_];unfold z3H z3D z3C z3B;simp only[Heap.size_push];obtain⟨_,k,g⟩:=C6 [UV p.1 p.2,UV q.1 q.2,UV r.1 r.2,V9 [VK,.ref (s.heap.objs.size+1),.ref (s.heap.objs.size+1+1)],V9 [.none,.none,.none],xa2 (s.heap.objs.size+1+1+1) (s.heap.objs.size+1+1+1+1)] s.heap;refine#[#[_,g 5 _ rfl rfl,rfl],h _ #[#[.none,fh,lS,g 5 _ rfl rfl],g 3 _ rfl rfl,#[[.none,.none,.none],rfl,g 4 _ rfl rfl],λj r hr=>?_] k];match j,hr with| 0,hr=>cases hr;exact qS (g 0 _ rfl rfl)| 1,hr=>cases hr;exact qS (g 1 _ rfl rfl)| 2,hr=>cases hr;exact qS (g 2 _ rfl rfl)| n+3,hr=>cases hr
end
section
theorem ym (x:SeqAt t h a xs):a<h.objs.size:=by cases t;obtain⟨o,e,_⟩:=x;exact QR;obtain⟨o,e,_⟩:=x;exact QR
end
open PySem PySem.Spec PyProof.Rows PySem.SeqAt
section
end
end NAL.EX
namespace PySem
open AutoSeq1 (wpAny_loadPart')
open MeetsSeq MeetsSeq2 MeetsSeq3 SeqRoads2 SeqAt
end PySem
namespace NAL.EX
open PySem PySem.Spec PyProof.Rows PySem.SeqAt
section
end
section
end
end NAL.EX
namespace NAM
theorem yn (a b:Int):∃q1 q2:Int,a=(bQ a b)*q1/\b=(bQ a b)*q2:=by obtain⟨q1,h1⟩:=Int.gcd_dvd_left (a:=a) (b:=b);obtain⟨q2,h2⟩:=Int.gcd_dvd_right (a:=a) (b:=b);exact#[q1,q2,h1,h2]
theorem gone (hg:0<g)(h:(bQ (g*q1) (g*q2))=g):bQ q1 q2=1:=by rw[Int.gcd_mul_left] at h;(have h2:g*(bQ q1 q2)=g*1:=by lia);have:=AN (by exact dF hg) h2;lia
theorem sw (hb:b≠0):(0:Int)<(bQ a b):=ε
theorem yo (hb:b≠0)(hj:j=if b<0 then-((bQ a b):Int)else(bQ a b)):j≠0/\j.natAbs<=b.natAbs/\1<=Nl/\bQ K9 Nl=1/\K9*b=a*Nl:=by obtain⟨q1,q2,h1,h2⟩:=yn a b;have hg:=sw (a:=a) hb;generalize hG:((bQ a b):Int)=g at *;have one:bQ q1 q2=1:=gone hg (by rwa [<-h1,<-h2]);by_cases hn:b<0;rw[Ta hn] at hj;subst hj;(have e1:a=-g*-q1:=by rwa [AT]);(have e2:b=-g*-q2:=by rwa [AT]);(have f1:a.fdiv (-g)=-q1:=by(conv=>lhs;rw[e1]);exact mX _ ε);(have f2:b.fdiv (-g)=-q2:=by(conv=>lhs;rw[e2]);exact mX _ ε);(have q2n:q2<0:=by rcases g9 q2 0 with z | z;exact z;have:=jq (cE hg) z;lia);refine#[ε,?_,by lia,?_,?_];rw[h2,kW,Int.natAbs_neg];exact rX _ ε;rwa [f1,f2,Int.gcd_neg,Int.neg_gcd];rw[f1,f2,h2,h1,Int.neg_mul,Int.mul_neg,hO g q1,i6,uR];rw[S9 hn] at hj;subst hj;(have f1:K9=q1:=by(conv=>lhs;rw[h1]);exact mX _ (by exact dF hg));(have f2:Nl=q2:=by(conv=>lhs;rw[h2]);exact mX _ (by exact dF hg));(have q2p:0<q2:=by rcases g9 0 q2 with z | z;exact z;have:=jq (cE hg) (show 0<=-q2 by simp_all);lia);refine#[by exact dF hg,?_,by rwa [f2],?_,?_];rw[h2,kW];exact rX _ ε;rwa [f1,f2];rw[f1,f2,h2,h1];simp[hO,uR,i6]
theorem C8 (h:bQ n d=1)(k:d∣n*b):d∣b:=by(have k':d.natAbs∣n.natAbs*b.natAbs:=by rw[<-kW];simp_all);(have c:Nat.Coprime d.natAbs n.natAbs:=by show vg _ _=1;rwa [Nat.gcd_comm]);exact qB.mp (c.dvd_of_dvd_mul_left k')
theorem vE (h:bQ n d=1)(e:n*b=a*d):d∣b/\n∣a:=#[C8 h #[a,by grind],C8 (by rwa [nj]) #[b,by grind]]
theorem C9 (h:bQ n d=1)(hb:b≠0)(e:n*b=a*d):n.natAbs<=a.natAbs/\d.natAbs<=b.natAbs:=by obtain⟨h1,h2⟩:=vE h e;refine#[?_,BP ε (qB.mpr h1)];by_cases ha:a=0;(.subst ha;rw[lX] at e;rcases Int.mul_eq_zero.mp e with z | z;all_goals lia);exact BP ε (qB.mpr h2)
theorem vF (h1:bQ n x=1)(h2:bQ n y=1):bQ n (x*y)=1:=by show vg _ _=1;rw[kW];exact Nat.Coprime.mul_right h1 h2
theorem vG (h:bQ n x=1)(h1:m∣n)(h2:y∣x):bQ m y=1:=(Nat.Coprime.coprime_dvd_left (qB.mpr h1) h).coprime_dvd_right (qB.mpr h2)
theorem Da (h:bQ t x=1)(hu:x∣u):bQ (t+u) x=1:=ε
theorem JX (hb:1<=b)(hd:1<=d)(h1:bQ a b=1)(h2:bQ c d=1){g t e:Int}(hg:g=(bQ b d))(ht:t=a*Pj+c*Jj)(he:e=(bQ t g)) :g≠0/\g.natAbs<=d.natAbs/\g.natAbs<=b.natAbs/\e≠0/\e.natAbs<=g.natAbs/\1<=Jj*PW/\bQ (t.fdiv e) (Jj*PW)=1/\t.fdiv e*(b*d)=(a*d+c*b)*(Jj*PW):=by obtain⟨b',d',e1,e2⟩:=yn b d;(have gp:0<g:=by rw[hg];exact sw (by exact dF hd));rw[<-hg] at e1 e2;have one:bQ b' d'=1:=gone gp (by rw[<-e1,<-e2];exact hg.symm);(have f1:Jj=b':=by(conv=>lhs;rw[e1]);exact mX _ (by exact dF gp));(have f2:Pj=d':=by(conv=>lhs;rw[e2]);exact mX _ (by exact dF gp));rw[f1,f2] at ht;obtain⟨t',g',e3,e4⟩:=yn t g;(have ep:0<e:=by rw[he];exact sw (by exact dF gp));rw[<-he] at e3 e4;(have f3:t.fdiv e=t':=by(conv=>lhs;rw[e3]);exact mX _ (by exact dF ep));(have e5:d=e*(g'*d'):=by have:=e2;rw[this,<-i6,<-e4]);(have f4:PW=g'*d':=by(conv=>lhs;rw[e5]);exact mX _ (by exact dF ep));(have pos:∀{x y z:Int},x=y*z->1<=x->0<y->1<=z:=λ{x y z} h hx hy=>by rcases g9 0 z with q | q;assumption;have:=jq (cE hy) (show 0<=-z by simp[*]);rw[Int.mul_neg] at this;lia);have bp:=pos e1 hb gp;have dp:=pos e2 hd gp;have gp':=pos e4 (by assumption) ep;(have tb:bQ t b'=1:=by rw[ht];refine Da ?_ #[c,hO _ _];rw[nj];exact vF (by rw[nj];exact vG h1 (i7 _) #[g,by rwa [hO]]) one);(have td:bQ t d'=1:=by rw[ht,Int.add_comm];refine Da ?_ #[a,hO _ _];rw[nj];exact vF (by rw[nj];exact vG h2 (i7 _) #[g,by rwa [hO]]) (by rwa [nj]));have tt:t'∣t:=#[e,by rwa [hO]];refine#[by exact dF gp,?_,?_,by exact dF ep,?_,?_,?_,?_];rw[e2,kW];exact rX _ (by lia);rw[e1,kW];exact rX _ (by lia);rw[e4,kW];exact rX _ (by lia);rw[f1,f4];have h1:0<g'*d':=kX (by assumption) (by assumption);have:=kX (show 0<b' by assumption) h1;assumption;rw[f1,f3,f4];exact vF (vG tb tt (i7 _)) (vF (gone ep (by rw[<-e3,<-e4];exact he.symm)) (vG td tt (i7 _)));rw[f1,f3,f4];(have k1:a*d+c*b=g*t:=by rw[ht,e1,e2,rI];congr 1<;>simp[hO,uR,i6]);rw[k1];(have k2:t'*(b*d)=t'*(g*b'*(e*(g'*d'))):=by rw[<-e5];conv=>lhs;rw[e1]);rw[k2];(conv=>rhs;rw[e3]);simp[hO,uR,i6]
theorem yq {a g:Int}(hg:0<g):(a.fdiv g).natAbs<=a.natAbs:=by rw[Int.fdiv_eq_ediv_of_nonneg _ (cE hg)];rcases g9 a 0 with h | h;(have h1:a<=a/g:=by rw[Int.le_ediv_iff_mul_le hg];have:=Int.mul_le_mul_of_nonpos_left (cE h) (show 1<=g by assumption);simp_all);have h2:=Int.ediv_neg_of_neg_of_pos h hg;lia;have h1:=Int.ediv_le_self g h;grind[AU,cE]
open PySem NAL NAL.EX
theorem Db (hg:0<=g)(hl:0<l):bQ l (g%l)=bQ g l:=by obtain⟨a,rfl⟩:=kT hg;obtain⟨b,rfl⟩:=kT (cE hl);show vg b (a%b)=vg a b;grind[Nat.gcd_comm,Nat.gcd_rec]
theorem Dc (a b:Int):bQ (if a<0 then-a else a) (if b<0 then-b else b)=bQ a b:=by by_cases h1:a<0<;>by_cases h2:b<0<;>simp[h1,h2,Int.gcd_neg,Int.neg_gcd]
theorem vH (a:Int):0<=(if a<0 then-a else a):=by lia
theorem De (hg:0<=g):(bQ g 0)=g:=by rw[Int.gcd_zero_right];lia
theorem _root_.NAL.EX.Bd.mul (hx:Bd m x)(hy:Bd n y):Bd (m+n) (x*y):=by show(x*y).natAbs<2^(m+n);rw[kW,Nat.pow_add];exact Nat.mul_lt_mul'' hx hy
theorem _root_.NAL.EX.Bd.add (hx:Bd m x)(hy:Bd n y)(h1:m<k)(h2:n<k):Bd k (x+y):=by show(x+y).natAbs<2^k;have a':x.natAbs<2^(k-1):=hx.le (NAG.gl30 h1);have b':y.natAbs<2^(k-1):=hy.le (NAG.gl30 h2);(have e:2^k=2^(k-1)+2^(k-1):=by(have:k=(k-1)+1:=by lia);lia);grind[AS]
theorem _root_.NAL.EX.Bd.of_le (hy:Bd m y)(h:x.natAbs<=y.natAbs):Bd m x:=ke h hy
theorem qT {b j:Int}(hb:Bd 9000 b)(h:j.natAbs<=b.natAbs)(h0:j≠0):j.natAbs.log2<9000:=zbP (hb.of_le h) ϱ h0
def ZI (p:xaE):Prop:=1<=p.2/\bQ p.1 p.2=1
theorem take_snoc {l:ϐ}(h:l[i]?=ω):l.take (i+1)=l.take i++[x]:=by grind[A0]
noncomputable def dNats (l:xat):PyData:=.list (l.map λ(n:Nat)=>.int (n:Int))
section
end
theorem getD_at {l:xam}(h:i<l.length):l[i]?=se [IQ,i]:=ε
theorem _root_.NAP.aZ.weakT (B:NAP.aZ N ad d row au P aa ar)(h:∀a k b,Q a k->NAP.Y6 N a k b->P a k):NAP.aZ N ad d row au Q aa ar :=#[B.len,B.old,B.new,B.beh,λa k b q t g=>B.cl a k b (h a k b q t) t g]
theorem _root_.NAP.unr_set:∀{l:xam} {i:Nat} {x v:Int},l[i]?=ω->x<0->0<=v->NAP.unr (l.set i v)+1=NAP.unr l| [],_,_,_,h,_,_=>by trivial| y::r,0,x,v,h,h1,h2=>by simp at h;subst h;unfold NAP.unr;(have:¬v<0:=ε);rw[u0,u8,u8];simp[*]| y::r,i+1,x,v,h,h1,h2=>by have ih:=NAP.unr_set (l:=r) (i:=i) (x:=x) (v:=v) (by assumption) h1 h2;unfold NAP.unr at ih ⊢;rw[qH,u8,u8];lia
theorem _root_.NAP.unr_len (l:xam):NAP.unr l<=l.length:=List.countP_le_length
theorem sx (h:e<aa.length):aa[e]?=se [IM,e]:=by grind[NAP.Lv,aV,hW]
theorem nW (h:0<=[IM,e]):e<aa.length:=by grind[Nat.lt_or_ge,NAP.Lv,hW,gf]
noncomputable def goB (N:NAP.WD) (ad:xam) (e k:Nat):Bool:=decide (e<N.G)||decide (0<[KQ,0])
theorem yr (hk:k<ad.length):goB N ad e k=tj↔NAP.Go N ad e k:=by unfold goB NAP.Go;simp[*]
noncomputable def Yw (N:NAP.WD) (ac:xam) (e:Nat):Bool:=decide (N.G<=e)&&decide (0<[My,e])
theorem qU (he:e<ac.length):Yw N ac e=tj↔NAP.UM N ac e:=by unfold Yw NAP.UM;simp[*]
noncomputable def rest (N:NAP.WD) (ac:xam):xat:=(aT N.G).filter λg=>decide (0<[My,g])
section
def Found (N:NAP.WD)(ad ac aa:xam):Prop:=∃(d:Nat) (row:xat),NAP.Rows N ad ac d row aa/\(row=[]\/∃e∈row,NAP.UM N ac e)
noncomputable def xaC (N:NAP.WD) (ad aa:xam) (e k b:Nat):Bool:=decide ([IM,b]=[IM,e]+1)&&goB N ad e k
end
theorem yt (W:N.WF)(t:NAP.Y6 N e k b):e<N.nE/\b<N.nE/\k<N.ends.length:=by obtain⟨p,hp,q⟩:=t;have h1:=W.lo k p hp;grind
theorem Df (W:N.WF)(t:NAP.Y6 N e k b)(hl:ad.length=N.ends.length):xaC N ad aa e k b=tj↔NAP.Y8 N ad aa e k b:=by unfold xaC NAP.Y8;rw[cC,decide_eq_true_eq,yr (by rw[hl];exact(yt W t).2.2)];lia
theorem yu (W:N.WF)(hl:N.bG[e]?=tx)(hk:k∈l):∃b,NAP.Y6 N e k b:=by obtain⟨p,hp,hpe⟩:=(W.mem e l k hl).mp hk;rcases hpe with z | z;exact#[p.2,p,hp,.inl #[z,rfl]];exact#[p.1,p,hp,.inr #[z,rfl]]
theorem YO:g∈rest N ac↔g<N.G/\0<[My,g]:=by unfold rest;simp_all
theorem Dg:(rest N ac).length<=N.G:=by refine cf (fK _ _) ?_;simp
theorem JY (W:N.WF)(hl:aa.length=N.nE)(hp:ac.length=N.nE)(h:∀e,[IM,e]=if e∈rest N ac then 0 else-1):NAP.Rows N ad ac 0 (rest N ac) aa:=by have hg:=W.gle;(have two:∀e,(e∈rest N ac/\[IM,e]=0)\/(e∉rest N ac/\[IM,e]=-1):=λe=>by grind);refine#[#[hl,λe he=>?_,λg x hg' hx h0=>?_,λe he=>?_],λe=>?_,λe=>?_,λa k b t g h1 h2=>?_,λe h1 h2=>?_];rcases two e with ⟨a,b⟩ | ⟨a,b⟩;obtain⟨a1,a2⟩:=YO.mp a;grind;simp_all;have:=YO.mpr #[hg',by rw[getD_at (NAG.gl37 hg' hp hg)] at hx;cases hx;exact h0];simp_all;all_goals grind
theorem Dh:∀{n:Nat} {l:xat},l.Nodup->(∀x∈l,x<n)->l.length<=n| 0,[],_,_=>ϱ| 0,x::l,_,h=>absurd (h x aR) (l6 _)| n+1,l,hn,h=>by(have h1:(l.filter λx=>decide (x<n)).length<=n:=Dh (hn.filter _) λx hx=>ε);(have h2:l.length<=(l.filter λx=>decide (x<n)).length+l.count n:=by clear h1;induction l with| nil=>simp| cons x l ih =>have hx:=h x aR;have:=ih (eW.mp hn).2 λy hy=>h y (a7 _ hy);rw[jZ,xG];by_cases c:x<n;(have c2:¬(x==n)=tj:=by simp;exact cG c);simp only[c,decide_true,if_true,fO,c2];simp;lia;(have c2:x=n:=by lia);subst c2;simp;exact rY this);have h3:=xh.mp hn n;lia
section
def Way (N:NAP.WD)(ad ac aa:xam)(g:Nat)(ai:xam)(way:xat):Prop:=(way=[]/\NAP.Z0 N ac ai g)\/(way≠[]/\∃(es:xat) (f:Nat),NAP.Xz N aa ad es way/\es[0]?=se g/\es[way.length]?=se f/\NAP.UM N ac f)
end
theorem zbY (a:Int)(ad:xam)(l:xat)(k:Nat):NAP.Vh a ad (l++[k])=(NAP.Vh a ad l).set k ((NAP.Vh a ad l).getD k 0+a):=by unfold NAP.Vh;rw[xC];rfl
section
end
theorem vI:∀b (l:List α),(NAP.WT b l).length<=l.length| true,[]=>ϱ| false,[]=>ϱ| true,x::r=>by have:=vI fh r;exact rY this| false,x::r=>by have:=vI tj r;exact o4 this
section
end
theorem tr0 {N:NAP.WD}(W:N.WF):NAP.Tr N (bh N.nE 0):=#[by rw[oS],λe l t _ h=>by rw[nq] at h;split at h;cases h;constructor<;>lia;cases h]
theorem zb7:NAP.YG N ad ac aa (bh N.nE 0):=λe l j k t _ _ h hj=>by rw[nq] at h;split at h;cases h;trivial;cases h
theorem zcC:(rest N ac).Nodup:=List.Pairwise.filter _ u9
theorem zb4 {l:xat}(h:l.Nodup)(hg:l[i]?=se g):g∉l.take i:=λhm=>by obtain⟨j,hj⟩:=bH hm;(have hji:j<i:=by grind);rw[rM hji] at hj;have hi:=(aQ.mp hg).1;have jh:='Z'.1;(have e:l[j]=l[i]:=ε);exact rL.mp h j i jh hi hji e
section
noncomputable def U0 (aa:xam):L5:=aa.map λs=>decide (0<=s)
end
theorem yv (n e:Nat)(f:Nat->α)(v:α):((aT n).map f).set e v=(aT n).map λx=>if x=e then v else f x:=by refine jY λi=>?_;rw[oV,bo,bo,bq,k6];by_cases h:e=i;subst h;by_cases l:e<n<;>simp[l];rw[S9 h];by_cases l:i<n<;>simp[l,Ne.symm h]
theorem o9 (f:Nat->α)(h:e<n):((aT n).map f)[e]?=se (f e):=ε
theorem Di:∀{ends:xak} {ad:xam} {p:Nat×Nat} {s:Int} {e:Nat},ad.length=ends.length->[NM,ends++[p],ad++[s]]=[NM,ends,ad]+(if NAP.inc p e then s else 0)| [],[],p,s,e,_=>by simp[NAP.load]| [],_::_,_,_,_,h=>by trivial| _::_,[],_,_,_,h=>by trivial| q::r,x::y,p,s,e,h=>by have ih:=Di (p:=p) (s:=s) (e:=e) (by exact lh h);simp only[oW,NAP.load,ih];lia
noncomputable def UI (G:Nat) (aj:xak):xak:=aj.map λp=>(p.1,G+p.2)
noncomputable def Zn (ends:xak) (i e:Nat):xat:=(aT i).filter λk=>NAP.inc (ends.getD k (0,0)) e
theorem J5 (ends:xak)(i e:Nat):Zn ends (i+1) e=Zn ends i e++(if NAP.inc (ends.getD i (0,0)) e then[i]else[]):=by unfold Zn;rw[nz,nu];rw[jZ,Bs]
noncomputable def Zx (a8:xam) (ends:xak) (ss:xam) (i e:Nat):Int:=a8.getD e 0-[NM,ends.take i,ss.take i]
noncomputable def UR (G T:Nat) (aj:xak):NAP.WD:=NAP.YT G T aj ((aT (G+T)).map (Zn (UI G aj) aj.length))
theorem yw (h:∀p∈aj,p.1<G/\p.2<T):(UR G T aj).WF:=by(have look:∀(k:Nat) p,(UI G aj)[k]?=ϕ->∃q,aj[k]?=Ϡ/\p=(q.1,G+q.2):=λk p hp=>by unfold UI at hp;grind);refine#[jP _ _,by show((aT (G+T)).map _).length=G+T;simp,λk p hp=>?_,λe l k hl=>?_];obtain⟨q,h1,rfl⟩:=look k p hp;obtain⟨a,b⟩:=h q (aM h1);refine#[a,?_,?_];show G<=G+q.2;simp_all;show G+q.2<G+T;simp_all;have mK:((aT (G+T)).map (Zn (UI G aj) aj.length))[e]?=tx:=hl;rw[o9 _ (by grind)] at mK;cases mK;unfold Zn;rw[bB,dA];constructor;rintro⟨h1,h2⟩;(have hk:(UI G aj)[k]?=se ((UI G aj).getD k (0,0)):=by grind[UI,bq,aV,hW]);exact#[_,hk,by grind[NAP.inc]];rintro⟨p,hp,hq⟩;have d5:(UI G aj)[k]?=ϕ:=hp;grind[UI,bq,hW,NAP.inc]
section
end
theorem range_getD (l:xam):(aT l.length).map (λe=>[IQ,e])=l:=by apply jY;intro i;rw[bo];by_cases h:i<l.length;rw[kZ h,getD_at h];rfl;rw[gf ε,gf ε];rfl
section
end
section
end
theorem Dj:∀ends n e,[NM,ends,bh n 0]=0| [],n,e=>by cases n<;>rfl| p::r,0,e=>rfl| p::r,n+1,e=>by rw[oU];simp only[NAP.load,Dj r n e];simp
theorem ze6 (hl:ss.length=aj.length)(hn:∀(k:Nat) s,ss[k]?=ϫ->0<=s)(hs:∀e<gs.length+ts.length,0<=Zx (gs++ts) [Pl,aj] ss aj.length e) :NAP.Flow [CC,ts.length,aj] (gs++ts) ss ((aT (gs.length+ts.length)).map (Zx (gs++ts) [Pl,aj] ss aj.length)):=by(have qh:[Pl,aj].length=aj.length:=by unfold UI;rw[bq]);refine#[by show ss.length=(aj.map _).length;simp_all,by show _=gs.length+ts.length;simp,by show _=gs.length+ts.length;simp,hn,λe c s hc h=>?_,λe s h=>?_];rw[o9 _ (by simpa using (aQ.mp h).1)] at h;cases h;unfold Zx;rw[d8 ε,d8 ε];rw[show(gs++ts).getD e 0=c by simp_all];rfl;grind
theorem yx {a b:ϐ}(h:i<a.length):(a++b).getD i d=a.getD i d:=by grind
theorem yz {a b:ϐ}:(a++b).getD (a.length+i) d=b.getD i d:=by simp[hW,hU (jP _ _)]
section
end
noncomputable def p1 (gv:L5):L5->xak->L5| tk,p::ps=>p1 gv (if gv.getD p.1 fh=tj then tk.set p.2 tj else tk) ps| tk,[]=>tk
section
end
theorem Do (h:e<aa.length):'O'.getD e fh=[MS,e]:=by grind[U0,NAP.nr,NAP.Lv,hW,bo,aV]
section
end
theorem Dp:∀ends ss e,(∀(k:Nat) s,ss[k]?=ϫ->0<=s)->0<=[NM,ends,ss]| [],ss,e,_=>by simp[NAP.load]| p::ps,[],e,_=>by simp[NAP.load]| p::ps,s::ss,e,h=>by have ih:=Dp ps ss e λk x hx=>h (k+1) x (by assumption);have h0:=h 0 s rfl;simp only[NAP.load];split<;>lia
section
end
end NAM
namespace NAL
open PySem PySem.Spec PyProof.Rows
section
end
section
end
section
end
section
end
section
end
section
end
section
end
section
end
section
end
section
end
section
end
section
end
section
end
section
end
section
end
section
end
section
end
section
end
section
end
section
end
section
end
section
end
section
end
section
end
section
variable {κ:Type}[DecidableEq κ]
end
section
end
section
end
section
end
section
end
section
end
section
end
section
end
section
end
section
end
end NAL
namespace NAA
open PySem PySem.W PySem.Calls PyProof.Rows
section
end
end NAA
namespace NAL
open PySem PySem.Spec PyProof.Rows
section
end
section
end
section
variable {κ:Type}[DecidableEq κ]
end
end NAL
namespace PySem
theorem J7:[Pa,"list","keys"]=pure none:=by kernel_rfl
theorem Dq:entryFor table "dict.update.loop"=se Builtin.«dict.update.loop»:=entryFor_of_tree (by kernel_rfl)
theorem vJ:plainId "dict.update.loop"=tj:=by decide +kernel
section
variable {prog:TF}{w:Ud}{A:TC}{E:Value->Tj->Prop}{s:Tj}
theorem getAttr?_keys_list (hx:MV=se { cls:=.type "list",data:=.seq xs k})(hA:A.handled=ng) (h:∀h' tk,(∀b ob,ϧ=Mo->Mz=Mo)->Q ng { s with heap:=h',toks:=tk}) :Tv [ϑ,w] A (X6 ψ "keys") Q E s:=by obtain⟨hp,g,d,tk,os⟩:=s;have hT:∀bD,(#[hp,g,d,bD,os]:Tj).TypeIs ψ "list":=λ_=>#[_,hx,rfl];have f1:=sub_AttributeError;have f3:=F.slot_list_getattribute.lookup;have f4:=F.slot_list_getattribute.bind ψ;have f5:=am_list_getattr_none;unfold X6 getAttrBy? getAttrBy;(repeat(any_goals(first |assumption|exact hT _|((with_reducible show Tv _ _ (call (Value.builtin "list.__getattribute__") _ _) _ _ _);refine Vy F.slot_list_getattribute (hT _) am_entry_list_getattribute (F.args_list_getattribute_2 _ _) (meets_getattribute_miss_list a xs k _ "keys" _ J7 (by decide +kernel) (by decide +kernel)) #[hx,hA,λh' bD e g8=>?_])|wp_step)));obtain⟨t',u',he⟩:=g8.there;show Tv _ _ (VO _ _ _ _ _ _ _) _ _ _;unfold VO;(repeat(any_goals(first |assumption|wp_step)));exact h h' bD g8.keeps
end
section
variable {prog:TF}{w:Ud}{K:Type}[DecidableEq K] {knd:KeyKind prog w K}
def yA (knd:KeyKind prog w K)(h:TU)(items:K3)(ps:List (K×Value)):Prop :=items.size=ps.length/\∀(j:Nat) p,ps[j]?=ϕ->∃t bE,items[j]?=[TS,t]/\h.IsTuple t ([bE,p.2].toArray)/\knd.is p.1 bE=tj
noncomputable def putAll (d7:List (K×Value)) (ps:List (K×Value)):List (K×Value):=ps.foldl (λacc p=>Wq acc p.1 p.2) d7
theorem zcd (d7:List (K×Value))(k:K)(v:Value):(Wq d7 k v).length<=d7.length+1:=by grind[Wq]
structure DIt (knd:KeyKind prog w K)(d it:Tn)(fp:Tn->Prop)(ps:List (K×Value))(J:Nat->TU->Prop):Prop where
 nd:¬fp d
 keep:∀{i h h'},J i h->(∀c o,c≠d->Pu=ζ->Lh=ζ)->J i h'
 item:∀{i:Nat} {p A} {s:Tj} {Q E},A.handled=ng->ps[i]?=ϕ->J i s.heap->(∀h' t ot n bE,J (i+1) h'->h'.get? t=se ot->ot.cls=.type "tuple"->ot.data=.seq ([bE,p.2].toArray) n->knd.is p.1 bE=tj->(∀c o,¬fp c->ff=ζ->Lh=ζ)->Q [TS,t] { s with heap:=h'})->Tv [ϑ,w] A OJ Q E s
 stop:∀{A} {s:Tj} {Q E},A.handled=ng->J ps.length s.heap->(∀h',(∀c o,¬fp c->ff=ζ->Lh=ζ)->Q ng { s with heap:=h'})->Tv [ϑ,w] A OJ Q E s
theorem J9 {J:Nat->TU->Prop}{ps:List (K×Value)}(D:DIt knd d it fp ps J)(n:Nat) :∀i d7,ps.length-i=n->i<=ps.length->d7.length+ps.length<=sizeLine+i->∀A R (s:Tj),A.handled=ng->J i s.heap->s.heap.DictOf knd d d7->(∀h' tk,h'.DictOf knd d (putAll d7 (ps.drop i))->(∀c o,¬fp c->c≠d->ff=ζ->Lh=ζ)->R [JF,.none] { s with heap:=h',toks:=tk})->Tv [ϑ,w] A.in1 (Builtin.«dict.update.loop» #[[.ref d,II,XS i,.none],[]]) (λfin s'=>match fin with| .done f=>R (.ok f) s'| .again c'=>c'.quiet=tj/\Wh [ϑ,w] A c' R s') (λe s'=>R (.error e) s') s:=by have gone:∀{h h':TU} {d7},(∀c o,¬fp c->Pu=ζ->Lh=ζ)->h.DictOf knd d d7->h'.DictOf knd d d7:=λk #[o,es,ep,ho,r]=>#[o,es,ep,k d o D.nd ho,r];induction n with| zero =>(intro i d7 hn hi hz A R s hA st hd hR;unfold Builtin.«dict.update.loop»;(have e:i=ps.length:=by lia);subst e;refine Ti (D.stop (show A.in1.handled=ng from hA) st λh' kk=>?_);refine Ti (wpAny_of_eq (by first |rfl |(unfold Builtin.Dict.addKeywords;rfl)) (Tq ?_));rw[List.drop_of_length_le (bN _)] at hR;exact hR h' s.toks (gone kk hd) λc o hc _ ho=>kk c o hc ho)| succ n ih =>intro i d7 hn hi hz A R s hA st hd hR;unfold Builtin.«dict.update.loop»;obtain⟨r,hr⟩:∃r,ps[i]?=se r:=#[_,aV (by lia)];refine Ti (D.item (show A.in1.handled=ng from hA) hr st λh' t ot m bE gQ g1 g2 g3 g4 kk=>?_);refine Ti (UN (Ti (wpAny_tryCatch ?_)));unfold Builtin.Dict.pairItems;refine Ti (wpAny_typeOf #[_,g1,g2] ?_);rw[Ta (by decide)];refine Ti (Vu g1 g3 (Tq ?_));show Tv _ _ (holding [bE,r.2] (dictSet d bE r.2)) _ _ _;have eN:=zcd d7 r.1 r.2;refine UN (wpAny_dictSet_pairs g4 (gone kk hd) (λh3 hd3 sb=>?_) (by lia));have k3:∀c o,c≠d->h'.get? c=se o->h3.get? c=se o:=λc o hc ho=>(sb.2 c hc).trans ho;refine Tq #[plainId_quiet vJ _,Vk Dq ?_];rw[Around.under_plainId vJ _,show(i+1)=((i+1):Int) by push_cast;rfl];refine ih (i+1) (Wq d7 r.1 r.2) (by lia) (by lia) (by lia) A R _ hA (D.keep gQ k3) hd3 λh5 tk hd5 k5=>?_;rw[show putAll d7 (ps.drop i)=putAll (Wq d7 r.1 r.2) (ps.drop (i+1)) by obtain⟨y1,y2⟩:=aQ.mp hr;rw[uV y1,y2];rfl] at hR;exact hR h5 tk hd5 λc o hc hd ho=>k5 c o hc hd (k3 c o hd (kk c o hc ho))
theorem Dr {a:Tn}{T:String}{o:UK}{ps:List (K×Value)}{fp:Tn->Prop}(hA:A.handled=ng)(ho:MV=ζ)(hc:o.cls=.type T)(hz:ps.length<=sizeLine) (hT:(Value.type T !=.type "dict")=tj) (hk:∀{A} {s:Tj} {Q E},MV=ζ->A.handled=ng->(∀h' tk,(∀b ob,ϧ=Mo->Mz=Mo)->Q ng { s with heap:=h',toks:=tk})->Tv [ϑ,w] A (X6 ψ "keys") Q E s) (hi:∀{A Q E} (s2:Tj),(∀c o,ff=ζ->s2.heap.get? c=ζ)->s.heap.objs.size<s2.heap.objs.size->(∀it h3 J,DIt knd s.heap.objs.size it fp ps J->J 0 h3->(∀c o,s2.heap.get? c=ζ->h3.get? c=ζ)->Q II { s2 with heap:=h3})->Tv [ϑ,w] A (pyIter ψ) Q E s2) (h:∀h' tk,[Jk,knd,putAll [] ps]->(∀c o,¬fp c->ff=ζ->Lh=ζ)->Q VK { s with heap:=h',toks:=tk}) :Tv [ϑ,w] A (call (.type "dict") [ψ]) Q E s:=by refine callType_codes (Q₁:=λobj s₁=>obj=VK/\s₁={ s with heap:=s.heap.push { cls:=.type "dict",data:=.dict ([].toArray)}}) F.kt_called_dict (F.kt_typeCall_dict_1 _) F.entry_dict_init (kt_code_dict_new _ #[rfl,rfl]) ?_;rintro obj s₁ ⟨rfl,rfl⟩;have qk:(s.heap.push { cls:=.type "dict",data:=.dict ([].toArray)}).DictOf knd s.heap.objs.size []:=LA;refine#[qk.typeIs,F.args_dict_init_2 _ _,?_];unfold Builtin.«dict.__init__»;refine Ti ?_;unfold Builtin.Dict.selfAndRest;refine Ti (wpAny_notOrdered_dict qk.typeIs ?_);show Tv _ _ (pure (s.heap.objs.size,[Value.ref a])) _ _ _;refine Tq ?_;show Tv _ _ (Builtin.Dict.updateFrom "dict.__init__" s.heap.objs.size ψ [] .none) _ _ _;unfold Builtin.Dict.updateFrom;have k1:∀c o,ff=ζ->(s.heap.push { cls:=.type "dict",data:=.dict ([].toArray)}).get? c=ζ:=λc o ho=>Heap.get?_push_of_some _ ho;refine Ti (wpAny_typeOf #[_,k1 _ _ ho,hc] ?_);rw[Ta hT];refine Ti (hk (k1 _ _ ho) hA λh2 tk2 k2=>?_);rw[Ta (show none.isNone=tj from rfl)];obtain⟨od,es,ep,hod,r⟩:=qk;refine[P8,Ti (hi _ (λc o ho=>k2 _ _ (k1 _ _ ho)) (Heap.lt_size (k2 _ _ hod)) λit h3 J D j0 k3=>?_)];refine Tq #[plainId_quiet vJ _,Vk Dq ?_];rw[Around.under_plainId vJ _];exact J9 D _ 0 [] rfl (ja _) ε A.in1 _ _ hA j0 #[od,es,ep,k3 _ _ (k2 _ _ hod),r] λh4 tk hd4 k4=>#[rfl,h h4 tk hd4 λc o hc ho=>k4 c o hc [QJ,ho] (k3 _ _ (k2 _ _ (k1 _ _ ho)))]
theorem zeu (hA:A.handled=ng)(hl:RW=se { cls:=.type "list",data:=.seq items n})(hp:yA knd s.heap items ps)(hz:items.size<=sizeLine) (h:∀h' tk,[Jk,knd,putAll [] ps]->(∀b o,ϧ=ζ->Mz=ζ)->Q VK { s with heap:=h',toks:=tk}) :Tv [ϑ,w] A (call (.type "dict") [Qg]) Q E s:=by refine Dr (fp:=λc=>s.heap.objs.size<c) hA hl rfl (hp.1▸hz) (by decide) getAttr?_keys_list (λs2 k lt hQ=>?_) λh' tk hd k=>h h' tk hd λc o ho=>k c o (Nat.lt_asymm Qp) ho;have P:yA knd s2.heap items ps:=#[hp.1,λj p hj=>let #[t,bE,g1,g2,g3]:=hp.2 j p hj;#[t,bE,g1,g2.at λo ho=>k _ _ ho,g3]];have isl:s2.heap.IsList l items:=#[_,k _ _ hl,rfl,n,rfl];refine Uo isl (hQ s2.heap.objs.size _ (λi h=>h.IsListIter s2.heap.objs.size l i/\h.IsList l items/\yA knd h items ps/\(∀(j:Nat) t,items[j]?=[TS,t]->t≠s.heap.objs.size/\t≠s2.heap.objs.size)) #[o5 _,?_,?_,?_] #[#[_,Heap.get?_push_size _ rfl,rfl,rfl],isl.at λo ho=>Heap.get?_push_of_some _ ho,#[P.1,λj p hj=>let #[t,bE,g1,g2,g3]:=P.2 j p hj;#[t,bE,g1,g2.at λo ho=>Heap.get?_push_of_some _ ho,g3]],?_] λc o ho=>Heap.get?_push_of_some _ ho);intro i h h'#[a,b,c,e]kk;exact#[a.at λo ho=>kk _ _ (eG lt) ho,b.at λo ho=>kk _ _ [QJ,hl] ho,#[c.1,λj p hj=>let #[t,bE,g1,g2,g3]:=c.2 j p hj;#[t,bE,g1,g2.at λo ho=>kk _ _ (e j t g1).1 ho,g3]],e];intro i p A s Q E hA hr#[a,b,c,e]hQ;obtain⟨t,bE,g1,⟨ot,hot,hct,m,hdt⟩,g3⟩:=c.2 i p hr;refine V6 a b g1 λh' a' sb=>?_;have kk:∀c o,c≠s2.heap.objs.size->ff=ζ->Lh=ζ:=λc o hc ho=>(sb.2 c hc).trans ho;exact hQ h' t ot m bE #[a',b.at λo ho=>kk _ _ (cG (vf (Heap.lt_size hl) lt)) ho,#[c.1,λj p hj=>let #[t,bE,g1,g2,g3]:=c.2 j p hj;#[t,bE,g1,g2.at λo ho=>kk _ _ (e j t g1).2 ho,g3]],e] (kk _ _ (e i t g1).2 hot) hct hdt g3 λc o hc ho=>kk c o (λz=>hc (z▸lt)) ho;intro A s Q E hA#[a,b,c,e]hQ;exact Wl hA a b (by rw[<-c.1];simp) λh' eb=>hQ h' λc o hc ho=>eb c o (λz=>hc (z▸lt)) ho;intro j t hj;obtain⟨t',bE,g1,⟨o,ho,_⟩,_⟩:=hp.2 j _ (aV (show j<ps.length by rw[<-hp.1];exact(Array.getElem?_eq_some_iff.mp hj).1));rw[hj] at g1;cases g1;have:=Qp;exact#[cG this,cG (vf this lt)]
end
end PySem
namespace NAL.EX
open PySem PySem.Spec PyProof.Rows
section
theorem hu1 (hr:UM k A):A.units+1<cLine:=by have:=ya hr;lia
end
section
end
section
end
end NAL.EX
namespace NAM
open PySem NAL NAL.EX
theorem vK {l:xat}(h:l.Nodup)(he:l[e]?=Ϸ):l.idxOf a=e:=by grind
noncomputable def placeOf (ah:xat) (h:Nat):Rf:=if h∈ah then se (ah.idxOf h)else ng
noncomputable def Wz (ah:xat) (g:Nat) (row:xat):xak:=row.filterMap λh=>[Kd,h].map λp=>(g,p)
noncomputable def VN (aG:xag) (ah ae:xat):Nat->xak| 0=>[]| i+1=>VN aG ah ae i++Wz ah i (aG.getD (ae.getD i 0) [])
noncomputable def Uh (aG:xag) (ah ae:xat):xak:=VN aG ah ae ae.length
theorem yB (hp:[Kd,h]=ϕ):ah[p]?=se h:=by unfold placeOf at hp;split at hp;rename_i c;cases hp;have:=gF c;rw[aV this];simp;cases hp
theorem place_of (hd:ah.Nodup)(hp:ah[p]?=se h):[Kd,h]=ϕ:=by unfold placeOf;grind
theorem Ds (hd:ah.Nodup):(a,b)∈Wz ah g row↔a=g/\∃h,ah[b]?=se h/\h∈row:=by unfold Wz;rw[rQ];constructor;rintro⟨h,hr,e⟩;(cases q:[Kd,h]with| none=>simp_all| some p =>rw[q] at e;cases e;exact#[rfl,h,yB q,hr]);rintro⟨rfl,h,hb,hr⟩;exact#[h,hr,by rw[place_of hd hb];rfl]
theorem Dt (hd:ah.Nodup):∀{i:Nat},(a,b)∈VN aG ah ae i↔a<i/\∃h,ah[b]?=se h/\h∈aG.getD (ae.getD a 0) []:=by intro i;induction i with| zero =>simp[VN]| succ i ih =>rw[VN,dh,ih,Ds hd];constructor;rintro(⟨h1,h2⟩ | ⟨rfl,h2⟩);exact#[fE h1,h2];exact#[i9 _,h2];rintro⟨h1,h2⟩;rcases Nat.lt_succ_iff_lt_or_eq.mp h1 with h | rfl;exact .inl #[h,h2];exact .inr #[rfl,h2]
theorem ki (hd:ah.Nodup):NAP.xbN (λc=>aG.getD c []) ah ae (Uh aG ah ae):=λg t=>by unfold Uh;rw[Dt hd];constructor;rintro⟨hg,h,h1,h2⟩;exact#[ae[g],h,aV hg,h1,by simpa [bO,hg] using h2];rintro⟨c,h,hc,h1,h2⟩;obtain⟨hg,rfl⟩:=aQ.mp hc;exact#[hg,h,h1,by simpa [bO,hg] using h2]
theorem Du (ah:xat)(g:Nat)(row:xat):(Wz ah g row).length<=row.length:=List.length_filterMap_le _ _
noncomputable def xbc (aG:xag):PyData:=.list (aG.map dNats)
theorem zac {aG:xag}(h:∀r∈aG,r.length<=20)(k:Nat):(aG.getD k []).length<=20:=by grind
theorem sC (h:∀r∈aG,r.length<=20):∀i,(VN aG ah ae i).length<=i*20| 0=>by exact jP ..| i+1=>by have a:=sC (ah:=ah) (ae:=ae) h i;grind[Du,zac,VN,eE]
noncomputable def V8 (ws:xam) (ae:xat):Int:=(ae.map λc=>[Mg,c]).sum
noncomputable def TZ (ws:xam) (ah ae:xat):xam:=ae.map λc=>[Mg,c]*(ah.length:Int)
noncomputable def takesIn (ws:xam) (ah ae:xat):xam:=[Jq,V8 ws ae]
noncomputable def Zl {α:Type} (xs:ϐ) (bs:L5) (w:Bool):ϐ:=((xs.zip bs).filter λp=>p.2==w).map (·.1)
theorem Kc {xs:ϐ}{bs:L5}(h1:xs[i]?=ω)(h2:bs[i]?=SW):Zl (xs.take (i+1)) (bs.take (i+1)) w=Zl '1' (bs.take i) w++(if b=w then[x]else[]):=by unfold Zl;(have e1:'1'.length=(bs.take i).length:=by have:='4'.1;have:=(aQ.mp h2).1;rw[jr,jr];exact NAG.gl34 (by assumption) this);rw[take_snoc h1,take_snoc h2,nH e1,nu,dz];by_cases c:b=w<;>simp[c]
theorem Dv (hb:∀x∈ws,Bd 300 x):∀{ae:xat},ae.length<=20->(∀c∈ae,c<ws.length)->Bd (300+ae.length) (V8 ws ae)| [],_,_=>by show(0:Int).natAbs<_;trivial| c::cs,hl,h=>by have ih:=Dv hb (ae:=cs) (by exact fF hl) λx hx=>h x (a7 _ hx);have b1:=hb _ (aM (getD_at (h c aR)));(have e:V8 ws (c::cs)=[Mg,c]+V8 ws cs:=by rfl);rw[e];grind[fO,Bd.add]
noncomputable def UG (ws:xam) (c:Nat):Int:=if c<ws.length then[Mg,c]else 1
noncomputable def UP (aG:xag) (c:Nat):xat:=aG.getD c []
structure DoOk (ws:xam)(aG:xag)(ag:Nat):Prop where
 few:ag<=20
 some:∀c<ws.length,UP aG c≠[]
 lt:∀c<ws.length,∀h∈UP aG c,h<ag
theorem sH (h:∀x∈ws,1<=x)(c:Nat):0<UG ws c:=by unfold UG;split;rename_i hc;have:=h _ (aM (getD_at hc));assumption;decide
theorem Dw (hl:xs.length=bs.length)(h:∀(i x:Nat),xs[i]?=ω->bs[i]?=se (f x)):Zl xs bs tj=xs.filter f/\Zl xs bs fh=xs.filter λx=>! f x:=by(have bE:∀i w,i<=xs.length->Zl '1' (bs.take i) w='1'.filter λx=>f x==w:=by intro i w;induction i with| zero=>simp[Zl]| succ i ih =>intro hi;have hx:xs[i]?=se xs[i]:=aV (by lia);rw[Kc hx (h i _ hx),ih (by exact fF hi),take_snoc hx,nu];grind);have k1:=bE xs.length tj ϱ;have k2:=bE xs.length fh ϱ;rw[MM,d8 (by lia)] at k1 k2;simp[*]
theorem pb {l:xat}(h:l.Pairwise (· < ·)):l.Nodup:=h.imp λh=>cG h
section
variable {ws:xam}{aG:xag}{c:NAP.Cr}{ad ac aa:xam}
theorem zco (hh:c.1.Pairwise (· < ·))(hc:c.2.Pairwise (· < ·))(hi:∀x∈c.2,x<ws.length) (D:NAP.Wj (UR (TZ ws c.1 c.2).length [Se,c.1,c.2].length (Uh aG c.1 c.2)) (TZ ws c.1 c.2++[Se,c.1,c.2]) ad ac aa) :∃nc nh:Nat->Bool,NAP.Cut J4 OU c.1 c.2 c.1.length [tv,c] nc nh/\(∀(i x:Nat),c.2[i]?=ω->('O'.take (TZ ws c.1 c.2).length)[i]?=se (nc x))/\(∀(i x:Nat),c.1[i]?=ω->('O'.drop (TZ ws c.1 c.2).length)[i]?=se (nh x)):=by(have gl:(TZ ws c.1 c.2).length=c.2.length:=by unfold TZ;simp);(have tl:[Se,c.1,c.2].length=c.1.length:=by unfold takesIn;simp);rw[gl,tl] at D;rw[gl];have n1:=pb hh;have n2:=pb hc;have ll:aa.length=c.2.length+c.1.length:=D.st.len;(have nl:'O'.length=c.2.length+c.1.length:=by unfold U0;rw[bq];exact ll);(have ew:∀x∈c.2,[Mg,x]=UG ws x:=λx hx=>by unfold UG;rw[Ta (hi x hx)]);(have pV:V8 ws c.2=[tv,c]:=by unfold V8 NAP.WE;rw[cH ew]);(have eg:TZ ws c.1 c.2++[Se,c.1,c.2]=c.2.map (λx=>UG ws x*(c.1.length:Int))++bh c.1.length [tv,c]:=by unfold TZ takesIn;rw[pV];congr 1;exact cH λx hx=>by rw[ew x hx]);rw[eg] at D;have uL:NAP.xbN OU c.1 c.2 (Uh aG c.1 c.2):=ki n1;(have hb:∀p∈Uh aG c.1 c.2,p.1<c.2.length/\p.2<c.1.length:=λp hp=>by obtain⟨g,t⟩:=p;obtain⟨x,h,g1,g2,_⟩:=(uL g t).mp hp;exact#[(aQ.mp g1).1,(aQ.mp g2).1]);refine#[λx=>[MS,c.2.idxOf x],λh=>[MS,c.2.length+c.1.idxOf h],?_,λi x hx=>?_,λi x hx=>?_];refine NAP.cut_of (aj:=Uh aG c.1 c.2) uL (yw hb) D (λi x hx=>by rw[vK n2 hx]) (λi x hx=>by rw[vK n1 hx]) ?_;(have e1:(c.1.map λ_=>[tv,c]).sum=(c.1.length:Int)*[tv,c]:=by generalize[tv,c]=W;induction c.1 with| nil=>simp| cons a r ih=>simp[ih];rw[oP];lia);rw[e1];unfold NAP.WE;rw[NAP.Yi];congr 1;exact cH λx _=>hO _ _;have mL:='r'.1;show _=se [MS,c.2.idxOf x];rw[xw,Ta mL,vK n2 hx];have e:=Do (aa:=aa) (e:=i) (by lia);rw[<-e,aV (by lia)];simp[hW,aV (show i<(U0 aa).length by lia)];have mL:='r'.1;show _=se [MS,c.2.length+c.1.idxOf x];rw[u4,vK n1 hx];have e:=Do (aa:=aa) (e:=c.2.length+i) (by lia);rw[<-e,aV (by lia)];simp[hW,aV (show c.2.length+i<(U0 aa).length by lia)]
end
def sJ (ws:xam)(aG:xag)(c:NAP.Cr):Prop:=NAP.Hi J4 OU c [tv,c] c.1.length
theorem za6 (C:NAP.Cut J4 OU c.1 c.2 c.1.length [tv,c] nc nh)(hn:∀h∈c.1,ϥ=fh)(own:∀x∈c.2,∃h∈c.1,h∈UP aG x):sJ ws aG c:=by have h:=C.hi_rest;(have e:NAP.aY c nc nh=c:=by unfold NAP.aY;(have e2:(c.2.filter λx=>! nc x)=c.2:=xq.mpr λx hx=>by obtain⟨h,h1,h2⟩:=own x hx;cases q:nc x with| false=>rfl| true =>have:=C.up x hx h h1 h2 q;simp_all);rw[xq.mpr λh hh=>ε,e2]);rwa [e] at h
theorem zaZ (D:DoOk ws aG ag)(h0:0<ag):NAP.Xv J4 OU ag ws.length [('3',Jv)]:=by refine#[λi x y hx hy=>?_,λc hc=>?_,λc hc x hx=>?_,λi c hc x hx h hh=>?_,λh=>?_,λx=>?_,λc hc=>?_,λc hc=>?_];trivial;intro e;simp_all;rw[cO.mp hc] at hx ⊢;have g8:=MF;obtain⟨h,r,e⟩:=uU (D.some x g8);(have hm:h∈UP aG x:=by rw[e];exact aR);exact#[h,dA.mpr (D.lt x g8 h hm),hm];have hi:=(aQ.mp hc).1;simp at hi;subst hi;simp at hc;subst hc;have g8:=MF;exact#[0,_,ϱ,rfl,dA.mpr (D.lt x g8 h hh)];simp_all;simp_all;rw[cO.mp hc];exact A6;rw[cO.mp hc];exact A6
section
end
noncomputable def xaB (U:Jc):Nat:=(U.map λc=>2*c.1.length-1).sum
theorem Dx:∀{l:xat} {k n:Nat},l.Pairwise (· < ·)->(∀x∈l,k<=x)->(∀x∈l,x<n)->l≠[]->k+l.length<=n| [],_,_,_,_,_,h=>[Oq,h]| x::r,k,n,h,hk,hn,_=>by rw[u5] at h;have h1:=hk x aR;have h2:=hn x aR;by_cases c:r=[];subst c;exact ke h1 h2;have ih:=Dx (k:=k+1) h.2 (λy hy=>by have:=h.1 y hy;lia) (λy hy=>hn y (a7 _ hy)) c;rw[fO];lia
theorem lD {l:xat}(h:l.Pairwise (· < ·))(hb:∀x∈l,x<n):l.length<=n:=by by_cases c:l=[];subst c;simp;have:=Dx h (λ_ _=>ja _) hb c;simp_all
theorem zdF {l:xat}(hn:l.Nodup)(hb:∀x∈l,x<n):l.length<=n:=by have p:(l.mergeSort (λa b=>decide (a<=b))).Perm l:=List.mergeSort_perm l _;(have rs:(l.mergeSort (λa b=>decide (a<=b))).Pairwise (· < ·):=((List.pairwise_mergeSort (λa b c h1 h2=>by lia) (λa b=>by lia) l).and (p.nodup_iff.mpr hn)).imp λh=>by lia);have:=lD rs λx hx=>hb x (p.mem_iff.mp hx);simp_all
theorem Dy (C:NAP.Xv J4 OU ag ae L)(hm:ag<=20:=by assumption):L.length<=20:=by(have bE:∀(L:List NAP.Cr),(∀c∈L,c.1≠[])->L.length<=(L.map λc=>c.1.length).sum:=by intro L;induction L with| nil=>trivial| cons c r ih =>intro h;have a:=ih λd hd=>h d (a7 _ hd);have b:=fM.mpr (h c aR);simp;lia);have a:=bE L C.ne;(have WE:∀(L:List NAP.Cr),(∀h,(L.map λc=>c.1.count h).sum<=if h<ag then 1 else 0)->(L.map λc=>c.1.length).sum<=ag:=by intro L hL;(have e:(L.map λc=>c.1.length).sum=(L.flatMap λc=>c.1).length:=by rw[List.length_flatMap]);rw[e];(have cnt:∀h,(L.flatMap λc=>c.1).count h=(L.map λc=>c.1.count h).sum:=λh=>by rw[xy];rfl);(have nd:=xh.mpr λh=>by rw[cnt];have:=hL h;lia);(have lt:∀h∈L.flatMap λc=>c.1,h<ag:=λh hh=>by have p:=xz.mpr hh;rw[cnt] at p;have:=hL h;lia);exact zdF nd lt);(have b:=WE L λh=>by rw[C.hs h];simp_all);lia
theorem Kh:∀{l:xat} {x:Nat},x∈l->x<=l.sum:=by intro r;induction r with| nil =>rintro _ h;cases h| cons y r ih =>rintro x h;rw[cq];rcases bi.mp h with rfl | h;simp_all;have:=ih h;lia
structure Zw (ws:xam)(L:Jc)(ps:xaj):Prop where
 len:ps.length=L.length
 at_:∀(i:Nat) c p,L[i]?=ϛ->ps[i]?=ϕ->LY/\p.1*(c.1.length:Int)=[tv,c]*p.2
structure Yc (ws:xam)(aG:xag)(ag:Nat)(L:Jc):Prop where
 none:ag=0->L=[]
 cr:0<ag->NAP.Xv J4 OU ag ws.length L
 rst:∀c∈L,sJ ws aG c
theorem Yc.lt (C:Yc ws aG ag L)(hc:c∈L):(∀h∈c.1,h<ag)/\(∀x∈c.2,x<ws.length)/\c.1≠[]/\c.1.Pairwise (· < ·)/\c.2.Pairwise (· < ·):=by(have h0:0<ag:=by rcases qM ag with z | z;rw[C.none z] at hc;cases hc;exact z);have K:=C.cr h0;(have one:∀(f:NAP.Cr->Nat),f c<=(L.map f).sum:=λf=>by have:f c∈L.map f:=aU.mpr #[c,hc,rfl];exact Kh this);refine#[λh hh=>?_,λx hx=>?_,K.ne c hc,K.hr c hc,K.cr c hc];have a:=one λc=>c.1.count h;rw[K.hs h] at a;grind;have a:=one λc=>c.2.count x;rw[K.cs x] at a;grind
theorem Yc.few (C:Yc ws aG ag L)(hm:ag<=20):L.length<=20:=by rcases qM ag with z | z;rw[C.none z];simp;exact Dy (C.cr z) hm
structure Yv (ag:Nat)(L:Jc)(ps qs:xaj):Prop where
 len:qs.length=ag
 at_:∀(i:Nat) c p,L[i]?=ϛ->ps[i]?=ϕ->∀h∈c.1,qs[h]?=ϕ
def Y7 (n ag:Nat)(aG:xag):Prop:=aG.length=n/\∀r∈aG,r≠[]/\r.Pairwise (· < ·)/\∀h∈r,h<ag
theorem Y7.doOk (h:Y7 n ag aG)(hw:ws.length=n)(hm:ag<=20):DoOk ws aG ag:=by(have look:∀c<ws.length,UP aG c∈aG:=λc hc=>by(have qq:c<aG.length:=by rw[h.1];simp_all);grind[UP,hW,aV,ka]);exact#[hm,λc hc=>(h.2 _ (look c hc)).1,λc hc=>(h.2 _ (look c hc)).2.2]
section
variable {ws:xam}{aG:xag}{ag:Nat}{L:Jc}{ps:xaj}
theorem zcv (hg:bQ n d=1)(h:n*k=t*d):d∣k:=by(have hg':Nat.Coprime d.natAbs n.natAbs:=by grind[bQ,nj]);(have h2:d.natAbs∣n.natAbs*k.natAbs:=by rw[<-kW];simp_all);exact qB.mp (hg'.dvd_of_dvd_mul_left h2)
theorem Kj (hp:∀x∈ws,1<=x)(c:NAP.Cr):0<=[tv,c]:=by refine NAP.xas λi x hx=>?_;obtain⟨y,_,rfl⟩:=aU.mp R7;exact cE (sH hp y)
theorem Zw.part (lo:Zw ws L ps)(co:Yc ws aG ag L)(hm:ag<=20)(hp:∀x∈ws,1<=x)(hb:∀x∈ws,Bd 300 x)(hw:ws.length<=20){i:Nat}(hc:L[i]?=ϛ)(hi:ps[i]?=ϕ):LY/\0<=p.1/\p.2<=20/\Bd 400 p.1:=by obtain⟨gz,e⟩:=lo.at_ i c p hc hi;obtain⟨l1,l2,ne,r1,r2⟩:=co.lt JS;have ax:=fM.mpr ne;have cl:=lD r1 l1;have jx:=lD r2 l2;have d1:=gz.1;have d20:=Int.le_of_dvd ε (zcv gz.2 e);(have n0:0<=p.1:=by rcases g9 p.1 0 with z | z;have a:p.1*c.1.length<0:=Int.mul_neg_of_neg_of_pos z ε;have b:0<=[tv,c]*p.2:=jq (Kj hp c) (by exact cE d1);lia;exact z);(have pV:V8 ws c.2=[tv,c]:=by unfold V8 NAP.WE;rw[cH λx hx=>?_];unfold UG;simp_all);have wb:=(Dv hb (by exact cf jx hw) l2).le (show 300+c.2.length<=320 by lia);rw[pV] at wb;have b2:Bd 325 ([tv,c]*p.2):=Bd.mul (n:=5) wb (by show _<_;lia);refine#[gz,n0,by lia,(b2.le (by decide)).of_le ?_];rw[<-e];(have:=by have:=uO (show(1:Int)<=c.1.length by exact hK d1 d20) n0;lia);lia
theorem Zw.falls (lo:Zw ws L ps)(co:Yc ws aG ag L)(hp:∀x∈ws,1<=x)(hc:L[i]?=ϛ)(hd:L[i+1]?=ϩ)(h1:ps[i]?=ϕ)(h2:ps[i+1]?=Ϡ):q.1*p.2<p.1*q.2:=by(have h0:0<ag:=by rcases qM ag with z | z;rw[co.none z] at hc;simp at hc;exact z);obtain⟨lp,ep⟩:=lo.at_ i c p hc h1;obtain⟨lq,eq⟩:=lo.at_ (i+1) d q hd h2;have p2:=lp.1;have q2:=lq.1;have m:0<p.2*q.2:=kX (by assumption) (by assumption);have a:=qz (NAP.Xv.fall (sH hp) (co.cr h0) hc hd) m;(have e1:[tv,d]*c.1.length*(p.2*q.2)=(q.1*p.2)*(c.1.length*d.1.length):=by grind);(have e2:[tv,c]*d.1.length*(p.2*q.2)=(p.1*q.2)*(c.1.length*d.1.length):=by grind);rw[e1,e2] at a;exact uP a (jq ε ε)
noncomputable def Zc (L:Jc) (i:Nat):xat:=(L.take i).flatMap (·.1)
noncomputable def Y5 (L:Jc) (i:Nat):xat:=(L.take i).flatMap (·.2)
theorem vL (co:Yc ws aG ag L)(h0:0<ag):(Zc L L.length).Perm '3':=by rw[Be];intro h;unfold Zc;rw[MM,xy,Bp];exact(co.cr h0).hs h
theorem yC (co:Yc ws aG ag L)(h0:0<ag):(Y5 L L.length).Perm Jv:=by rw[Be];intro h;unfold Y5;rw[MM,xy,Bp];exact(co.cr h0).cs h
end
def QOk (qs:xaj):Prop:=∀q∈qs,1<=q.2/\q.2<=20/\0<=q.1/\Bd 400 q.1
end NAM
namespace NAP
theorem vM (f:α->xat)(g:Nat->Int):∀L:ϐ,((L.flatMap f).map g).sum=(L.map λc=>((f c).map g).sum).sum:=by intro r;induction r with| nil =>exact rfl| cons c r ih =>rw[Bj,dz,kb,bz,cq,ih]
theorem vO {l m:xat}(g:Nat->Int)(h:l.Perm m):'N'.sum=(m.map g).sum:=by induction h with| nil=>rfl| cons x _ ih=>rw[bz,bz,cq,cq,ih]| swap x y l=>simp only[bz,cq];lia| trans _ _ a b=>exact a.trans b
theorem Za {f g:α->Int}:∀{l:List α},(∀x∈l,f x<=g x)->'>'.sum<='N'.sum:=by intro r;induction r with| nil =>rintro _;exact de _| cons x r ih =>rintro h;have a:=h x aR;have b:=ih λy hy=>h y (a7 x hy);exact NAG.gl40 a b
theorem YM (f:α->Int)(k:Int):∀l:ϐ,'>'.sum*k=(l.map λx=>f x*k).sum:=by intro r;induction r with| nil =>simp| cons x r ih =>rw[bz,bz,cq,cq,oP,ih]
theorem sum_eqI {f g:α->Int}:∀{l:List α},(∀x∈l,f x<=g x)->'N'.sum<='>'.sum->∀x∈l,f x=g x:=by intro r;induction r with| nil =>rintro _ _ x hx;cases hx| cons y r ih =>rintro h k x hx;rw[bz,bz,cq,cq] at k;have a:=h y aR;have b:=Za λz hz=>h z (a7 y hz);rcases bi.mp hx with rfl | hx;lia;exact ih (λz hz=>h z (a7 y hz)) (NAG.gl65 k a) x hx
noncomputable def SH (ag:Nat) (T:Nat->Bool) (x:Nat->Int):Int:=('3'.map λh=>if T h then x h else 0).sum
noncomputable def IW (wk:Nat->Int) (dr:Nat->xat) (ae:Nat) (T:Nat->Bool):Int:=((aT ae).map λk=>if(dr k).all T then wk k else 0).sum
structure Sol (wk:Nat->Int)(dr:Nat->xat)(ag ae:Nat)(M:Int)(L:List Cr)(x:Nat->Int):Prop where
 hp:(L.flatMap (·.1)).Perm '3'
 cp:(L.flatMap (·.2)).Perm (aT ae)
 hi:∀c∈L,Hi wk dr c (WE wk c) c.1.length
 ne:∀c∈L,c.1≠[]
 eq:∀c∈L,∀h∈c.1,x h*c.1.length=WE wk c*M
 up:∀(i:Nat) c,L[i]?=ϛ->∀k∈c.2,∀h∈dr k,∃(j:Nat) (d:Cr),j<=i/\L[j]?=ϩ/\h∈d.1
 fall:∀(i:Nat) c d,L[i]?=ϛ->L[i+1]?=ϩ->∀h∈c.1,∀g∈d.1,x g<x h
 wp:∀k,0<wk k
 mp:0<M
section
variable {wk:Nat->Int}{dr:Nat->xat}{ag ae:Nat}{M:Int}{L:List Cr}{x:Nat->Int}
theorem Sol.len (S:Sol wk dr ag ae M L x)(hc:c∈L):(0:Int)<c.1.length:=by have:=fM.mpr (S.ne c hc);simp_all
theorem Sol.same (S:Sol wk dr ag ae M L x)(hc:c∈L)(hh:h∈c.1)(hg:g∈c.1):x h=x g:=by have a:=S.eq c hc h hh;have b:=S.eq c hc g hg;grind[lW]
theorem Sol.borne (S:Sol wk dr ag ae M L x)(T:Nat->Bool):IW wk dr ae T*M<=SH ag T x:=by unfold IW SH;rw[<-vO _ S.cp,<-vO _ S.hp,vM,vM,YM];refine Za λc hc=>?_;have hn:=S.len hc;obtain⟨h0,r0,e0⟩:=uU (S.ne c hc);(have m0:h0∈c.1:=by rw[e0];exact aR);have ex:=S.eq c hc h0 m0;(have one:(c.2.map λk=>if(dr k).all T then wk k else 0).sum<=Yk wk dr c T:=by unfold Yk;refine Za λk hk=>?_;have wpk:=S.wp k;by_cases a:(dr k).all T=tj;(have b:(c.1.all λh=>(!(dr k).contains h||T h))=tj:=iO.mpr λh hh=>by cases q:(dr k).contains h with| false=>rfl| true =>have:=iO.mp a h (kY.mp q);rw[this];rfl);rw[Ta a,Ta b];exact lT;rw[S9 a];split<;>lia);(have two:(c.1.map λh=>if T h then x h else 0).sum=x h0*cnt c T:=by unfold cnt;rw[Yi];congr 1;refine cH λh hh=>?_;rw[S.same hc hh m0];split<;>simp);rw[two];have thr:=S.hi c hc T;refine hK (kS one (by have:=S.mp;exact Mx)) ?_;refine wZ (a:=(c.1.length:Int)) ?_ hn;(have e1:x h0*cnt c T*(c.1.length:Int)=WE wk c*cnt c T*M:=by rw[mY,ex,mY]);rw[e1,mY,hO (Yk wk dr c T) _];exact kS thr (by have:=S.mp;exact Mx)
theorem Sol.falls (S:Sol wk dr ag ae M L x):∀(n i:Nat) {c d:Cr},L[i]?=ϛ->L[i+n]?=ϩ->∀h∈c.1,∀g∈d.1,x g<=x h| 0,i,c,d,hc,hd,h,hh,g,hg=>by rw[Nat.add_zero,hc] at hd;cases hd;have:=S.same JS hh hg;simp_all| n+1,i,c,d,hc,hd,h,hh,g,hg=>by have fI:=(aQ.mp hd).1;have he:=aV (by exact fF fI);obtain⟨g0,r0,e0⟩:=uU (S.ne _ (aM he));(have m0:g0∈(L[i+n]'(by exact fF fI)).1:=ε);have a:=S.falls n i hc he h hh g0 m0;have b:=S.fall (i+n) _ _ he hd g0 m0 g hg;lia
theorem Sol.tight (S:Sol wk dr ag ae M L x)(v:Int):SH ag (λh=>decide (v<=x h)) x<=IW wk dr ae (λh=>decide (v<=x h))*M:=by unfold IW SH;rw[<-vO _ S.cp,<-vO _ S.hp,vM,vM,YM];refine Za λc hc=>?_;obtain⟨i,hi⟩:=bH hc;obtain⟨h0,r0,e0⟩:=uU (S.ne c hc);(have m0:h0∈c.1:=ε);by_cases q:v<=x h0;(have one:(c.1.map λh=>if decide (v<=x h)=tj then x h else 0).sum=x h0*c.1.length:=by(have:(c.1.map λh=>if decide (v<=x h)=tj then x h else 0)=c.1.map λ_=>x h0*1:=cH λh hh=>by rw[S.same hc hh m0,Ta (Tc q),Int.mul_one]);rw[this,<-Yi];congr 1;induction c.1 with| nil=>rfl| cons y r ih=>grind);(have two:(c.2.map λk=>if(dr k).all (λh=>decide (v<=x h))=tj then wk k else 0).sum=WE wk c:=by congr 1;refine cH λk hk=>Ta (iO.mpr λh hh=>Tc ?_);obtain⟨j,d,hj,hd,iL⟩:=S.up i c hi k hk h hh;have:=S.falls (i-j) j hd ε h iL h0 m0;exact NAG.gl66 q this);rw[one,two,S.eq c hc h0 m0];simp_all;(have one:(c.1.map λh=>if decide (v<=x h)=tj then x h else 0).sum=0:=by(have:(c.1.map λh=>if decide (v<=x h)=tj then x h else 0)=c.1.map λ_=>0:=cH λh hh=>by rw[S.same hc hh m0,S9 (λz=>q (Td z))]);rw[this];induction c.1 with| nil=>rfl| cons y r ih=>simp_all);rw[one];refine jq ?_ (by have:=S.mp;exact Mx);(have:(c.2.map λ_=>0).sum<=(c.2.map λk=>if(dr k).all (λh=>decide (v<=x h))=tj then wk k else 0).sum:=Za λk _=>by have:=S.wp k;lia);(have z:∀l:xat,(l.map λ_=>(0:Int)).sum=0:=λl=>by induction l with| nil=>rfl| cons y r ih=>simp_all);simp_all
end
end NAP
namespace NAM
open PySem NAL NAL.EX
noncomputable def xax:xaj->Int| []=>1| p::r=>p.2*xax r
theorem Dz:∀{ps:xaj},(∀p∈ps,1<=p.2)->0<xax ps:=by intro r;induction r with| nil =>rintro _;decide| cons p r ih =>rintro h;have a:=h p aR;exact kX (by assumption) (ih λq hq=>h q (a7 _ hq))
theorem sK:∀{ps:xaj} {p:xaE},p∈ps->p.2∣xax ps| q::r,p,h=>by show p.2∣q.2*xax r;rcases PT with rfl | h;simp_all;exact qD (sK h) (Int.dvd_mul_left _ _)
theorem zbq (l1:LY)(l2:ZI q)(e:p.1*q.2=q.1*p.2):p=q:=by have h1:=l1.1;have h2:=l2.1;have e2:=Int.dvd_antisymm (by exact cE h1) (by exact cE h2) (vE l1.2 e).1 (vE l2.2 e.symm).1;grind[lW,Prod.ext]
noncomputable def xOf (qs:xaj) (M:Int) (h:Nat):Int:=(qs.getD h (0,1)).1*(M/(qs.getD h (0,1)).2)
theorem yD {qs:xaj}(hp:qs[h]?=ϕ)(hd:p.2∣M):xOf qs M h*p.2=p.1*M:=by grind[xOf,bO,i6,AO]
variable {ws:xam}{aG:xag}{ag:Nat}{L:Jc}{ps qs:xaj}
theorem pd:(L.take L.length).flatMap f=L.flatMap f:=ε
theorem Yv.of_hand (lk:Yv ag L ps qs)(lo:Zw ws L ps)(co:Yc ws aG ag L)(h0:0<ag)(hh:h<ag):∃(i:Nat) (c:NAP.Cr) (p:xaE),L[i]?=ϛ/\ps[i]?=ϕ/\h∈c.1/\qs[h]?=ϕ:=by have hm:=(vL co h0).mem_iff.mpr (dA.mpr hh);unfold Zc at hm;rw[pd] at hm;obtain⟨c,hc,iL⟩:=jO.mp hm;obtain⟨i,hi⟩:=bH hc;have hp:ps[i]?=se (ps[i]'(by rw[lo.len];exact 'U'.1)):=aV _;exact#[i,c,_,hi,hp,iL,lk.at_ i c _ hi hp h iL]
theorem Yv.sol (lk:Yv ag L ps qs)(lo:Zw ws L ps)(co:Yc ws aG ag L)(h0:0<ag)(hp:∀x∈ws,1<=x)(hM:0<M)(hd:∀p∈ps,p.2∣M):NAP.Sol J4 OU ag ws.length M L (xOf qs M):=by have K:=co.cr h0;(have Zl:∀{i:Nat} {c:NAP.Cr},L[i]?=ϛ->∃p,ps[i]?=ϕ/\p.2∣M/\LY/\p.1*c.1.length=[tv,c]*p.2/\∀h∈c.1,xOf qs M h*p.2=p.1*M:=λ{i c} hi=>by have hp:ps[i]?=se (ps[i]'(by rw[lo.len];exact 'U'.1)):=aV _;have a:=lo.at_ i c _ hi hp;have d:=hd _ (aM hp);exact#[_,hp,d,a.1,a.2,λh hh=>yD (lk.at_ i c _ hi hp h hh) d]);refine#[by have:=vL co h0;unfold Zc at this;rwa [pd] at this,by have:=yC co h0;unfold Y5 at this;rwa [pd] at this,λc hc=>co.rst c hc,K.ne,λc hc h hh=>?_,K.up,λi c d hc kM h hh g hg=>?_,λk=>sH hp k,hM];obtain⟨i,hi⟩:=bH hc;obtain⟨p,_,_,gz,e,ex⟩:=Zl hi;refine lW (by have:=gz.1;exact dF this) ?_;rw[mY,ex h hh,mY,e,mY];obtain⟨p,hp1,_,gz,_,ex⟩:=Zl hc;obtain⟨q,hq1,_,low',_,ey⟩:=Zl kM;have l1:=gz.1;have l2:=low'.1;have pos:0<p.2*q.2:=kX (by assumption) (by assumption);refine uP (a:=p.2*q.2) ?_ (by exact cE pos);(have a1:xOf qs M g*(p.2*q.2)=q.1*p.2*M:=by rw[hO p.2 q.2,<-i6,ey g hg,mY]);(have a2:xOf qs M h*(p.2*q.2)=p.1*q.2*M:=by rw[<-i6,ex h hh,mY]);rw[a1,a2];exact qz (lo.falls co hp hc kM hp1 hq1) hM
theorem Yv.qok (lk:Yv ag L ps qs)(lo:Zw ws L ps)(co:Yc ws aG ag L)(h0:0<ag)(hm:ag<=20)(hp:∀x∈ws,1<=x)(hb:∀x∈ws,Bd 300 x)(hw:ws.length<=20):QOk qs/\∀q∈qs,ZI q:=by(have all:∀q∈qs,ZI q/\0<=q.1/\q.2<=20/\Bd 400 q.1:=λq hq=>by obtain⟨h,hh⟩:=Rk;have hl:=(aQ.mp hh).1;rw[lk.len] at hl;obtain⟨i,c,p,h1,h2,h3,h4⟩:=lk.of_hand lo co h0 hl;rw[hh] at h4;cases h4;exact lo.part co hm hp hb hw h1 h2);exact#[λq hq=>#[(all q hq).1.1,(all q hq).2.2.1,(all q hq).2.1,(all q hq).2.2.2],λq hq=>(all q hq).1]
section
end
end NAM
namespace NAP
theorem Xa:∀l:ϐ,(l.map λ_=>(0:Int)).sum=0:=by intro r;induction r with| nil =>exact rfl| cons x r ih =>rw[bz,cq,ih];rfl
section
end
end NAP
namespace NAM
open PySem NAL NAL.EX
section
end
noncomputable def vl (M:Int) (p:xaE):Int:=p.1*(M/p.2)
theorem yE (h:p.2∣M):vl M p*p.2=p.1*M:=by unfold vl;rw[i6,AO h]
theorem zcX:∀{l:xam},(∀x∈l,0<=x)->0<=l.sum:=by intro r;induction r with| nil =>decide| cons x r ih =>rintro h;rw[cq];have:=h x aR;have:=ih λy hy=>h y (a7 _ hy);lia
theorem yF (f:α->β)(d:α):∀l:ϐ,((aT l.length).map λh=>f (l.getD h d))='>':=λl=>by refine xF (by simp) λk h1 h2=>?_;(have h2:=by simpa using h2);simp[bO,h2]
theorem vP (f:Nat->Int):∀n,[Jg,f]=((aT n).map f).sum:=by intro n;induction n with| zero =>exact rfl| succ n ih =>rw[nz,dz,kb,NAP.upTo,ih];simp
theorem kj {l:xat}(h:l.Nodup)(he:l[e]?=Ϸ):l.idxOf a=e:=by grind
theorem zch (S:Nat->Bool):NAP.bnd [CC,ts.length,aj] (gs++ts) S=NAP.upTo (λe=>if S e then 0 else gs.getD e 0) gs.length+NAP.upTo (λj=>if S (gs.length+j)then ts.getD j 0 else 0) ts.length:=by show NAP.upTo (λe=>if NAP.side [CC,ts.length,aj] S e then(gs++ts).getD e 0 else 0) (gs.length+ts.length)=_;rw[NAP.Xe];congr 1;refine NAP.Tx λe he=>?_;have:NAP.side [CC,ts.length,aj] S e=! S e:=Ta he;grind;refine NAP.Tx λe he=>?_;have:NAP.side [CC,ts.length,aj] S (gs.length+e)=S (gs.length+e):=S9 (show¬gs.length+e<gs.length from NAG.gl82);rw[this,yz]
theorem DC:∀{ends:xak} {ss:xam} {k:Nat} {p:Nat×Nat} {s:Int},(∀(k:Nat) s,ss[k]?=ϫ->0<=s)->ends[k]?=ϕ->ss[k]?=ϫ->s<=NAP.load ends ss p.1| [],_,_,_,_,_,h,_=>by simp at h| _::_,[],_,_,_,_,_,h=>by simp at h| q::r,x::y,0,p,s,hn,h1,h2=>by simp at h1 h2;subst h1 h2;have:=Dp r y q.1 λk s hs=>hn (k+1) s (by simpa using hs);simp only[NAP.load,NAP.inc];simp;lia| q::r,x::y,k+1,p,s,hn,h1,h2=>by have ih:=DC (ends:=r) (ss:=y) (k:=k) (p:=p) (s:=s) (λk s hs=>hn (k+1) s (by simpa using hs)) (by simpa using h1) (by simpa using h2);have:=hn 0 x rfl;simp only[NAP.load];split<;>lia
section
end
end NAM
namespace NAP
structure Ev (own:(Nat->Bool)->Int)(ag:Nat)(x:Nat->Int):Prop where
 borne:∀T,own T<=SH ag T x
 tight:∀v:Int,SH ag (λh=>decide (v<=x h)) x<=own λh=>decide (v<=x h)
section
end
theorem Sol.ev (S:Sol wk dr ag ae M L x):Ev (λT=>IW wk dr ae T*M) ag x:=#[S.borne,S.tight]
end NAP
namespace NAL.EX
section
open PySem
end
end NAL.EX
namespace NAM
open PySem NAL NAL.EX
noncomputable def ownW (ws:xam) (aG:xag) (M:Int) (T:Nat->Bool):Int:=NAP.IW J4 OU ws.length T*M
def ph (p:xaE):Prop:=LY/\0<=p.1/\p.2<=20/\Bd 400 p.1
structure Borns (ws:xam)(aG:xag)(ag:Nat)(qs:xaj):Prop where
 len:qs.length=ag
 ok:∀q∈qs,ph q
 ev:∃D:Int,0<D/\(∀q∈qs,q.2∣D)/\∀M:Int,0<M->D∣M->NAP.Ev (ownW ws aG M) ag (xOf qs M)
theorem Kn {ps qs:xaj}(co:Yc ws aG ag L)(lo:Zw ws L ps)(lk:Yv ag L ps qs)(h0:0<ag)(hm:ag<=20)(hp:∀x∈ws,1<=x)(hb:∀x∈ws,Bd 300 x)(hw:ws.length<=20):Borns ws aG ag qs:=by obtain⟨qok,qlow⟩:=lk.qok lo co h0 hm hp hb hw;(have gz:∀p∈ps,1<=p.2:=λp hp=>by obtain⟨i,hi⟩:=bH hp;have mL:='U'.1;rw[lo.len] at mL;exact(lo.at_ i _ p (aV mL) hi).1.1);refine#[lk.len,λq hq=>#[qlow q hq,(qok q hq).2.2.1,(qok q hq).2.1,(qok q hq).2.2.2],xax ps,Dz gz,λq hq=>?_,λM hM hd=>?_];obtain⟨h,hh⟩:=Rk;have hl:=(aQ.mp hh).1;rw[lk.len] at hl;obtain⟨i,c,p,_,h2,_,h4⟩:=lk.of_hand lo co h0 hl;rw[hh] at h4;cases h4;exact sK (aM h2);exact(lk.sol lo co h0 hp hM λp hp=>qD (sK hp) hd).ev
section
variable {ws:xam}
theorem zcL {q q':xaE}(hM:0<M)(l1:1<=q.2)(l2:1<=q'.2)(a1:x*q.2=q.1*M)(a2:x'*q'.2=q'.1*M)(h:x<=x'):q.1*q'.2<=q'.1*q.2:=by have pos:0<q.2*q'.2:=kX (by assumption) (by assumption);have:=kS h (show 0<=q.2*q'.2 by exact cE pos);refine wZ ?_ hM;(have c2:q'.1*q.2*M=x'*(q.2*q'.2):=by grind);lia
theorem vQ (h:k<ws.length):UG ws k=[Mg,k]:=Ta h
end
end NAM
namespace NAL.EX
open PySem PySem.Spec PyProof.Rows
open Builtin Builtin.ObjectAttr
def Y9 (a C:Tn)(h:TU):Prop:=∃o vs,'@'=ζ/\o.cls=H1/\o.data=KL
structure xaf (K:a9)(C:Tn):Prop where
 ga:[TT,K,"__getattribute__"]=se [TO,"BaseException.__getattribute__"]
 hook:[TT,K,"__getattr__"]=PV
 cls:[TT,K,"__class__"]=se [TO,"object.__class__"]
 get:Cg K (.builtin "object.__class__") "__get__"=se [TO,"getset_descriptor.__get__"]
 take:Ck K (.builtin "object.__class__")=BT
 obj:l8 K C (.type "object")=BT
 bas:l8 K C (.type "BaseException")=BT
 is:(o6 K C).isSome=tj
section
variable {K:a9}{a C:Tn}{h:TU}{M:Model}
theorem Y9.type (x:Y9 a C h):nR M h (typeOf ψ) H1:=by obtain⟨o,vs,e,c,_⟩:=x;exact c▸(PySem.W.Looks.ld e).andThen .now
theorem xaf.look (Z:xaf K C)(X:IF):nR M h (find ψ H1 "__class__") (.bind (.builtin "getset_descriptor.__get__") (.builtin "object.__class__")):=by have l1:=vk (M:=M) X Z.cls;have l2:nR M h (getOf [TO,"object.__class__"]) [TO,"getset_descriptor.__get__"]:=PySem.W.looks_specialIn X Z.get;have l3:nR M h (dataDescriptor? [TO,"object.__class__"] [TO,"getset_descriptor.__get__"]) (se (.builtin "getset_descriptor.__get__",.builtin "object.__class__")):=(PySem.W.looks_takesIn X Z.take).andThen .now;exact l1.andThen (l2.andThen (l3.andThen (PySem.W.Looks.tag .now)))
theorem xaf.isT (Z:xaf K C)(X:IF):nR M h (isType H1) tj:=by have z:=Z.is;unfold o6 at z;split at z;rename_i c1 d1 cd1 sl1 ho;intro A1 Q1 E1 s1 k q;exact Ti (wpAny_loadPart (k _ _ (X _ _ ho)) (Tq q));cases z
end
section
variable {prog:TF}{w:Ud}{A:TC}{E:Value->Tj->Prop}{s:Tj}{K:a9}{a C:Tn}
theorem zbM (Z:xaf K C)(X:IZ)(x:Y9 a C s.heap)(q:R [JF,H1] s) :Wh [ϑ,w] A (.call (.builtin "getset_descriptor.__get__") #[[.builtin "object.__class__",ψ,tp],[]]) R s:=by obtain⟨hh,g,dr,t,os⟩:=s;have L0:=x.type (M:=[ϑ,w]);have L1:=vm (M:=[ϑ,w]) X Z.obj;refine WJ Co.plain PySem.W.KF.entry_gs (Co.check _ _ _ _ _ _ _ _ PySem.W.KF.type_class (PySem.W.KF.args_gs _ _ _) ?_);unfold Builtin.«getset_descriptor.__get__» Builtin.Getset_descriptor.descrGet;rw[PySem.W.dga_obj];refine Ti (Tq ?_);unfold Builtin.Getset_descriptor.descrGetter Builtin.Getset_descriptor.descrCheckInstance Builtin.Getset_descriptor.descrNameAndClass isInstance;simp only[PySem.W.KF.owner_class];(repeat lk);refine#[Code.quiet_builtin _ (by decide +kernel),Vk PySem.W.KF.entry_class ?_];unfold Builtin.«object.__class__» shownTypeOf;(repeat lk);exact q
theorem zde (Z:xaf K C)(X:IZ)(x:Y9 a C s.heap)(q:Q (.done (.ret H1)) s) :Tv [ϑ,w] A (Builtin.«object.__getattribute__» #[[ψ,.str "__class__" tk],[]]) Q E s:=by have L0:=x.type (M:=[ϑ,w]);have L1:=Z.look (M:=[ϑ,w]) (a:=a) X;(repeat(fail_if_success(with_reducible show Tv _ _ (call _ _) _ _ _));lk);exact Wp (zbM Z X x (Tq q))
theorem Ks:builtinKind "BaseException.__getattribute__"=se .slot:=by decide +kernel
theorem Kt:splitId "BaseException.__getattribute__"=se ("BaseException","__getattribute__"):=by decide +kernel
theorem zaI (Z:xaf K C)(X:IZ)(x:Y9 a C s.heap)(q:Q () s):Tv [ϑ,w] A (checkBuiltinCall "BaseException.__getattribute__" #[[ψ,v],[]]) Q E s:=by have L:nR [ϑ,w] s.heap (isInstance ψ (.type "BaseException")) tj:=x.type.andThen (vm X Z.bas);have ha:=PySem.F.args_bexc_ga ψ v;exact PySem.W.check_slot (M:=[ϑ,w]) (A:=A) (E:=E) (s:=s) (i:="BaseException.__getattribute__") (owner:="BaseException") (n:="__getattribute__") (self:=ψ) (rest:=[v]) (kw:=[]) (Q:=Q) Ks Kt L ha q
theorem Kv (Z:xaf K C)(X:IZ)(x:Y9 a C s.heap)(q:R [JF,H1] s) :Wh [ϑ,w] A (.call (.builtin "BaseException.__getattribute__") #[[ψ,.str "__class__" tk],[]]) R s :=WJ PySem.F.attr_ValueError.ga.plain PySem.F.entry_bexc_ga (zaI Z X x (zde Z X x q))
theorem zbH (Z:xaf K C)(X:IZ)(x:Y9 a C s.heap)(q:Q (se H1) { s with toks:=s.toks+1}):Tv [ϑ,w] A (X6 ψ "__class__") Q E s:=by obtain⟨hh,g,dr,t,os⟩:=s;have L0:=x.type (M:=[ϑ,w]);have L1:=vk (M:=[ϑ,w]) X Z.ga;have NAL:=vk (M:=[ϑ,w]) X Z.hook;unfold X6 getAttrBy? getAttrBy;refine Ti (wpAny_mkText (Ti (wpAny_attempt (UN (Ti (L0.at (Ti (L1.at ?_))))))));(have e1:(Value.builtin "BaseException.__getattribute__"==Value.builtin "object.__getattribute__")=fh:=by decide +kernel);(have e2:(onTheHeap (Value.ref C)&&Value.builtin "BaseException.__getattribute__"==Value.builtin "object.__getattribute__")=fh:=by rw[e1];rfl);dsimp only;refine Ti ?_;refine NAL.at ?_;refine Ti (wpAny_attempt (UN ?_));refine Wp (Kv Z X x ?_);exact Tq (Tq q)
theorem Kx (Z:xaf K C):PySem.W.KitX K ψ H1 (Y9 a C) where
 ty:=λ_ _ _ x=>x.type
 it:=λ_ _ X _=>Z.isT X
 ne:=λh tp dd cJ n sl X htp=>by
  refine fJ.mpr λq=>?_;have e:C=tp:=Value.ref.inj (beq_iff_eq.mp q);subst e;have z:=Z.is
  unfold o6 at z
  split at z
  .rename_i c1 d1 cd1 sl1 ho;have y:=(X _ _ ho).symm.trans htp;cases y
  .cases z
 ca:=λX x k=>zbH Z X x k
end
section
end
end NAL.EX
namespace NAL.EX
open PySem PySem.Spec PyProof.Rows
noncomputable def bmV:Ϛ:=[.type "ValueError",.type "Exception",.type "BaseException",.type "object"]
structure ExcD (K:a9)(mg:To->Hc)(x:To)(C:Tn):Prop where
 mg:mg x=se H1
 is:vw K C bmV "ValueError.__new__"=tj
 k:xaf K C
section
variable {x:To}{C:Tn}
theorem Ky {K:a9}(D:ExcD K mg x C)(W:IF):OwnCls x C bmV "ValueError.__new__" mg h:=by refine#[D.mg,?_];have q:=D.is;unfold vw at q;split at q;rename_i di cl st lk;split at q;rename_i C2 tl g0 g1 g2 g3 nw g5 em es';simp only[cC,beq_iff_eq,kR] at q;obtain⟨⟨⟨⟨⟨rfl,rfl⟩,q3⟩,q4⟩,q5⟩,q6⟩:=q;obtain⟨c1,c2,c3,c4,c5,c6,c7,c8,c9,c10,c11⟩:=cl;dsimp only at em q3 q5 q6;subst em q3;(have ZC:st=([g0,g1,g2,g3,[TO,"ValueError.__new__"],g5].toArray):=by obtain⟨l⟩:=st;exact congrArg Array.mk es');subst ZC;exact#[tl,c4,c1,c5,c2,c6,c7,c8,c9,c10,di,g0,g1,g2,g3,g5,_,W _ _ lk,.of_isNs (PySem.W.isNs_of_in W q5),PySem.W.nsMap_none_of_in W q5 q6,PySem.W.tail_of_in W q4];cases q;cases q
end
section
end
structure ExcY (K:a9)(mg:To->Hc)(y:To)(D C:Tn):Prop where
 mg:mg y=[TS,D]
 ty:x6 K (.ref D)=[P6,"type"]
 is:(o6 K D).isSome=tj
 bas:l8 K D (.type "BaseException")=BT
 up:l8 K C (.ref D)=BT
theorem zay {K:a9}(Y:ExcY K mg y D C)(W:IZ)(x:Y9 a C s.heap)(q:Q tj s) :Tv M A (excMatches ψ (.ref D)) Q E s:=by obtain⟨hh,g,dr,t,os⟩:=s;have L0:nR M hh (isInstance (.ref D) (.type "tuple")) fh:=(PySem.W.looks_typeIn W Y.ty).andThen (PySem.W.Looks.of_pure tc_notTuple);(have L1:nR M hh (isType (.ref D)) tj:=by have z:=Y.is;unfold o6 at z;split at z;rename_i c1 d1 cd1 sl1 ho;intro A1 Q1 E1 s1 k q;unfold isType loadHead;exact Ti (wpAny_loadPart (k _ _ (W _ _ ho)) (Tq q));cases z);have NAL:=vm (M:=M) W Y.bas;have L3:=x.type (M:=M);have L4:=vm (M:=M) W Y.up;(repeat lk);exact q
section
end
section
end
section
end
section
end
section
end
end NAL.EX
namespace NAL.RX
open PySem PySem.Spec PyProof.Rows NAL.EX
inductive D where
 | non | bl (b:Bool) | int (i:Int) | str (x:To) | lst (ds:θ) | tup (ds:θ) | dic (ks:Ϟ) (ds:θ) | at (i:Nat) | fn (k:Nat)
inductive TM where
 | ml (ds:θ) | mr (ns:xam) | md (ks:Ϟ) (ds:θ) | mi (c:Nat) (ds:θ) | mx (c:Nat) | mf (k:Nat) | no
abbrev TH:=List TM
abbrev Ul:=List R5
structure Lam where
 qual:To
 params:Arguments
 body:TV
 scope:WU
structure CT where
 K:a9
 cl:Nat->Tn
 nm:Nat->μ
 xc:Nat->Tn
 fa:Nat->Tn
 lm:Nat->Lam
 tb:Nat->Tn
 nl:Nat
section
end
section
end
def eg {α:Type} (l:ϐ) (n:Nat):Sw:=bY (motive:=λ_=>Nat->Sw) (λ_=>ng) (λv _ ih n=>kf (motive:=λ_=>Sw) (se v) (λm _=>ih m) n) l n
theorem aX:∀(l:List α) n,eg l n=l[n]?| [],n=>by simp[eg]| v::l,0=>rfl| v::l,n+1=>by rw[uW,<-aX l n];rfl
def ZC {α:Type} (l:ϐ) (n:Nat) (x:α):ϐ:=bY (motive:=λ_=>Nat->ϐ) (λ_=>[]) (λv t ih n=>kf (motive:=λ_=>ϐ) (x::t) (λm _=>v::ih m) n) l n
theorem eI (x:α):∀l n,ZC l n x=l.set n x| [],n=>rfl| v::l,0=>rfl| v::l,n+1=>by rw[qH,<-eI x l n];rfl
def eap {α:Type} (l m:ϐ):ϐ:=bY (motive:=λ_=>ϐ) m (λv _ ih=>v::ih) l
theorem gj (m:ϐ):∀l:ϐ,eap l m=l++m:=by intro l;induction l with| nil =>exact rfl| cons v l ih =>rw[oW,<-ih];rfl
def UJ {α:Type} (l:ϐ):Nat:=bY (motive:=λ_=>Nat) 0 (λ_ _ ih=>jb ih) l
theorem aW:∀l:ϐ,UJ l=l.length:=by intro l;induction l with| nil =>exact rfl| cons v l ih =>rw[fO,<-ih];rfl
def T6 {α β:Type} (f:α->MY) (l:ϐ):Option QX:=bY (motive:=λ_=>Option QX) (se []) (λv _ ih=>match f v with| some x=>(match ih with| some xs=>se (x::xs)| none=>ng)| none=>ng) l
theorem TW {f:α->MY}{v:α}{l:ϐ}{ys:QX}:T6 f (v::l)=se ys↔∃x xs,f v=ω/\T6 f l=se xs/\ys=x::xs:=by show(match f v with| some x=>(match T6 f l with| some xs=>se (x::xs)| none=>ng)| none=>ng)=se ys↔_;cases f v with| none=>simp| some x=>cases T6 f l with| none=>simp| some xs=>exact#[λh=>#[x,xs,rfl,rfl,(dU h).symm],λ#[_,_,h1,h2,h3]=>by cases h1;cases h2;rw[h3]]
noncomputable def iLt:Int->Int->Bool| .ofNat a,.ofNat b=>bI a b| .ofNat _,.negSucc _=>fh| .negSucc _,.ofNat _=>tj| .negSucc a,.negSucc b=>bI b a
theorem gX:∀x y:Int,iLt x y=decide (x<y)| .ofNat a,.ofNat b=>by rw[gb];simp[iLt,cF]| .ofNat _,.negSucc _=>by simp[iLt];lia| .negSucc _,.ofNat _=>by simp[iLt];lia| .negSucc a,.negSucc b=>by rw[gb];simp[iLt,cF];lia
noncomputable def iEq:Int->Int->Bool| .ofNat a,.ofNat b=>bW a b| .negSucc a,.negSucc b=>bW a b| _,_=>fh
theorem lF:∀x y:Int,iEq x y=decide (x=y)| .ofNat a,.ofNat b=>by rw[gb];simp[iEq];lia| .ofNat _,.negSucc _=>by simp[iEq]| .negSucc _,.ofNat _=>by simp[iEq]| .negSucc a,.negSucc b=>by rw[gb];simp[iEq]
def nEq (x y:xat):Bool:=bY (motive:=λ_=>xat->Bool) (λl=>match l with| []=>tj| _=>fh) (λa _ ih l=>match l with| []=>fh| b::l=>bW a b&&ih l) x y
theorem DD:∀x y:xat,nEq x y=decide (x=y)| [],[]=>rfl| [],_::_=>rfl| _::_,[]=>rfl| a::x,b::y=>by show(bW a b&&nEq x y)=_;rw[DD x y,gb];simp
def sEq (x y:To):Bool:=nEq x.cps.toList y.cps.toList
theorem nX (x y:To):sEq x y=decide (x=y):=by unfold sEq;rw[DD];congr 1;rw[eq_iff_iff];constructor;cases x;simp_all;simp_all
def eat {α:Type} (l:ϐ):Int->Sw| .ofNat k=>eg l k| .negSucc k=>bif bI k (UJ l)then eg l (UJ l-(k+1))else ng
theorem DE {l:ϐ}{x:α}(h:eat l i=ω):∃j,ixN l.length i=se j/\l[j]?=ω:=by cases i with| ofNat k =>(have e:l[k]?=ω:=by rwa [<-aX]);have lt:='Q'.1;exact#[k,by unfold ixN;simp_all,e]| negSucc k =>(have h:(bif bI k l.length then eg l (l.length-(k+1))else ng)=ω:=by rwa [<-aW]);cases hb:bI k l.length with| false=>simp_all| true =>rw[hb] at h;(have e:l[l.length-(k+1)]?=ω:=by grind[aX]);have lt:=cF.mp hb;refine#[_,?_,e];unfold ixN;grind
inductive R (α:Type) where
 | ok (a:α) (h:TH) | ex (c:Nat) (h:TH) | no
inductive Fl where
 | nx (ρ:Ul) | rt (v:D)
abbrev RE:=Ul->TH->R D
abbrev RA:=Ul->TH->R θ
abbrev RT:=Ul->TH->R Bool
abbrev RS:=Ul->TH->R Fl
noncomputable def R.bnd {α β:Type} (r:R α) (k:α->TH->R β):R β:=match r with| .ok a h=>k a h| .ex c h=>.ex c h| .no=>.no
def R.sat {α:Type}(r:R α)(P:α->TH->Prop)(E:Nat->TH->Prop):Prop:=match r with| .ok a h=>P a h| .ex c h=>E c h| .no=>False
theorem R.sat.bnd {r:R α}{k:α->TH->R β}{P:β->TH->Prop}(q:(r.bnd k).sat P E):r.sat (λa h=>(k a h).sat P E) E:=by cases r<;>exact q
theorem R.sat.mono {r:R α}{P P':α->TH->Prop}(q:r.sat P E)(f:∀a h,P a h->P' a h):r.sat P' E:=by cases r with| ok a h=>exact f a h q| ex c h=>exact q| no=>exact q
noncomputable def T5 {α:Type} (o:Sw) (k:α->R β):R β:=match o with| some a=>k a| none=>.no
inductive Ex2 {α:Type} (A B:α->Prop):Prop
 | mk (a:α) (x:A a) (y:B a)
theorem R.sat.o {o:Sw}(q:(T5 o k).sat P E):Ex2 (o=se ·) λa=>(k a).sat P E:=by cases o with| none=>exact q.elim| some a=>exact#[a,rfl,q]
noncomputable def Uf {β:Type} (c:Bool) (k:R β):R β:=bif c then k else .no
theorem R.sat.i (q:(Uf c k).sat P E):c=tj/\k.sat P E:=by cases c with| false=>exact q.elim| true=>exact#[rfl,q]
section
variable {ρ:Ul}
def rV (i:Nat):RE:=fun ρ h=>match eg ρ i with| some (se v)=>.ok v h| _=>.no
end
section
noncomputable def rC (d:D):RE:=λ_ h=>.ok d h
end
section
variable {ρ:Ul}{fa fb:RE}
noncomputable def TP (g:D->D->TH->R D) (fa fb:RE):RE:=fun ρ h=>(fa ρ h).bnd λx h=>(fb ρ h).bnd λy h=>g x y h
end
section
variable {ρ:Ul}{fa:RE}
noncomputable def rUn (g:D->TH->R D) (fa:RE):RE:=fun ρ h=>(fa ρ h).bnd λx h=>g x h
end
section
noncomputable def Tk:RA:=λ_ h=>.ok [] h
end
section
variable {ρ:Ul}{fa:RE}{f:RA}
noncomputable def Tg (fa:RE) (f:RA):RA:=fun ρ h=>(fa ρ h).bnd λx h=>(f ρ h).bnd λxs h=>.ok (x::xs) h
end
section
variable {ρ:Ul}{f:RA}
noncomputable def Ui (g:θ->TH->R D) (f:RA):RE:=fun ρ h=>(f ρ h).bnd λxs h=>g xs h
end
section
variable {ρ:Ul}{fa:RE}
noncomputable def TJ (fa:RE):RT:=fun ρ h=>(fa ρ h).bnd λx h=>match x with| .bl b=>.ok b h| _=>.no
end
section
variable {ρ:Ul}{fT fU:RT}
noncomputable def YC (fT fU:RT):RT:=fun ρ h=>(fT ρ h).bnd λb h=>bif b then fU ρ h else .ok fh h
end
section
variable {ρ:Ul}{fT fU:RT}
noncomputable def rOr (fT fU:RT):RT:=fun ρ h=>(fT ρ h).bnd λb h=>bif b then .ok tj h else fU ρ h
end
section
variable {ρ:Ul}{fT:RT}
noncomputable def WV (fT:RT):RT:=fun ρ h=>(fT ρ h).bnd λb h=>.ok (! b) h
end
section
variable {ρ:Ul}{fa fb:RE}{fT:RT}
noncomputable def rIf (fT:RT) (fa fb:RE):RE:=fun ρ h=>(fT ρ h).bnd λb h=>bif b then fa ρ h else fb ρ h
end
section
variable {ρ:Ul}{fa fb:RE}
noncomputable def Wa (fa fb:RE):RE:=fun ρ h=>(fa ρ h).bnd λx h=>match x with| .bl b=>bif b then fb ρ h else .ok SY h| _=>.no
end
section
variable {ρ:Ul}{fa fb:RE}
noncomputable def xaS (fa fb:RE):RE:=fun ρ h=>(fa ρ h).bnd λx h=>match x with| .bl b=>bif b then .ok ϻ h else fb ρ h| _=>.no
end
section
variable {ρ:Ul}{fa:RE}
noncomputable def rNotV (fa:RE):RE:=fun ρ h=>(fa ρ h).bnd λx h=>match x with| .bl b=>.ok (.bl (! b)) h| _=>.no
end
section
variable {ρ:Ul}{fs fu:RS}
noncomputable def Ts (fs fu:RS):RS:=fun ρ h=>(fs ρ h).bnd λx h=>match x with| .nx ρ=>fu ρ h| .rt v=>.ok Jw h
end
section
variable {ρ:Ul}
noncomputable def TY:RS:=fun ρ h=>.ok Qd h
end
section
variable {ρ:Ul}{fa:RE}
noncomputable def TN (fa:RE):RS:=fun ρ h=>(fa ρ h).bnd λx h=>.ok (.rt x) h
end
section
variable {ρ:Ul}{fa:RE}
noncomputable def Xx (fa:RE):RS:=fun ρ h=>(fa ρ h).bnd λ_ h=>.ok Qd h
end
section
variable {ρ:Ul}{fT:RT}{fs fu:RS}
noncomputable def Uc (fT:RT) (fs fu:RS):RS:=fun ρ h=>(fT ρ h).bnd λb h=>bif b then fs ρ h else fu ρ h
end
section
abbrev RG:=D->Ul->Option Ul
end
section
variable {ρ:Ul}
def rN (i:Nat):RG:=λd ρ=>se (ZC ρ i ϩ)
end
section
variable {ρ:Ul}
@[irreducible] def YS (i j:Nat):RG:=λd ρ=>match d with| .tup [x,y]=>se (ZC (ZC ρ i ω) j Ϫ)| _=>ng
end
section
variable {ρ:Ul}
@[irreducible] def rN3 (i j k:Nat):RG:=λd ρ=>match d with| .tup [x,y,z]=>se (ZC (ZC (ZC ρ i ω) j Ϫ) k (se z))| _=>ng
end
section
variable {ρ:Ul}{fa:RE}
noncomputable def TD (fa:RE) (fg:RG):RS:=fun ρ h=>(fa ρ h).bnd λx h=>T5 (fg x ρ) fun ρ=>.ok Qd h
end
def eL (h:TH):D->RC| .lst ds=>bj| .at i=>(match eg h i with| some (.ml ds)=>bj| _=>ng)| _=>ng
def eS (h:TH):D->RC| .tup ds=>bj| .lst ds=>bj| .at i=>(match eg h i with| some (.ml ds)=>bj| some (.mr ns)=>se Nn| _=>ng)| _=>ng
def hn (h:TH):Nat:=Og
def hp (h:TH) (o:TM):TH:=eap h [o]
def hs (h:TH) (i:Nat) (o:TM):TH:=ZC h i o
def mk (m:Bool) (ds:θ) (h:TH):R D:=bif m then .ok (.at Id) (hp h (.ml ds))else .ok (.lst ds) h
section
noncomputable def Ug:D->Bool| .tup _=>tj| _=>fh
end
section
end
section
theorem jc:hs h i t=[ϭ,t]:=eI _ _ _
end
section
def big {α:Type} (l:ϐ):Bool:=[PP,UJ l]
end
section
end
section
variable {xs:Pp}
def VF (f:RA):RE:=fun ρ h=>(f ρ h).bnd λxs h=>Uf Jd (.ok (.tup xs) h)
end
section
variable {xs:Pp}
def Un (m:Bool) (f:RA):RE:=fun ρ h=>(f ρ h).bnd λxs h=>Uf Jd (mk m xs h)
end
section
variable {x y:D}
noncomputable def gI (p:Int->Int->Bool) (g:Int->Int->D) (x y:D) (h:TH):R D:=match x,y with| .int i,.int j=>Uf (p i j) (.ok (g i j) h)| _,_=>.no
end
section
noncomputable def pT (_ _:Int):Bool:=tj
end
section
noncomputable def pMul (i j:Int):Bool:=bI i.natAbs (2^4096)&&bI j.natAbs (2^4096)
end
section
noncomputable def pDiv (_ j:Int):Bool:=! iEq j 0&&bI j.natAbs.log2 9000
end
section
noncomputable def xb7 (_ j:Int):Bool:=iLt 0 j
end
section
noncomputable def pPow (i j:Int):Bool:=! iLt j 0&&bR (i.natAbs.log2*j.natAbs+j.natAbs) 100000
end
section
noncomputable abbrev Z6:=gI pT λi j=>.int (i-j)
end
section
noncomputable abbrev Xk:=gI pDiv λi j=>.int (i.fdiv j)
end
section
noncomputable abbrev VG:=gI xb7 λi j=>.int (i%j)
end
section
variable {x y:D}
def VD (m:Bool) (x y:D) (h:TH):R D:=match x,y with| .int i,.int j=>.ok (.int (i+j)) h| .str i,.str j=>Uf [PP,UJ i.cps.toList+UJ j.cps.toList] (.ok (.str #[#[eap i.cps.toList j.cps.toList]]) h)| x,y=>T5 (eL h x) λa=>T5 (eL h y) λb=>Uf [PP,UJ a+UJ b] (mk m (eap a b) h)
end
section
theorem zeP (i j:To):(#[#[eap i.cps.toList j.cps.toList]])=i++j:=by rw[gj];show _=(#[i.cps++j.cps]:To);simp_all
end
section
variable {d:D}
def eRep (n:Nat) (d:D):θ:=kf (motive:=λ_=>θ) [] (λ_ ih=>d::ih) n
end
section
variable {d:D}
theorem DF (d:D):∀n,eRep n d=bh n d:=by intro n;induction n with| zero =>exact rfl| succ n ih =>rw[oU,<-ih];rfl
end
section
variable {x:D}
theorem KB (x:α):∀n:Nat,(bh n [x]).flatten=bh n x| 0=>rfl| n+1=>ε
end
section
variable {d x y:D}
def V0 (m:Bool) (x y:D) (h:TH):R D:=match x,y with| .int i,.int j=>Uf (pMul i j) (.ok (.int (i*j)) h)| x,.int (.ofNat n)=>(T5 (eL h x) λl=>match l with| [d]=>Uf [PP,n] (mk m (eRep n d) h)| _=>.no)| _,_=>.no
end
section
theorem KC (h:pPow i j=tj):0<=j/\(Builtin.Int.intBits i)*j<=2^27:=by unfold pPow at h;rw[cC,gX,kR,decide_eq_false_iff_not] at h;have:=cf (vd _ (intBits_le_iff.mpr (show i.natAbs<_ from Nat.lt_log2_self))) (by rw[xO,xM];exact dH.mp h.2);lia
end
section
noncomputable abbrev gPow:=gI pPow λi j=>.int (i^j.natAbs)
end
section
variable {x:D}
noncomputable def xaG (x:D) (h:TH):R D:=match x with| .int i=>.ok (.int (-i)) h| _=>.no
end
section
variable {x y:D}
def nLt (x y:xat):Bool:=bY (motive:=λ_=>xat->Bool) (λl=>match l with| []=>fh| _=>tj) (λa _ ih l=>match l with| []=>fh| b::l=>bI a b||(bW a b&&ih l)) x y
end
section
variable {x y:D}
theorem DG:∀x y:xat,nLt x y=decide (x<y)| [],[]=>by simp[nLt]| [],b::y=>by simp[nLt]| a::x,[]=>by simp[nLt]| a::x,b::y=>by show(bI a b||(bW a b&&nLt x y))=_;rw[DG x y,gb,rH,cC,cF,Nat.beq_eq,decide_eq_true_iff,decide_eq_true_iff,List.cons_lt_cons_iff]
end
section
def gLt:D->D->TH->R D:=gI pT λi j=>.bl (iLt i j)
end
section
def gGt:D->D->TH->R D:=gI pT λi j=>.bl (iLt j i)
end
section
def gGe:D->D->TH->R D:=gI pT λi j=>.bl (! iLt i j)
end
section
variable {x y:D}
def gLe (x y:D) (h:TH):R D:=match x,y with| .int i,.int j=>.ok (.bl (! iLt j i)) h| .str i,.str j=>.ok (.bl (! nLt j.cps.toList i.cps.toList)) h| _,_=>.no
end
section
noncomputable def isN:D->Bool| .non=>tj| _=>fh
end
section
variable {x y:D}
noncomputable def gIs (n:Bool) (x y:D) (h:TH):R D:=match y with| .non=>.ok (.bl (n^^isN x)) h| _=>.no
end
theorem jT {f:α->MY}:∀{l:List α} {m:List β},T6 f l=se m->m.length=l.length/\∀(i:Nat) x,l[i]?=ω->∃y,m[i]?=Ϫ/\f x=Ϫ:=by intro l;induction l with| nil =>rintro m e;cases e;exact#[rfl,λi x h=>by simp at h]| cons a l ih =>rintro m e;obtain⟨x,xs,h1,h2,rfl⟩:=TW.mp e;obtain⟨h3,h4⟩:=ih h2;refine#[by simp[h3],λi y h=>?_];cases i with| zero=>cases h;exact#[x,rfl,h1]| succ i=>obtain⟨z,g1,g2⟩:=h4 i y (by exact h);exact#[z,by exact g1,g2]
noncomputable def Wm {α β:Type} (o:Sw) (k:α->β):MY:=match o with| some a=>se (k a)| none=>ng
theorem iQ (e:Wm o k=Ϫ):∃a,o=Ϸ/\y=k a:=by cases o with| none=>cases e| some a=>cases e;simp_all
def fz (h:TH) (n:Nat) (m:Nat):D->R5:=kf (motive:=λ_=>D->R5) (λ_=>ng) (λ_ ih d=>match d with| .lst ds=>Wm (T6 ih ds) .lst| .tup ds=>Wm (T6 ih ds) .tup| .dic ks ds=>Wm (T6 ih ds) (.dic ks)| .at i=>(bif bI i n then se (.at i)else match eg h i with| some (.ml ds)=>Wm (T6 ih ds) .lst| _=>ng)| d=>ϩ) m
def fzo (h:TH) (n:Nat):TM->Option TM| .ml ds=>Wm (T6 (fz h n 9) ds) .ml| .md ks ds=>Wm (T6 (fz h n 9) ds) (.md ks)| .mi c ds=>Wm (T6 (fz h n 9) ds) (.mi c)| t=>se t
def etk {α:Type} (n:Nat) (l:ϐ):ϐ:=kf (motive:=λ_=>ϐ->ϐ) (λ_=>[]) (λ_ ih l=>match l with| []=>[]| a::l=>a::ih l) n l
theorem sM:∀n (l:List α),etk n l=l.take n| 0,l=>by rfl| n+1,[]=>rfl| n+1,a::l=>by rw[List.take_succ_cons,<-sM n l];rfl
noncomputable def trunc (n:Nat) (v:D) (h:TH):R D:=bif bW Og n then .ok v h else T5 (T6 (fzo h n) (etk n h)) λh0=>T5 (fz h n 9 v) λv=>.ok v h0
def xap (n c:Nat) (h:TH):R D:=bif bW Og n then .ex c h else T5 (T6 (fzo h n) (etk n h)) λh0=>.ex c h0
section
end
mutual
noncomputable def py:D->PyData
 | .non=>.none
 | .bl b=>.bool b
 | .int i=>.int i
 | .str x=>.str x
 | .lst ds=>.list (pys ds)
 | .tup ds=>.tuple (pys ds)
 | .dic _ _=>.none
 | .at _=>.none
 | .fn _=>.none
noncomputable def pys:List D->List PyData
 | []=>[]
 | d::ds=>py d::pys ds
end
def WG (n:Nat):D->Bool:=kf (motive:=λ_=>D->Bool) (λ_=>fh) (λ_ ih d=>match d with| .lst ds=>bY (motive:=λ_=>Bool) tj (λd _ r=>ih d&&r) ds| .tup ds=>bY (motive:=λ_=>Bool) tj (λd _ r=>ih d&&r) ds| .dic _ _=>fh| .at _=>fh| .fn _=>fh| .str x=>bY (motive:=λ_=>Bool) tj (λc _ r=>bI c 1114112&&r) x.cps.toList| _=>tj) n
def xbt (n:Nat) (ds:θ):Bool:=bY (motive:=λ_=>Bool) tj (λd _ r=>WG n d&&r) ds
theorem yG:xbt n (d::ds)=(WG n d&&xbt n ds):=rfl
theorem DH:∀l:xat,(bY tj (λc _ r=>bI c 1114112&&r) l:Bool)=l.all (·<0x110000):=by intro l;induction l with| nil =>exact rfl| cons c l ih =>rw[BE,<-ih];show(bI c 1114112&&_)=_;congr 1;rw[gb,cF,decide_eq_true_iff]
mutual
theorem sN:∀(n:Nat) (d:D),WG n d=tj->Sh n (py d)
 | 0,d,h=>by cases h
 | n+1,.non,h=>#[by simp only[py,PyData.canLay0],by simp only[py,PyData.depth];lia]
 | n+1,.bl b,h=>by simp only[py];exact zbv b
 | n+1,.int i,h=>by simp only[py];exact Jo i
 | n+1,.str x,h=>#[by
   simp only[py,PyData.canLay0];have z:(bY (motive:=λ_=>Bool) tj (λc _ r=>bI c 1114112&&r) x.cps.toList:Bool)=tj:=h;rw[DH] at z;unfold PyData.strOk;rw[<-Array.all_toList];exact z,by simp only[py,PyData.depth];lia]
 | n+1,.lst ds,h=>by simp only[py];exact za8 (yH n ds h)
 | n+1,.tup ds,h=>by simp only[py];exact zbI (yH n ds h)
 | n+1,.dic _ _,h=>by cases h
 | n+1,.at _,h=>by cases h
 | n+1,.fn _,h=>by cases h
theorem yH:∀(n:Nat) (ds:List D),xbt n ds=tj->∀d∈pys ds,Sh n d
 | n,[],_,d,hd=>by simp[pys] at hd
 | n,e::ds,h,d,hd=>by
  rw[yG,cC] at h;simp only[pys,bi] at hd;rcases hd with rfl | hd
  .exact sN n e h.1
  .exact yH n ds h.2 d hd
end
def xbI (g:D->D->JG) (ds es:θ):JG:=bY (motive:=λ_=>θ->JG) (λes=>match es with| []=>BT| _=>Ty) (λd _ ih es=>match es with| []=>Ty| e::r=>match g d e with| some tj=>ih r| some fh=>Ty| none=>ng) ds es
noncomputable def bEq (a b:Bool):Bool:=bif a then b else ! b
def dEq1 (ih:D->D->JG) (d e:D):JG:=match d,e with| .non,.non=>BT| .non,.str _=>Ty| .str _,.non=>Ty| .non,.tup _=>Ty| .tup _,.non=>Ty| .bl a,.bl b=>se (bEq a b)| .int i,.int j=>se (iEq i j)| .str x,.str y=>se (sEq x y)| .lst ds,.lst es=>xbI ih ds es| .tup ds,.tup es=>xbI ih ds es| _,_=>ng
def dEq (n:Nat):D->D->JG:=kf (motive:=λ_=>D->D->JG) (λ_ _=>ng) (λ_ ih=>dEq1 ih) n
theorem yI {g:D->D->JG}(hg:∀d e b,g d e=SW->PyData.eqv (py d) (py e)=b):∀{ds es:List D} {b:Bool},xbI g ds es=SW->PyData.eqvAll (pys ds) (pys es)=b| [],[],b,z=>by cases z;rfl| [],e::es,b,z=>by cases z;simp[pys,PyData.eqvAll]| d::ds,[],b,z=>by cases z;simp[pys,PyData.eqvAll]| d::ds,e::es,b,z=>by replace z:(match g d e with| some tj=>xbI g ds es| some fh=>Ty| none=>ng)=SW:=z;simp only[pys,PyData.eqvAll];split at z;rename_i e1;rw[hg _ _ _ e1,yI hg z];rfl;all_goals grind
theorem zdL:∀(n:Nat) {d e:D} {b:Bool},dEq n d e=SW->PyData.eqv (py d) (py e)=b:=by intro n;induction n with| zero =>rintro _ _ _ z;cases z| succ n ih =>rintro d e b z;have ih:∀d e b,dEq n d e=se b->PyData.eqv (py d) (py e)=b:=λd e b=>ih;replace z:dEq1 (dEq n) d e=se b:=z;(cases d<;>cases e<;>first |(cases z;done) |skip);(case bl.bl a c=>cases z;cases a<;>cases c<;>rfl);(case int.int=>cases z;simp only[py,PyData.eqv,lF];rfl);(case str.str=>cases z;simp only[py,PyData.eqv,nX];rfl);(case lst.lst=>exact yI ih z);(case tup.tup=>exact yI ih z);all_goals cases z;rfl
def VI (neg:Bool) (x y:D) (h:TH):R D:=T5 (fz h 0 9 x) λx=>T5 (fz h 0 9 y) λy=>Uf (WG 60 x&&WG 60 y) (T5 (dEq 60 x y) λb=>.ok (.bl (neg^^b)) h)
noncomputable def xb0:D->Option V| .non=>se .non| .bl b=>se Qt| .int i=>[ϒ,i]| .str x=>Md| _=>ng
def vEq:V->V->Bool| .non,.non=>tj| .bl a,.bl b=>bEq a b| .int i,.int j=>iEq i j| .str x,.str y=>sEq x y| _,_=>fh
def ZL:V->Nat| .non=>0| .bl _=>1| .int _=>2| .str _=>3| _=>4
def vIn (x:V) (ys:Pp):JG:=bY (motive:=λ_=>JG) Ty (λy _ r=>bif bW (ZL y) (ZL x)then Wm r λr=>vEq y x||r else ng) ys
def gInS (neg:Bool) (x y:D) (h:TH):R D:=T5 (xb0 x) λx=>T5 (eS h y) λds=>T5 (T6 xb0 ds) λvs=>T5 (vIn x vs) λb=>.ok (.bl (neg^^b)) h
def kEq:T4->T4->Bool| .inl i,.inl j=>iEq i j| .inr x,.inr y=>sEq x y| _,_=>fh
theorem pi:∀k j:T4,kEq k j=decide (k=j)| .inl i,.inl j=>by show iEq i j=_;rw[lF,gb];simp| .inr i,.inr j=>by show sEq i j=_;rw[nX,gb];simp| .inl i,.inr j=>by simp[kEq]| .inr i,.inl j=>by simp[kEq]
noncomputable def dk:D->Option T4| .int i=>se (.inl i)| .str x=>se (.inr x)| _=>ng
noncomputable def kd:T4->D| .inl i=>JE| .inr x=>Ϯ
section
variable {ds:θ}{ks:Ϟ}
def eK (h:TH):D->Option (Ϟ× θ)| .dic ks ds=>se (ks,ds)| .at i=>(match eg h i with| some (.md ks ds)=>se (ks,ds)| _=>ng)| _=>ng
end
section
variable {ds:θ}{ks:Ϟ}
def eMd (h:TH):D->Option (Nat× Ϟ× θ)| .at i=>(match eg h i with| some (.md ks ds)=>se (i,ks,ds)| _=>ng)| _=>ng
end
section
variable {d:D}{v:V}{ks:Ϟ}{k:T4}
def lk (k:T4) (ks:Ϟ) (vs:θ):R5:=bY (motive:=λ_=>θ->R5) (λ_=>ng) (λd _ ih vs=>bY (motive:=λ_=>R5) ng (λv t _=>bif kEq d k then se v else ih t) vs) ks vs
end
section
variable {d:D}{ds:θ}{ks:Ϟ}{k:T4}
theorem KG:lk k (j::ks) (d::ds)=bif kEq j k then ϩ else lk k ks ds:=rfl
end
section
variable {d x y:D}{ds:θ}
def gIx (x y:D) (h:TH):R D:=match x,y with| .str z,.int i=>T5 (eat z.cps.toList i) λc=>Uf [PP,UJ z.cps.toList] (.ok (.str #[#[[c]]]) h)| x,.int i=>T5 (eS h x) λds=>T5 (eat ds i) λd=>.ok d h| _,_=>.no
end
section
variable {d x y:D}{k:T4}
def gDg (x y:D) (h:TH):R D:=T5 (eK h x) λp=>T5 (dk y) λk=>T5 (lk k p.1 p.2) λd=>.ok d h
end
section
variable {x:D}
def isD (x:D) (h:TH):Bool:=match eK h x with| some _=>tj| none=>fh
end
section
variable {x y:D}
def TK (fa fb:RE):RE:=TP (λx y h=>bif isD x h then gDg x y h else gIx x y h) fa fb
end
section
variable {x y:D}{k:T4}
def Ym (neg:Bool) (x y:D) (h:TH):R D:=match eK h y with| some p=>(T5 (dk x) λk=>match lk k p.1 p.2 with| some _=>.ok (.bl (neg^^tj)) h| none=>.ok (.bl (neg^^fh)) h)| none=>gInS neg x y h
end
section
variable {ds:θ}{ks:Ϟ}
def mkD (m:Bool) (ks:Ϟ) (ds:θ) (h:TH):R D:=bif m then .ok (.at Id) (hp h (.md ks ds))else .ok (.dic ks ds) h
end
section
def YR (m:Bool):RE:=λ_ h=>mkD m [] [] h
end
section
variable {x:D}
def rFz (fa:RE):RE:=fun ρ h=>(fa ρ h).bnd λx h=>T5 (eMd h x) λp=>.ok (.dic p.2.1 p.2.2) (hs h p.1 .no)
end
section
variable {ks:Ϟ}{k:T4}
def WR (k:T4) (ks:Ϟ):Ϟ:=bY (motive:=λ_=>Ϟ) [k] (λj t ih=>bif kEq j k then j::t else j::ih) ks
end
section
variable {d:D}{ds:θ}{ks:Ϟ}{k:T4}
def Yz (k:T4) (e:D) (ks:Ϟ) (ds:θ):θ:=bY (motive:=λ_=>θ->θ) (λ_=>[e]) (λj _ ih ds=>bY (motive:=λ_=>θ) [e] (λd t _=>bif kEq j k then e::t else d::ih t) ds) ks ds
end
section
end
section
variable {d:D}{ks:Ϟ}{k:T4}
def xaT (k:T4) (ks:Ϟ):Bool:=bY (motive:=λ_=>Bool) fh (λd _ ih=>kEq d k||ih) ks
end
section
variable {d:D}{ks:Ϟ}{k:T4}
theorem DI (k:T4):∀ks,xaT k ks=tj↔k∈ks:=by intro ks;induction ks with| nil =>simp[xaT]| cons d ks ih =>have:xaT k (d::ks)=(kEq d k||xaT k ks):=rfl;rw[this,rH,ih,pi,decide_eq_true_iff,bi,eq_comm]
end
section
variable {d:D}{ks:Ϟ}
def kNd (ks:Ϟ):Bool:=bY (motive:=λ_=>Bool) tj (λd t ih=>! xaT d t&&ih) ks
end
section
variable {d:D}{ks:Ϟ}
theorem vR:∀{ks:List T4},kNd ks=tj->ks.Nodup:=by intro ks;induction ks with| nil =>rintro _;exact List.nodup_nil| cons d ks ih =>rintro e;replace e:(!xaT d ks&&kNd ks)=tj:=e;rw[cC,kR] at e;exact eW.mpr #[λz=>(by rw[(DI d ks).mpr z] at e;cases e.1),ih e.2]
end
section
variable {x y:D}{v:V}{k:T4}
def gDput (x y v:D) (ρ:Ul) (h:TH):R Fl:=T5 (eMd h x) λp=>T5 (dk y) λk=>Uf (kNd p.2.1&&bI (UJ p.2.1) 16777216) [IE,hs h p.1 (.md (WR k p.2.1) (Yz k v p.2.1 p.2.2))]
end
section
end
section
variable {d x y:D}{k:T4}
def xau (fx fy fz:RE):RE:=fun ρ h=>(fx ρ h).bnd λx h=>Uf (isD x h)<|(fy ρ h).bnd λy h=>(fz ρ h).bnd λz h=>T5 (eK h x) λp=>T5 (dk y) λk=>match lk k p.1 p.2 with| some d=>.ok d h| none=>.ok z h
end
section
variable {ks:Ϟ}{k:T4}
def Xr (k:T4) (ks:Ϟ):Ϟ:=bY (motive:=λ_=>Ϟ) [] (λj _ ih=>bif kEq j k then ih else j::ih) ks
end
section
variable {d:D}{ds:θ}{ks:Ϟ}{k:T4}
def WO (k:T4) (ks:Ϟ) (ds:θ):θ:=bY (motive:=λ_=>θ->θ) (λ_=>[]) (λj _ ih ds=>bY (motive:=λ_=>θ) [] (λd t _=>bif kEq j k then ih t else d::ih t) ds) ks ds
end
section
variable {d x y:D}{k:T4}
def xaY (fx fy:RE):RE:=fun ρ h=>(fx ρ h).bnd λx h=>Uf (isD x h)<|(fy ρ h).bnd λy h=>T5 (eMd h x) λp=>T5 (dk y) λk=>T5 (lk k p.2.1 p.2.2) λd=>.ok d (hs h p.1 (.md (Xr k p.2.1) (WO k p.2.1 p.2.2)))
end
section
variable {x:D}{ds:θ}{xs:Pp}
def Ur (xs:θ) (h:TH):R D:=match xs with| [.str x]=>Uf [PP,NQ] (.ok [KZ,NQ] h)| [x]=>(match eK h x with| some p=>.ok [KZ,UJ p.1] h| none=>T5 (eS h x) λds=>.ok [KZ,UJ ds] h)| _=>.no
end
section
def xac:D->XK| .int i=>se i| _=>ng
end
section
def dBl:D->JG| .bl i=>se i| _=>ng
end
section
def xbf (bs:L5):Bool:=bY (motive:=λ_=>Bool) fh (λb _ r=>b||r) bs
end
section
def xbM (bs:L5):Bool:=bY (motive:=λ_=>Bool) tj (λb _ r=>b&&r) bs
end
section
theorem DJ:∀bs,xbf bs=bs.any id:=by intro bs;induction bs with| nil =>exact rfl| cons b bs ih =>rw[xH,<-ih];rfl
end
section
theorem KH:∀bs,xbM bs=bs.all id:=by intro bs;induction bs with| nil =>exact rfl| cons b bs ih =>rw[BE,<-ih];rfl
end
section
variable {x:D}{ds:θ}{xs:Pp}
def xal (g:L5->Bool) (xs:θ) (h:TH):R D:=match xs with| [x]=>T5 (eL h x) λds=>T5 (T6 dBl ds) λbs=>.ok (.bl (g bs)) h| _=>.no
end
section
theorem KI (bs:L5):((aT bs.length).all λi=>[PB,i])=bs.all id:=by rw[gb,iO,iO];constructor;intro h b hb;obtain⟨i,hi⟩:=bH hb;have:=h i (dA.mpr 'U'.1);simp_all;intro h i hi;have hl:=dA.mp hi;have:=h bs[i] (ka hl);rwa [bO,aV hl]
end
section
variable {d:D}
def iSum (ns:xam):Int:=bY (motive:=λ_=>Int) 0 (λd _ ih=>d+ih) ns
end
section
theorem yJ:∀ns,iSum ns=ns.sum:=by intro ns;induction ns with| nil =>exact rfl| cons n ns ih =>rw[cq,<-ih];rfl
end
section
variable {x:D}{ds:θ}{xs:Pp}
def gSum (xs:θ) (h:TH):R D:=match xs with| [x]=>T5 (eL h x) λds=>T5 (T6 xac ds) λns=>.ok (.int (iSum ns)) h| _=>.no
end
section
variable {d:D}
def xaD (n:Int) (ns:xam):Int:=bY (motive:=λ_=>Int->Int) (λn=>n) (λd _ ih n=>ih (bif iLt d n then d else n)) ns n
end
section
variable {d y:D}
theorem DK:∀ns n,xaD n ns<=n/\(∀y∈ns,xaD n ns<=y)/\xaD n ns∈n::ns:=by intro ns;induction ns with| nil =>rintro n;exact#[de _,λy h=>(by simp at h),by simp[xaD]]| cons d ns ih =>rintro n;have e:xaD n (d::ns)=xaD (bif iLt d n then d else n) ns:=rfl;obtain⟨h1,h2,h3⟩:=ih (bif iLt d n then d else n);rw[e];cases hb:iLt d n with| true =>(rw[hb] at h1 h2 h3;rw[gX] at hb;exact#[cE (AQ h1 (by simpa using hb)),λy hy=>by rcases bi.mp hy with rfl | hy;exact h1;exact h2 y hy,a7 _ h3])| false =>rw[hb] at h1 h2 h3;rw[gX] at hb;exact#[h1,λy hy=>by rcases bi.mp hy with rfl | hy;exact hK h1 (by simpa using hb);exact h2 y hy,by rcases bi.mp h3 with z | z;exact bi.mpr (.inl z);exact a7 _ (a7 _ z)]
end
section
variable {x:D}{ds:θ}{xs:Pp}
def gMin (xs:θ) (h:TH):R D:=match xs with| [x]=>(T5 (eL h x) λds=>T5 (T6 xac ds) λns=>match ns with| n::ns=>.ok (.int (xaD n ns)) h| []=>.no)| [.int i,.int j]=>.ok (.int (bif iLt j i then j else i)) h| _=>.no
end
section
end
section
variable {xs:Pp}
def xbs (xs:θ) (h:TH):R D:=match xs with| [.int i]=>.ok (.int (bif iLt i 0 then-i else i)) h| _=>.no
end
section
variable {ks:Ϟ}{k:T4}
def kds (ks:Ϟ):θ:=bY (motive:=λ_=>θ) [] (λk _ r=>kd k::r) ks
end
section
variable {x:D}{ds:θ}{xs:Pp}
def ZT (m:Bool) (xs:θ) (h:TH):R D:=match xs with| [x]=>(match eK h x with| some p=>mk m (kds p.1) h| none=>T5 (eS h x) λds=>mk m ds h)| _=>.no
end
section
variable {k:T4}
def prK:D->Option T4| .tup [k,_]=>dk k| _=>ng
end
section
variable {v:V}
def prV:D->R5| .tup [_,v]=>se v| _=>ng
end
section
end
section
variable {x:D}{ds:θ}{ks:Ϟ}{xs:Pp}
def X7 (m:Bool) (xs:θ) (h:TH):R D:=match xs with| [x]=>(match eK h x with| some p=>mkD m p.1 p.2 h| none=>T5 (eL h x) λds=>T5 (T6 prK ds) λks=>T5 (T6 prV ds) λes=>Uf (kNd ks) (mkD m ks es h))| _=>.no
end
section
variable {f:RA}
def FAt (N:μ)(f:To)(n:Nat):Prop:=N[n]?=se f/\∀m,m<n->N[m]?≠se f
end
section
end
section
end
section
end
section
variable {ds:θ}
def eMi (c:Nat) (h:TH):D->Option (Nat× θ)| .at i=>(match eg h i with| some (.mi c' ds)=>bif bW c' c then se (i,ds)else ng| _=>ng)| _=>ng
end
section
variable {d x:D}{fa:RE}
def Ub (c n:Nat) (fa:RE):RE:=fun ρ h=>(fa ρ h).bnd λx h=>T5 (eMi c h x) λp=>T5 (eg p.2 n) λd=>.ok d h
end
section
variable {x y:D}{fa:RE}
def Z4 (c n:Nat) (fa fv:RE):RS:=fun ρ h=>(fv ρ h).bnd λy h=>(fa ρ h).bnd λx h=>T5 (eMi c h x) λp=>Uf (bR n (UJ p.2)) [IE,hs h p.1 (.mi c (bif bI n (UJ p.2)then ZC p.2 n y else eap p.2 [y]))]
end
noncomputable def Zv (z:To) (lo hi:XK):To:=if(Builtin.Str.strSliceIndices lo hi 1 z.length).length==z.length then z else#[((Builtin.Str.strSliceIndices lo hi 1 z.length).filterMap (z.cps[·]?)).toArray]
theorem part_of (p:IsPart v o):∃q:Option (Int×Tok),v=partValue q/\q.map (·.1)=o:=by cases p with| none=>exact#[ng,rfl,rfl]| int i t=>exact#[se (i,t),rfl,rfl]
section
abbrev RO:=Ul->TH->R XK
end
section
noncomputable def rO0:RO:=λ_ h=>.ok ng h
end
section
variable {x:D}{fa:RE}
noncomputable def rO1 (fa:RE):RO:=fun ρ h=>(fa ρ h).bnd λx h=>match x with| .int i=>.ok (se i) h| _=>.no
end
section
variable {ds:θ}
def cutD (ds:θ) (lo hi:XK):θ:=(ds.drop [Yf,0,lo]).take ([Yf,ds.length,hi]-[Yf,0,lo])
end
section
variable {x:D}{ds:θ}
def gSl (m:Bool) (x:D) (l u:XK) (h:TH):R D:=match x with| .str z=>Uf [PP,(Zv z l u).length] (.ok (.str (Zv z l u)) h)| .tup ds=>Uf (!(bW [Yf,0,l] 0&&bW [Yf,ds.length,u] ds.length)) (.ok (.tup (cutD ds l u)) h)| x=>T5 (eS h x) λds=>mk m (cutD ds l u) h
end
section
variable {x:D}{fa:RE}
def rSl (m:Bool) (fa:RE) (fl fu:RO):RE:=fun ρ h=>(fa ρ h).bnd λx h=>(fl ρ h).bnd λl h=>(fu ρ h).bnd λu h=>gSl m x l u h
end
section
variable {d:D}{ds:θ}
def xbJ (ds:θ) (b:Bool):θ:=bY (motive:=λ_=>Bool->θ) (λ_=>[]) (λd _ ih b=>match b with| true=>d::ih fh| false=>ih tj) ds b
end
section
variable {x:D}{ds:θ}{fa:RE}
def xbp (m b:Bool) (fa:RE):RE:=fun ρ h=>(fa ρ h).bnd λx h=>T5 (eL h x) λds=>mk m (xbJ ds b) h
end
section
variable {ds:θ}
def XX (h:TH):D->Option (Nat× θ)| .at i=>(match eg h i with| some (.ml ds)=>se (i,ds)| _=>ng)| _=>ng
end
section
variable {x y:D}{v:V}
def gSet (x y v:D) (ρ:Ul) (h:TH):R Fl:=match y with| .int (.ofNat k)=>T5 (XX h x) λp=>Uf (bI k (UJ p.2)) [IE,hs h p.1 (.ml (ZC p.2 k v))]| _=>.no
end
section
end
section
variable {x y:D}{v:V}
def YQ (fv fx fy:RE):RS:=fun ρ h=>(fv ρ h).bnd λv h=>(fx ρ h).bnd λx h=>(fy ρ h).bnd λy h=>bif isD x h then gDput x y v ρ h else gSet x y v ρ h
end
section
variable {x y:D}
def xaw (op:Int->Int->Int) (fx fy fe:RE):RS:=fun ρ h=>(fx ρ h).bnd λx h=>(fy ρ h).bnd λy h=>match y with| .int (.ofNat k)=>T5 (XX h x) λp=>T5 (eg p.2 k) λu=>T5 (xac u) λu=>(fe ρ h).bnd λz h=>T5 (xac z) λz=>T5 (XX h x) λp=>Uf (bI k (UJ p.2)) [IE,hs h p.1 (.ml (ZC p.2 k (.int (op u z))))]| _=>.no
end
section
variable {x y:D}{fa:RE}{f:RA}
def Yg (fa:RE) (f:RA):RE:=fun ρ h=>(fa ρ h).bnd λx h=>T5 (XX h x) λ_=>(f ρ h).bnd λys h=>match ys with| [y]=>T5 (XX h x) λp=>Uf (bI (UJ p.2) 16777216) [Kf,hs h p.1 (.ml (eap p.2 [y]))]| _=>.no
end
section
variable {x y:D}{fa:RE}{f:RA}
def rExt (fa:RE) (f:RA):RE:=fun ρ h=>(fa ρ h).bnd λx h=>T5 (XX h x) λ_=>(f ρ h).bnd λys h=>match ys with| [y]=>T5 (XX h x) λp=>T5 (eL h y) λes=>Uf [PP,UJ p.2+UJ es] [Kf,hs h p.1 (.ml (eap p.2 es))]| _=>.no
end
section
variable {d:D}{ds:θ}
def xbu (ds:θ):θ:=bY (motive:=λ_=>θ) [] (λd t ih=>bY (motive:=λ_=>θ) [] (λ_ _ _=>d::ih) t) ds
end
section
variable {d:D}{ds:θ}
theorem vS:∀ds:θ,xbu ds=ds.dropLast| []=>rfl| [d]=>rfl| d::e::t=>by rw[List.dropLast_cons₂,<-vS (e::t)];rfl
end
section
variable {x y:D}{fa:RE}
def xah (fa:RE):RE:=fun ρ h=>(fa ρ h).bnd λx h=>T5 (XX h x) λp=>T5 (eg p.2 (UJ p.2-1)) λy=>.ok y (hs h p.1 (.ml (xbu p.2)))
end
section
variable {x:D}{fa:RE}
def rClr (fa:RE):RE:=fun ρ h=>(fa ρ h).bnd λx h=>T5 (XX h x) λp=>[Kf,hs h p.1 (.ml [])]
end
section
variable {d:D}
def xaF (n:Int) (ns:xam):Rf:=bY (motive:=λ_=>Rf) ng (λd _ ih=>bif iEq d n then se 0 else Wm ih jb) ns
end
section
variable {d y:D}
theorem KJ {n:Int}:∀{ns:xam} {j:Nat},xaF n ns=se j->ns[j]?=se n/\∀(m:Nat) y,m<j->ns[m]?=Ϫ->y≠n:=by intro ns;induction ns with| nil =>rintro _ e;cases e| cons d ns ih =>rintro j e;replace e:(bif iEq d n then se 0 else Wm (xaF n ns) jb)=se j:=e;rw[lF] at e;by_cases z:d=n;rw[Tc z] at e;cases e;exact#[by rw[z];rfl,λm y h=>by simp_all];rw[Tf z] at e;obtain⟨i,e1,rfl⟩:=iQ e;obtain⟨h1,h2⟩:=ih e1;refine#[by exact h1,λm y hm hy=>?_];cases m with| zero=>cases hy;exact z| succ m=>exact h2 m y (by simp_all) (by exact hy)
end
section
variable {x:D}{ds:θ}{fa:RE}{f:RA}
def rIdx (fa:RE) (f:RA):RE:=fun ρ h=>(fa ρ h).bnd λx h=>T5 (eL h x) λ_=>(f ρ h).bnd λys h=>match ys with| [.int n]=>T5 (eL h x) λds=>T5 (T6 xac ds) λns=>T5 (xaF n ns) λj=>.ok [KZ,j] h| _=>.no
end
section
def dUp (k n:Nat):θ:=kf (motive:=λ_=>Nat->θ) (λ_=>[]) (λ_ ih k=>[KZ,k]::ih (jb k)) n k
end
section
variable {x:D}{fa:RE}
def ZM (m:Bool) (fa:RE):RE:=fun ρ h=>(fa ρ h).bnd λx h=>match x with| .int (.ofNat n)=>Uf (bR n 1000) (mk m (dUp 0 n) h)| _=>.no
end
abbrev Nx:=TH->Nat->Option R5
abbrev RI:=Ul->TH->R Nx
section
variable {d:D}{ds:θ}
def X4 (d:D):Nx:=λh i=>Wm (eS h d) λds=>eg ds i
end
section
def nKs (ks:Ϟ):Nx:=λ_ i=>se (Wm (eg ks i) kd)
end
section
variable {x:D}
def nStr (x:To):Nx:=λ_ i=>bif bR i NQ then se (Wm (eg x.cps.toList i) λc=>.str #[#[[c]]])else ng
end
section
variable {x:D}{fa:RE}
def Vb (fa:RE):RI:=fun ρ h=>(fa ρ h).bnd λx h=>match x with| .dic ks _=>.ok (nKs ks) h| .str z=>.ok (nStr z) h| x=>T5 (eS h x) λ_=>.ok (X4 x) h
end
section
def nRg (n:Nat):Nx:=λ_ i=>se (bif bI i n then[ϒ,.ofNat i]else ng)
end
section
variable {xs:Pp}{f:RA}
def rIr (f:RA):RI:=fun ρ h=>(f ρ h).bnd λxs h=>match xs with| [.int (.ofNat n)]=>Uf (bI n (2^62)) (.ok (nRg n) h)| _=>.no
end
section
end
section
end
section
variable {d x:D}{ds:θ}
def nEn (d:D):Nx:=λh i=>Wm (eS h d) λds=>Wm (eg ds i) λx=>.tup [[KZ,i],x]
end
section
variable {x:D}{fa:RE}
def rIe (fa:RE):RI:=fun ρ h=>(fa ρ h).bnd λx h=>T5 (eS h x) λ_=>Uf (! ϴ) (.ok (nEn x) h)
end
section
variable {d x:D}{ds:θ}{xs:Pp}
def eZ (h:TH) (i:Nat) (ds:θ):Option RC:=bY (motive:=λ_=>Option RC) (se (se [])) (λd _ ih=>match eS h d with| none=>ng| some xs=>match ih with| none=>ng| some ng=>PV| some (se ys)=>match eg xs i with| some x=>se (se (x::ys))| none=>PV) ds
end
section
end
section
end
section
variable {ds:θ}
def nZp (ds:θ):Nx:=λh i=>Wm (eZ h i ds) λo=>Wm o .tup
end
section
variable {x y:D}{fa fb:RE}
def rIz (fa fb:RE):RI:=fun ρ h=>(fa ρ h).bnd λx h=>(fb ρ h).bnd λy h=>T5 (eS h x) λ_=>T5 (eS h y) λ_=>.ok (nZp [x,y]) h
end
section
variable {x y:D}{fa fb fc:RE}
def rIz3 (fa fb fc:RE):RI:=fun ρ h=>(fa ρ h).bnd λx h=>(fb ρ h).bnd λy h=>(fc ρ h).bnd λz h=>T5 (eS h x) λ_=>T5 (eS h y) λ_=>T5 (eS h z) λ_=>.ok (nZp [x,y,z]) h
end
section
end
section
end
section
variable {d x:D}{v:V}{nx:Nx}{fs:RS}{fg:RG}
def rGo (nx:Nx) (fg:RG) (fs:RS) (m:Nat):Nat->RS:=kf (motive:=λ_=>Nat->RS) (λ_ _ _=>.no) (λ_ ih i ρ h=>match nx h i with| some ng=>.ok Qd h| some (se d)=>(T5 (fg d ρ) fun ρ=>(fs ρ h).bnd λx h=>match x with| .nx ρ=>ih (jb i) ρ h| .rt v=>.ok Jw h)| none=>.no) m
end
section
variable {d x:D}{v:V}{nx:Nx}{fs:RS}{fg:RG}
theorem yK:rGo nx fg fs (m+1) i ρ h=match nx h i with| some ng=>.ok Qd h| some (se d)=>(T5 (fg d ρ) fun ρ=>(fs ρ h).bnd λx h=>match x with| .nx ρ=>rGo nx fg fs m (i+1) ρ h| .rt v=>.ok Jw h)| none=>.no:=rfl
end
section
variable {nx:Nx}{fs:RS}{fi:RI}{fg:RG}
def U8 (fi:RI) (fg:RG) (fs:RS):RS:=fun ρ h=>(fi ρ h).bnd λnx h=>rGo nx fg fs 1000 0 ρ h
end
section
variable {x:D}{v:V}{nx:Nx}{fT:RT}{fs:RS}
def rWh (fT:RT) (fs:RS) (m:Nat):RS:=kf (motive:=λ_=>RS) (λ_ _=>.no) (λ_ ih ρ h=>(fT ρ h).bnd λb h=>bif b then(fs ρ h).bnd λx h=>match x with| .nx ρ=>ih ρ h| .rt v=>.ok Jw h else .ok Qd h) m
end
section
end
section
variable {fT:RT}{fs:RS}
open Classical in
def Wt (w:Rf) (fT:RT) (fs:RS):RS:=fun ρ h=>match w with
 | some m=>rWh fT fs m ρ h
 | none=>if k:∃m,rWh fT fs m ρ h≠.no then rWh fT fs k.choose ρ h else .no
end
section
noncomputable def R.nox {α:Type} (r:R α):R α:=match r with| .ok a h=>.ok a h| _=>.no
end
section
theorem R.sat.unx {r:R α}{P:α->TH->Prop}(q:r.nox.sat P E):r.sat P E':=by cases r with| ok a h=>exact q| ex c h=>exact q.elim| no=>exact q.elim
end
section
theorem R.sat.unb {r:R α}{k:α->TH->R β}{P:β->TH->Prop}(q:r.sat (λa h=>(k a h).sat P E) E):(r.bnd k).sat P E:=by cases r<;>exact q
end
section
variable {d y:D}{fa:RE}{nx:Nx}{fT:RT}{fg:RG}
def rCg (nx:Nx) (fg:RG) (fT:RT) (fa:RE) (ρ:Ul) (m:Nat):Nat->TH->R θ:=kf (motive:=λ_=>Nat->TH->R θ) (λ_ _=>.no) (λ_ ih i h=>match nx h i with| some ng=>.ok [] h| some (se d)=>T5 (fg d ρ) fun ρ=>(fT ρ h).nox.bnd λb h=>bif b then(fa ρ h).nox.bnd λy h=>(ih (jb i) h).bnd λys h=>.ok (y::ys) h else ih (jb i) h| none=>.no) m
end
section
variable {d y:D}{fa:RE}{nx:Nx}{fT:RT}{fg:RG}
theorem qV:rCg nx fg fT fa ρ (m+1) i h=match nx h i with| some ng=>.ok [] h| some (se d)=>T5 (fg d ρ) fun ρ'=>(fT ρ' h).nox.bnd λb h=>bif b then(fa ρ' h).nox.bnd λy h=>(rCg nx fg fT fa ρ m (i+1) h).bnd λys h=>.ok (y::ys) h else rCg nx fg fT fa ρ m (i+1) h| none=>.no:=rfl
end
section
variable {v:V}
def eFr (ρ:Ul) (fr:xat):Ul:=bY (motive:=λ_=>Ul) [] (λj _ ih=>(match eg ρ j with| some v=>v| none=>ng)::ih) fr
end
section
variable {v:V}
theorem DL:eFr ρ (j::js)=(match ρ[j]? with| some v=>v| none=>ng)::eFr ρ js:=by rw[<-aX];rfl
end
section
variable {fa:RE}{nx:Nx}{fT:RT}{fi:RI}{fg:RG}
def Yy (m:Bool) (fi:RI) (n:Nat) (fr:xat) (fg:RG) (fT:RT) (fa:RE):RE:=fun ρ h=>(fi ρ h).bnd λnx h=>(rCg nx fg fT fa (bh n ng++eFr ρ fr) 1000 0 h).bnd λys h=>mk m ys h
end
section
variable {c:Nat}{ev:θ->TH->R D}{x:To}{fa:RE}
def TL (c:Nat) (ev:θ->TH->R D) (fa:RE) (f:RA):RE:=fun ρ h=>(fa ρ h).bnd λx h=>T5 (eMi c h x) λ_=>(f ρ h).bnd λxs h=>ev (x::xs) h
end
section
variable {c:Nat}{ev:θ->TH->R D}
def ZS (c:Nat) (ev:θ->TH->R D) (xs:θ) (h:TH):R D:=(ev (.at Id::xs) (hp h (.mi c []))).nox.bnd λv h'=>match v with| .non=>[χ,.at Id]| _=>.no
end
section
variable {c:Nat}
def rRaise (c:Nat) (f:RA):RS:=fun ρ h=>(f ρ h).bnd λxs h=>Uf Jd (.ex c h)
end
def Xq (ds:θ) (k:Nat):Ul:=bY (motive:=λ_=>Ul) (bh k ng) (λd _ ih=>ϩ::ih) ds
theorem DM (k:Nat):∀ds,Xq ds k=ds.map se++bh k none:=by intro ds;induction ds with| nil =>exact rfl| cons d ds ih =>rw[bz,oW,<-ih];rfl
def UL (keep:Bool) (n k:Nat) (f:RS) (ds:θ) (h:TH):R D:=Uf (bW (UJ ds) n) (match f (Xq ds k) h with| .ok (.nx _) h'=>bif keep then[χ,.non]else[Si,Og,h']| .ok (.rt v) h'=>bif keep then[χ,v]else trunc Og v h'| .ex c h'=>bif keep then .ex c h' else xap Og c h'| .no=>.no)
def prs (ks:Ϟ) (ds:θ):θ:=bY (motive:=λ_=>θ->θ) (λ_=>[]) (λk _ ih ds=>bY (motive:=λ_=>θ) [] (λd t _=>.tup [kd k,d]::ih t) ds) ks ds
theorem DN:∀{ks:List T4} {ds:List D} {i:Nat} {e:D},(prs ks ds)[i]?=se e->∃k d,ks[i]?=Q8/\ds[i]?=ϩ/\e=.tup [kd k,d]| [],_,_,_,h=>by simp[prs] at h| _::_,[],_,_,h=>by simp[prs] at h| k::ks,d::ds,0,e,h=>by cases h;simp_all| k::ks,d::ds,i+1,e,h=>by obtain⟨k',d',h1,h2,h3⟩:=DN (ks:=ks) (by have:prs (k::ks) (d::ds)=.tup [kd k,d]::prs ks ds:=rfl;rw[this] at h;exact h);simp_all
theorem DO:∀{ks:List T4} {ds:List D},ks.length=ds.length->(prs ks ds).length=ks.length| [],[],_=>rfl| [],_::_,h=>by simp at h| _::_,[],h=>by simp at h| k::ks,d::ds,h=>by have:prs (k::ks) (d::ds)=.tup [kd k,d]::prs ks ds:=rfl;rw[this,fO,fO,DO (by simpa using h)]
section
variable {fa:RE}{x:To}
def xa8 (m:Bool) (fa:RE):RE:=fun ρ h=>(fa ρ h).bnd λx h=>T5 (eK h x) λp=>Uf (bR (UJ p.1) 1000) (mk m (prs p.1 p.2) h)
end
section
variable {fa fb:RE}{x y:To}
def rDz (m:Bool) (fa fb:RE):RE:=fun ρ h=>(fa ρ h).bnd λx h=>(fb ρ h).bnd λy h=>T5 (eS h x) λds=>T5 (eS h y) λes=>T5 (T6 dk ds) λks=>Uf (kNd ks&&(bW (UJ ks) (UJ es)&&bR (UJ ks) 1000)) (mkD m ks es h)
end
section
end
section
def Z1 (ks:Ϟ) (ds:θ) (ls:Ϟ) (es:θ):Ϟ× θ:=bY (motive:=λ_=>θ->Ϟ->θ->Ϟ× θ) (λ_ ks ds=>(ks,ds)) (λl _ ih es ks ds=>bY (motive:=λ_=>Ϟ× θ) (ks,ds) (λe t _=>ih t (WR l ks) (Yz l e ks ds)) es) ls es ks ds
end
section
variable {k:Nat}
theorem zdc {k:T4}:∀{ks:List T4},ks.Nodup->(WR k ks).Nodup/\∀j,j∈WR k ks->j=k\/j∈ks:=by intro ks;induction ks with| nil =>rintro _;exact#[by simp[WR],λj h=>.inl (by grind[WR])]| cons j ks ih =>rintro h;have e1:WR k (j::ks)=bif kEq j k then j::ks else j::WR k ks:=rfl;have h2:=eW.mp h;obtain⟨n,m⟩:=ih h2.2;rw[e1,pi];by_cases z:j=k;lia;rw[Tf z];refine#[eW.mpr #[λhm=>(m j hm).elim z h2.1,n],λi hi=>?_];grind
end
section
variable {fa fb:RE}{x y:To}
def rUpd (fa fb:RE):RE:=fun ρ h=>(fa ρ h).bnd λx h=>Uf (isD x h)<|(fb ρ h).bnd λy h=>T5 (eMd h x) λp=>T5 (eMd h y) λr=>Uf (! Nat.beq p.1 r.1&&(kNd p.2.1&&bR (UJ p.2.1+UJ r.2.1) 1000)) [Kf,hs h p.1 (.md (Z1 p.2.1 p.2.2 r.2.1 r.2.2).1 (Z1 p.2.1 p.2.2 r.2.1 r.2.2).2)]
end
section
variable {x:To}
def dStr:D->MX| .str x=>ω| _=>ng
end
section
variable {k:Nat}
def xb1 (k:To) (ks:μ):Bool:=bY (motive:=λ_=>Bool) fh (λd _ ih=>sEq d k||ih) ks
end
section
variable {k:Nat}
theorem zeh (k:To):∀ks,xb1 k ks=decide (k∈ks):=by intro ks;induction ks with| nil =>simp[xb1]| cons d ks ih =>have:xb1 k (d::ks)=(sEq d k||xb1 k ks):=rfl;rw[this,ih,nX,gb,rH,decide_eq_true_iff,decide_eq_true_iff,decide_eq_true_iff,bi];lia
end
section
variable {k:Nat}
def xbn (ks:μ):μ->μ:=bY (motive:=λ_=>μ->μ) (λacc=>acc) (λk _ ih acc=>ih (bif xb1 k acc then acc else eap acc [k])) ks
end
section
variable {k:Nat}
theorem DP:∀ks acc,xbn ks acc=ks.foldl (λacc k=>if k∈acc then acc else acc++[k]) acc:=by intro ks;induction ks with| nil =>rintro acc;exact rfl| cons k ks ih =>rintro acc;have:xbn (k::ks) acc=xbn ks (bif xb1 k acc then acc else eap acc [k]):=rfl;rw[this,ih,qJ,zeh,gj];lia
end
section
variable {fa:RE}{x:To}
def rLs (fa:RE):RE:=fun ρ h=>(fa ρ h).bnd λx h=>T5 (eS h x) λds=>T5 (T6 dStr ds) λks=>Uf (! ϴ&&bR (UJ ks) 1000) (.ok [KZ,UJ (xbn ks [])] h)
end
section
variable {fa fb fc:RE}{x y:To}
def xav (g g':D->D->TH->R D) (fa fb fc:RE):RE:=fun ρ h=>(fa ρ h).bnd λx h=>(fb ρ h).bnd λy h=>(g x y h).bnd λz h=>match z with| .bl b=>bif b then(fc ρ h).bnd λu h=>g' y u h else .ok SY h| _=>.no
end
section
variable {k:Nat}
def rLam (k:Nat):RE:=λ_ h=>.ok (.at Id) (hp h (.mf k))
end
section
variable {k:Nat}
def eMf (h:TH):D->Rf| .at i=>(match eg h i with| some (.mf k)=>Q8| _=>ng)| _=>ng
end
section
variable {k:Nat}{fa:RE}{x:To}
def xa7 (lb:Nat->Option (Nat×RE)) (fa:RE) (f:RA):RE:=fun ρ h=>(fa ρ h).bnd λx h=>T5 (eMf h x) λk=>(f ρ h).bnd λxs h=>T5 (eMf h x) λk=>T5 (lb k) λp=>Uf (bW (UJ xs) p.1) (p.2 (Xq xs 0) h).nox
end
section
variable {i:Nat}{fs:RS}
def xbo (i:Nat) (fs:RS) (ρ:Ul) (c:Nat) (h':TH):R Fl:=(fs (ZC ρ i (se (.at (hn h')))) (hp h' (.mx c))).nox.bnd λx h2=>match x with| .nx ρ'=>[ϳ,.nx (ZC ρ' i ng)]| .rt v=>[ϳ,Jw]
end
section
variable {i:Nat}{yk:Nat->Bool}{fs:RS}
def xbT (i:Nat) (yk:Nat->Bool) (fs:RS) (ρ:Ul) (r:R D):R Fl:=match r with| .ok _ h'=>[χ,Qd]| .ex c h'=>Uf (yk c) (xbo i fs ρ c h')| .no=>.no
end
section
end
section
end
abbrev Wv (_N:μ):=Yy
noncomputable def UB:RT:=λ_ h=>.ok tj h
noncomputable def xbE (N:μ) (f:To) (n:Nat):Bool:=match N,n with| [],_=>fh| g::_,0=>g==f| g::N,n+1=>!(g==f)&&xbE N f n
theorem DQ:∀{N:List To} {f:To} {n:Nat},xbE N f n=tj->FAt N f n| g::N,f,0,h=>#[by rw[show g=f from beq_iff_eq.mp h];rfl,λm hm=>absurd hm (l6 _)]| g::N,f,n+1,h=>by obtain⟨h1,h2⟩:=mV.mp h;obtain⟨i1,i2⟩:=DQ h2;refine#[i1,λm hm=>?_];cases m with| zero=>simpa using h1| succ m=>exact i2 m (Nat.lt_of_succ_lt_succ hm)
theorem yL:∀{N:List To} {f:To} {n:Nat},xbE N f n=tj->N.contains f=tj| g::N,f,0,h=>by rw[show g=f from beq_iff_eq.mp h];simp| g::N,f,n+1,h=>by have:=yL (mV.mp h).2;simp_all
noncomputable def tn:Nat->String| 0=>"NoneType"| 1=>"bool"| 2=>"int"| 3=>"str"| 4=>"list"| 5=>"tuple"| _=>"dict"
def tc (h:TH):D->Rf| .non=>se 0| .bl _=>se 1| .int _=>se 2| .str _=>se 3| .lst _=>se 4| .tup _=>se 5| .at i=>(match eg h i with| some (.ml _)=>se 4| some (.mr _)=>se 4| some (.md _ _)=>se 6| _=>ng)| _=>ng
noncomputable def isBn (t c:Nat):Bool:=bW t c||(bW t 1&&bW c 2)
section
end
def ZN (c:Nat) (fa:RE):RE:=fun ρ h=>(fa ρ h).bnd λx h=>T5 (tc h x) λt=>.ok (.bl (isBn t c)) h
def YB (bs:Nat->JG) (fa:RE):RE:=fun ρ h=>(fa ρ h).bnd λx h=>match x with| .non=>.ok SY h| .at i=>(match eg h i with| some (.mx c)=>T5 (bs c) λb=>.ok Qt h| _=>.no)| _=>.no
noncomputable def Wu:RS:=λ_ _=>.no
def xbA (i:Nat) (f:RS):RS:=fun ρ h=>(f ρ h).bnd λx h=>match x with| .nx ρ=>(match eg ρ i with| some (se d)=>T5 (eMd h d) λp=>.ok (.nx (ZC ρ i (se (.dic p.2.1 p.2.2)))) (hs h p.1 .no)| _=>.no)| .rt v=>.ok Jw h
noncomputable def bX (n j c:Nat):JG:=bif bI c n then se (bW c j)else ng
noncomputable def bV (n c:Nat):JG:=bif bI c n then BT else ng
section
variable {f g:RS}{ρ ρ':Ul}{h h':TH}
theorem nY (z:f ρ h=[χ,OD]):Ts f g ρ h=g ρ' h':=by unfold Ts;rw[z];rfl
end
section
variable {f g:RS}{ρ:Ul}{h h':TH}{c:Nat}
theorem DR (z:f ρ h=.ex c h'):Ts f g ρ h=.ex c h':=by unfold Ts;rw[z];rfl
end
section
variable {f g:RS}{ρ:Ul}{h h':TH}{d:D}
theorem yM (z:f ρ h=[χ,.rt d]):Ts f g ρ h=[χ,.rt d]:=by unfold Ts;rw[z];rfl
end
section
variable {f g:RS}{fT:RT}{ρ:Ul}{h h':TH}
theorem iI (z:fT ρ h=[χ,tj]):Uc fT f g ρ h=f ρ h':=by unfold Uc;rw[z];rfl
end
section
variable {f g:RS}{fT:RT}{ρ:Ul}{h h':TH}
theorem lG (z:fT ρ h=[χ,fh]):Uc fT f g ρ h=g ρ h':=by unfold Uc;rw[z];rfl
end
section
variable {fa:RE}{ρ ρ':Ul}{h h':TH}{d:D}{fg:RG}
theorem jd (z:fa ρ h=[χ,d])(k:fg d ρ=se ρ'):TD fa fg ρ h=[χ,OD]:=by unfold TD;rw[z];show T5 (fg d ρ) _=_;rw[k];rfl
end
section
variable {fa fb:RE}{ρ:Ul}{h h' h2:TH}{d e:D}
theorem aH {o:D->D->TH->R D}{r:R D}(z1:fa ρ h=[χ,d])(z2:fb ρ h'=[ϳ,e])(z3:o d e h2=r):TP o fa fb ρ h=r:=by unfold TP;rw[z1];show[mt,fb ρ h']=_;rwa [z2]
end
section
variable {fa fb:RE}{ρ:Ul}{h h' h2:TH}{x y:Int}
theorem ze9 (z1:fa ρ h=[χ,IC])(z2:fb ρ h'=[ϳ,JZ])(p:0<y):TP VG fa fb ρ h=[ϳ,.int (x%y)]:=aH z1 z2 (by show Uf (xb7 x y) _=_;unfold xb7;rw[gX,Tc p];rfl)
end
section
variable {fa fb:RE}{ρ:Ul}{h h' h2:TH}{d:D}{l:θ}
theorem DS {i:Int}(z1:fa ρ h=[χ,Lw])(z2:fb ρ h'=[ϳ,JE])(z3:eat l i=ϩ):TK fa fb ρ h=[ϳ,d]:=by unfold TK;refine aH z1 z2 ?_;show gIx Lw JE h2=_;unfold gIx;show T5 (eat l i) _=_;rw[z3];rfl
end
section
end
section
end
section
end
section
end
section
end
section
variable {f:RS}{h h' h2:TH}{e:D}
theorem KO {keep:Bool}{n k:Nat}{ds:θ}{v:D}(hn:ds.length=n)(z:f (Xq ds k) h=[χ,Jw])(t:trunc Og v h'=[ϳ,e]):UL fh n k f ds h=[ϳ,e]:=by unfold UL;rwa [z,aW,hn,show bW n n=tj from gG n]
end
section
variable {f:RS}{h h':TH}
theorem nZ {n k:Nat}{ds:θ}{v:D}(hn:ds.length=n)(z:f (Xq ds k) h=[χ,Jw])(hl:h'.length=h.length):UL fh n k f ds h=[χ,v]:=KO (keep:=fh) hn z (by unfold trunc;rw[aW,aW,hl,show bW h.length h.length=tj from gG _];rfl)
end
section
variable {f:RS}{h h':TH}{c:Nat}
theorem DT {n k:Nat}{ds:θ}(hn:ds.length=n)(z:f (Xq ds k) h=.ex c h')(hl:h'.length=h.length):UL fh n k f ds h=.ex c h':=by unfold UL;rw[z,aW,hn,show bW n n=tj from gG n];show xap Og c h'=_;unfold xap;rw[aW,aW,hl,show bW h.length h.length=tj from gG _];rfl
end
def fnK (m n k:Nat) (f:RS) (ds:θ) (h:TH):R D:=Uf (bW (UJ ds) n) (match f (Xq ds k) h with| .ok (.nx _) h'=>Uf (bR (Og+m) (UJ h')) [Si,Og+m,h']| .ok (.rt v) h'=>Uf (bR (Og+m) (UJ h')) (trunc (Og+m) v h')| _=>.no)
section
def gInt (xs:θ) (h:TH):R D:=match xs with| [.bl b]=>.ok (.int (bif b then 1 else 0)) h| [.int i]=>.ok JE h| _=>.no
end
section
end
section
end
section
end
section
end
section
def erv (l:θ):θ:=bY (motive:=λ_=>θ->θ) (λa=>a) (λd _ ih a=>ih (d::a)) l []
end
section
theorem DV (l:θ):erv l=l.reverse:=by(have:∀l a,(bY (motive:=λ_=>θ->θ) (λa=>a) (λd _ ih a=>ih (d::a)) l a)=l.reverse++a:=λl=>by induction l with| nil=>intro a;rfl| cons d l ih=>simp_all);show(bY (motive:=λ_=>θ->θ) (λa=>a) (λd _ ih a=>ih (d::a)) l [])=_;simp_all
end
section
variable {fa fb:RE}
def xbz (m:Bool) (fa fb:RE):RE:=fun ρ h=>(fa ρ h).bnd λx h=>(fb ρ h).bnd λy h=>T5 (eL h x) λds=>match y with| .int (.ofNat 1)=>mk m ds h| .int (.negSucc 0)=>mk m (erv ds) h| _=>.no
end
section
variable {fa:RE}
def xbU (m:Bool) (fa:RE):RE:=fun ρ h=>(fa ρ h).bnd λx h=>T5 (eK h x) λp=>mk m (kds p.1) h
end
section
def gEqE (x y:D) (h:TH):R D:=T5 (eK h x) λp=>T5 (eK h y) λr=>match r.1 with| []=>.ok (.bl (match p.1 with| []=>tj| _=>fh)) h| _=>.no
end
section
variable {fA:RA}
def rPar (i j:Nat) (fA:RA):RS:=fun ρ h=>(fA ρ h).bnd λxs h=>match xs with| [x,y]=>.ok (.nx (ZC (ZC ρ i ω) j Ϫ)) h| _=>.no
end
open PySem NAL.EX
section
variable {f g:RS}{fT:RT}{fa:RE}{ρ ρ':Ul}{h h' h2:TH}{d e v w:D}{l:θ}{x y:Int}{n m:Nat}{o:TM}
theorem gm:Id=h.length:=aW h
theorem gq:hp h o=h++[o]:=gj _ _
theorem eq_int:VI neg IC JZ h=.ok (.bl (neg^^decide (x=y))) h:=by rw[<-lF];rfl
theorem eq_str {x y:To}(hx:WG 60 Ϯ=tj)(hy:WG 60 MH=tj):VI neg Ϯ MH h=.ok (.bl (neg^^decide (x=y))) h:=by rw[<-nX];show Uf (WG 60 Ϯ&&WG 60 MH) _=_;rw[hx,hy];rfl
theorem lt_int:gLt IC JZ h=.ok [M2,x<y] h:=by rw[<-gX];rfl
theorem gt_int:gGt IC JZ h=.ok [M2,y<x] h:=by rw[<-gX];rfl
theorem le_int:gLe IC JZ h=.ok [M2,x<=y] h:=by show[NK,! iLt y x,h]=_;rw[gX];congr 2;rw[gb];simp
theorem ge_int:gGe IC JZ h=.ok [M2,y<=x] h:=by show[NK,! iLt x y,h]=_;rw[gX];congr 2;rw[gb];simp
theorem add_int {m:Bool}:VD m IC JZ h=.ok (.int (x+y)) h:=rfl
theorem sub_int:Z6 IC JZ h=.ok (.int (x-y)) h:=rfl
theorem mod_int (p:0<y):VG IC JZ h=.ok (.int (x%y)) h:=by show Uf (xb7 x y) _=_;unfold xb7;rw[gX,Tc p];rfl
theorem Xm {i:Nat}:eat l i=l[i]?:=aX _ _
theorem DW:eat l (-1)=l.getLast?:=by show(bif bI 0 (UJ l)then eg l (UJ l-1)else ng)=_;rw[aW,aX];cases l with| nil=>rfl| cons x l =>rw[show bI 0 (x::l).length=tj from cF.mpr (Nat.succ_pos _),qE];rfl
def cd (n:Nat):Nat->D->Prop| 0,_=>False| m+1,.lst ds=>∀d∈ds,cd n m d| m+1,.tup ds=>∀d∈ds,cd n m d| m+1,.dic _ ds=>∀d∈ds,cd n m d| _+1,.at i=>i<n| _+1,_=>True
theorem yN {n n':Nat}(hn:n<=n'):∀(m:Nat) {d:D},cd n m d->cd n' m d:=by intro m;induction m with| zero =>rintro _ z;exact z.elim| succ m ih =>rintro d z;cases d with| lst ds=>exact λd hd=>ih (z d hd)| tup ds=>exact λd hd=>ih (z d hd)| dic ks ds=>exact λd hd=>ih (z d hd)| «at» i=>exact hZ (show i<n from z) hn| _=>trivial
theorem DX:∀(m:Nat) {d:D} {k:Nat},cd n m d->cd n (m+k) d:=by intro m;induction m with| zero =>rintro _ _ z;exact z.elim| succ m ih =>rintro d k z;rw[BK];cases d with| lst ds=>exact λd hd=>ih (z d hd)| tup ds=>exact λd hd=>ih (z d hd)| dic ks ds=>exact λd hd=>ih (z d hd)| «at» i=>exact z| _=>trivial
theorem km {f:D->R5}:∀{l:List D},(∀x∈l,f x=ω)->T6 f l=tx:=by intro l;induction l with| nil =>rintro _;exact rfl| cons x l ih =>rintro h;exact TW.mpr #[x,l,h x (.head _),ih λy hy=>h y (.tail _ hy),rfl]
theorem iR:∀(m:Nat) {d:D},cd n m d->fz h n m d=ϩ:=by intro m;induction m with| zero =>rintro d z;exact z.elim| succ m ih =>rintro d z;cases d with| lst ds=>show Wm (T6 (fz h n m) ds) _=_;rw[km λx hx=>ih (z x hx)];rfl| tup ds=>show Wm (T6 (fz h n m) ds) _=_;rw[km λx hx=>ih (z x hx)];rfl| dic ks ds=>show Wm (T6 (fz h n m) ds) _=_;rw[km λx hx=>ih (z x hx)];rfl| «at» i =>show(bif bI i n then se (D.at i) else _)=_;rw[cF.mpr (show i<n from z)];rfl| non=>rfl| bl _=>rfl| int _=>rfl| str _=>rfl| fn _=>rfl
def ct (n:Nat):TM->Prop| .ml ds=>∀d∈ds,cd n 9 d| .md _ ds=>∀d∈ds,cd n 9 d| .mi _ ds=>∀d∈ds,cd n 9 d| _=>True
def Cl (h:TH):Prop:=∀o∈h,ct h.length o
theorem pj (hn:n<=n')(z:ct n o):ct n' o:=by cases o with| ml ds=>exactλd hd=>yN hn 9 (z d hd)| md ks ds=>exactλd hd=>yN hn 9 (z d hd)| mi c ds=>exactλd hd=>yN hn 9 (z d hd)| _=>trivial
theorem Cl.app (z:Ϭ)(zo:ct (h.length+1) o):Cl (h++[o]):=λp hp=>by rw[eE,xb];rcases dh.mp hp with hp | hp;exact pj (l7 _) (z p hp);simp_all
theorem Cl.set (z:Ϭ)(zo:ct h.length o):Cl [ϭ,o]:=λp hp=>by rw[eX];rcases AY hp with hp | rfl;exact z p hp;exact zo
theorem sO (z:ct n o):fzo h n o=ζ:=by cases o with| ml ds=>show Wm (T6 (fz h n 9) ds) _=_;rw[km λx hx=>iR 9 (z x hx)];rfl| md ks ds=>show Wm (T6 (fz h n 9) ds) _=_;rw[km λx hx=>iR 9 (z x hx)];rfl| mi c ds=>show Wm (T6 (fz h n 9) ds) _=_;rw[km λx hx=>iR 9 (z x hx)];rfl| mr _=>rfl| mx _=>rfl| mf _=>rfl| no=>rfl
theorem yO {f:TM->Option TM}:∀{l:TH},(∀x∈l,f x=ω)->T6 f l=tx:=by intro l;induction l with| nil =>rintro _;exact rfl| cons x l ih =>rintro h;exact TW.mpr #[x,l,h x (.head _),ih λy hy=>h y (.tail _ hy),rfl]
theorem bL (e:h'.length=n):trunc n v h'=[χ,v]:=by unfold trunc;rw[aW,e,show bW n n=tj from gG _];rfl
theorem vT (c:Ϭ)(z:fz (h++t) h.length 9 v=se w)(nt:t≠[]):[Ms,v,h++t]=.ok w h:=by unfold trunc;rw[aW,show bW (h++t).length h.length=fh from fJ.mpr λz=>by exact nt (oQ.mp ε)];rw[sM,Bt,yO λx hx=>sO (c x hx)];rw[z];rfl;rfl
theorem n5 (c:Ϭ)(z:cd h.length 9 v):[Ms,v,h++t]=.ok v h:=by by_cases nt:t=[];subst nt;rw[k8];exact Lf;exact vT c (iR 9 z) nt
theorem pn (c:Ϭ)(hi:h.length<=i)(e:(h++t)[i]?=[ϓ,l])(z:∀d∈l,cd h.length 8 d):[Ms,.at i,h++t]=.ok Lw h:=by refine vT c ?_ ?_;show(bif[NE,i]then se (D.at i)else match eg (h++t) i with| some (.ml ds)=>Wm (T6 [ZK,h++t,8] ds) .lst| _=>ng)=_;rw[show[NE,i]=fh from fJ.mpr λz=>by have:=K0;exact NAG.gl0 this hi,aX,e];grind[Wm,T6,fz,km,iR];grind
section
variable {nx:Nx}{fg:RG}{fs:RS}{L:θ}
theorem DY (Inv:Nat->Ul->TH->Prop)(hx:∀i ρ h,Inv i ρ h->nx h i=se (L[i]?))(hs:∀i d ρ h,L[i]?=ϩ->Inv i ρ h->∃ ρ1 ρ2 h2,fg d ρ=Yr/\fs ρ1 h=[ϳ,NO]/\Inv (i+1) ρ2 h2) :∀m i ρ h,i<=L.length->L.length<i+m->Inv i ρ h->∃ ρ' h',rGo nx fg fs m i ρ h=[χ,OD]/\Inv L.length ρ' h'| 0,i,ρ,h,h1,h2,_=>absurd h2 (by simp[*])| m+1,i,ρ,h,h1,h2,k=>by rw[yK,hx i ρ h k];by_cases lt:i<L.length;obtain⟨ρ1,ρ2,h3,q1,q2,q3⟩:=hs i _ ρ h (aV lt) k;obtain⟨ρ',h',q4,q5⟩:=DY Inv hx hs m (i+1) ρ2 h3 lt Pm q3;grind[T5,R.bnd];grind
theorem KP (Inv:Nat->Ul->TH->Prop)(he:fi ρ h=[χ,nx])(hx:∀i ρ h,Inv i ρ h->nx h i=se (L[i]?))(hl:L.length<1000)(h0:Inv 0 ρ h')(hs:∀i d ρ h,L[i]?=ϩ->Inv i ρ h->∃ ρ1 ρ2 h2,fg d ρ=Yr/\fs ρ1 h=[ϳ,NO]/\Inv (i+1) ρ2 h2) :∃ ρ2 h2,U8 fi fg fs ρ h=[ϳ,NO]/\Inv L.length ρ2 h2:=by obtain⟨ρ2,h2,q,k⟩:=DY Inv hx hs 1000 0 ρ h' (ja _) (by assumption) h0;refine#[ρ2,h2,?_,k];unfold U8;rwa [he]
theorem DZ {l:Tm}{g:γ->D}{v:γ->D}(hx:∀i,nx h i=se ('N'[i]?))(hs:∀a∈l,∃ ρ1,fg (g a) ρ=Yr/\fT ρ1 h=.ok (p a) h/\(p a=tj->fa ρ1 h=.ok (v a) h)) :∀m i,i<=l.length->l.length<i+m->rCg nx fg fT fa ρ m i h=.ok (((l.drop i).filter p).map v) h| 0,i,h1,h2=>absurd h2 (by simp[*])| m+1,i,h1,h2=>by rw[qV,hx,bo];by_cases lt:i<l.length;obtain⟨ρ1,q1,q2,q3⟩:=hs l[i] (ka lt);have ih:=DZ hx hs m (i+1) lt Pm;rw[aV lt,uV lt,jZ];show T5 (fg (g l[i]) ρ) _=_;rw[q1];show[mt,(fT ρ1 h).nox]=_;rw[q2];show(bif p l[i]then[mt,(fa ρ1 h).nox]else _)=_;(cases hb:p l[i]with| false=>exact ih| true =>rw[q3 hb];show[mt,rCg nx fg fT fa ρ m (i+1) h]=_;rw[ih];rfl);grind
theorem sP {l:Tm}{g:γ->D}{v:γ->D}(he:fi ρ h=[χ,nx])(hx:∀i,nx h' i=se ('N'[i]?))(hl:l.length<1000)(hs:∀a∈l,∃ ρ1,fg (g a) (bh n ng++eFr ρ fr)=Yr/\fT ρ1 h'=[χ,p a]/\(p a=tj->fa ρ1 h'=[χ,v a])) :Wv N b fi n fr fg fT fa ρ h=mk b ('d'.map v) h':=by show Yy b fi n fr fg fT fa ρ h=_;unfold Yy;rw[he];show[mt,rCg nx fg fT fa _ 1000 0 h']=_;rw[DZ hx hs 1000 0 (ja _) (by assumption)];rfl
theorem vU {l:Tm}{g:γ->D}{v:γ->D}(he:fi ρ h=[χ,nx])(hx:∀i,nx h' i=se ('N'[i]?))(hl:l.length<1000)(hs:∀a∈l,∃ ρ1,fg (g a) (bh n ng++eFr ρ fr)=Yr/\fa ρ1 h'=[χ,v a]) :Wv N b fi n fr fg UB fa ρ h=mk b (l.map v) h':=by have z:=sP (N:=N) (b:=b) (fT:=UB) he hx hl λa ha=>let #[ρ1,e1,e2]:=hs a ha;#[ρ1,e1,rfl,λ_=>e2];rwa [show l.filter (λ_=>tj)=l from xq.mpr λ_ _=>rfl] at z
theorem D2 {l:Tm}{g:γ->D}(Inv:Nat->Ul->TH->Prop)(he:fi ρ h=[χ,nx])(hx:∀i ρ h,Inv i ρ h->nx h i=se ('N'[i]?))(hl:l.length<1000)(h0:Inv 0 ρ h')(hs:∀i a ρ h,l[i]?=Ϸ->Inv i ρ h->∃ ρ1 ρ2 h2,fg (g a) ρ=Yr/\fs ρ1 h=[ϳ,NO]/\Inv (i+1) ρ2 h2) :∃ ρ2 h2,U8 fi fg fs ρ h=[ϳ,NO]/\Inv l.length ρ2 h2:=by(obtain⟨ρ2,h2,q,k⟩:=KP Inv he hx ε h0 λi d ρ h hd I=>by rw[bo,kg] at hd;obtain⟨a,ha,rfl⟩:=hd;exact hs i a ρ h ha I);grind
theorem cY (i:Nat):X4 Lw h i=se (l[i]?):=by show se (eg l i)=_;rw[aX]
theorem sQ (i:Nat):nRg n h i=se (((aT n).map λk:Nat=>D.int k)[i]?):=by show se (bif bI i n then se [N3,i]else ng)=_;rw[bo];by_cases z:i<n;rw[cF.mpr z,kZ z];rfl;rw[show bI i n=fh from fJ.mpr λy=>z (cF.mp y),gf ε];rfl
theorem D5 (i:Nat):nEn Lw h i=se ((l.zipIdx.map λp=>D.tup [.int p.2,p.1])[i]?):=by show se (Wm (eg l i) λx=>D.tup [[KZ,i],x])=_;rw[aX,bo,oT];cases l[i]? with| none=>rfl| some x=>simp[Wm]
theorem D6 (i:Nat):nZp [Lw,.lst l'] h i=se (((l.zip l').map λp=>D.tup [p.1,p.2])[i]?):=by show Wm (eZ h i [Lw,.lst l']) _=_;rw[bo];unfold List.zip;rw[xf];unfold eZ;simp only[eS,aX];cases l[i]?<;>cases l'[i]?<;>rfl
theorem D7 (i:Nat):nZp [Lw,.lst l',.lst l2] h i=se (((l.zip (l'.zip l2)).map λp=>D.tup [p.1,p.2.1,p.2.2])[i]?):=by show Wm (eZ h i [Lw,.lst l',.lst l2]) _=_;rw[bo];unfold List.zip;rw[xf,xf];unfold eZ;simp only[eS,aX];cases l[i]?<;>cases l'[i]?<;>cases l2[i]?<;>rfl
end
theorem vV:rWh fT fs (m+1) ρ h=(fT ρ h).bnd λb h=>bif b then(fs ρ h).bnd λx h=>match x with| .nx ρ=>rWh fT fs m ρ h| .rt v=>.ok Jw h else .ok Qd h:=rfl
theorem D8 {fs:RS}:∀(m:Nat) {ρ:Ul} {h:TH} {k:Nat},rWh fT fs m ρ h≠.no->rWh fT fs (m+k) ρ h=rWh fT fs m ρ h:=by intro m;induction m with| zero =>rintro _ _ _ z;exact absurd rfl z| succ m ih =>rintro ρ h k z;rw[BK,vV,vV];rw[vV] at z;cases e:fT ρ h with| ex c h=>rfl| no=>rfl| ok b h1 =>rw[e] at z;cases b with| false=>rfl| true =>replace z:(R.bnd (fs ρ h1) λx h=>match x with| .nx ρ=>rWh fT fs m ρ h| .rt v=>.ok (.rt v) h) ≠ .no:=z;show(R.bnd (fs ρ h1) λx h=>match x with| .nx ρ=>rWh fT fs (m+k) ρ h| .rt v=>.ok (.rt v) h)=_;show _=(R.bnd (fs ρ h1) λx h=>match x with| .nx ρ=>rWh fT fs m ρ h| .rt v=>.ok (.rt v) h);cases e2:fs ρ h1 with| ex c h=>rfl| no=>rfl| ok y h3 =>rw[e2] at z;cases y with| rt v=>rfl| nx ρ2=>exact ih z
open Classical in
theorem zcN {fs:RS}(z:rWh fT fs m ρ h≠.no):Wt ng fT fs ρ h=rWh fT fs m ρ h:=by
 have k:∃m,rWh fT fs m ρ h≠.no:=#[m,z];show(if k:∃m,rWh fT fs m ρ h≠.no then rWh fT fs k.choose ρ h else .no)=_
 rw[dif_pos k,<-D8 m (k:=k.choose) z,<-D8 k.choose (k:=m) k.choose_spec,xL]
theorem zdM {fs:RS}(Inv:Nat->Ul->TH->Prop)(i3:Ul->TH->Prop)(hs:∀m ρ h,Inv m ρ h->∃b h1,fT ρ h=[Ϥ,b]/\(b=tj->∃ ρ2 h2 m',fs ρ h1=[ϳ,NO]/\m'<m/\Inv m' ρ2 h2)/\(b=fh->i3 ρ h1))(h0:Inv n ρ h) :∃ ρ' h',Wt ng fT fs ρ h=[χ,OD]/\i3 ρ' h':=by(have A:∀k m ρ h,m<k->Inv m ρ h->∃ ρ' h',rWh fT fs k ρ h=[χ,OD]/\i3 ρ' h':=λk=>by induction k with| zero=>intro m ρ h lt;simp_all| succ k ih =>intro m ρ h lt I;obtain⟨b,h1,e1,e2,e3⟩:=hs m ρ h I;rw[vV,e1];cases b with| false=>exact#[ρ,h1,rfl,e3 rfl]| true =>obtain⟨ρ2,h2,m',e4,lt',I'⟩:=e2 rfl;obtain⟨ρ',h',e5,p⟩:=ih m' ρ2 h2 (by lia) I';refine#[ρ',h',?_,p];show(R.bnd (fs ρ h1) _)=_;rw[e4];exact e5);obtain⟨ρ',h',e,p⟩:=A (n+1) n ρ h (i9 _) h0;exact#[ρ',h',(zcN (by rw[e];intro z;cases z)).trans e,p]
theorem yP (hn:ds.length=n)(z:f (Xq ds k) h=[χ,OD])(t:[Ms,.non,h']=[ϳ,e]):UL fh n k f ds h=[ϳ,e]:=by unfold UL;rwa [z,aW,hn,show bW n n=tj from gG n,aW]
theorem sS (hn:ds.length=n)(z:f (Xq ds k) h=[χ,Jw])(t:[Ms,v,h']=[ϳ,e]):UL fh n k f ds h=[ϳ,e]:=by unfold UL;rwa [z,aW,hn,show bW n n=tj from gG n,aW]
end
end NAL.RX
namespace NAM
open PySem PySem.Spec PyProof.Rows NAL NAL.EX NAL.RX
abbrev Zq:RS:=(Ts (xaw rK [ϙ,0,3] (rV 7) (TK [ϙ,0,2] ϡ)) (Xx (Yg (TK [ϙ,0,4] (rV 7)) (Tg ϡ Tk))))
abbrev xaQ:RS:=(U8 (Vb ϸ) (rN 7) Zq)
def XM:=fnK 2 5 3 [υ,Z4 0 0 (ξ) (Ui Ur (Tg ο Tk)),Z4 0 1 (ξ) (Wv ["give","take","self"] fh J8 2 [0] (YS 0 1) UB (VF [lP,Tg [Hb,Ub 0 0 ς,ο] Tk])),[υ,Z4 0 2 (ξ) (Ui (ZT tj) (Tg ύ Tk)),Z4 0 3 (ξ) (TP (VD tj) ο ς),Ts (Z4 0 4 (ξ) (Wv ["end"] fh (Vb [ϙ,0,3]) 1 [] ϝ UB (Un tj Tk))) (U8 (rIe [ϙ,0,1]) (YS 5 6) xaQ)]]
def Us:=UL fh 1 0 (TN (Wv ["give","self"] fh (rIr (Tg [ϙ,0,0] Tk)) 1 [0] ϝ [τ,gGt,TK (Ub 0 3 ο) ξ,[΢,0]] ξ))
def UZ:=UL fh 2 0 (TN (Ui Ji (Tg (Wv ["end","self"] fh M1 1 [0] ϝ UB (Wa (TP gGe (ξ) (Ub 0 0 ο)) (TP gGt (TK (Ub 0 3 ο) ξ) [΢,0]))) Tk)))
def Vx:=UL fh 3 1 (Ts [π,TK [ϙ,0,1] ς,3] (TN (rIf [τ,ϯ,ο,[KK,[΢,0]]] [KK,[΢,1]] [KK,[΢,0]])))
def WB:=UL fh 3 0 (TN (xaS (TP gLt ο [ϙ,0,0]) (TP gGt (TK [ϙ,0,2] ς) [΢,0])))
abbrev zak:RS:=(Ts [π,[ϖ,0,Vx,Tg ύ (Tg ϡ Tk)],6] (Uc (YC [τ,gLt,[NR,ϸ],[΢,0]] (TJ [ϖ,0,WB,Tg ύ (Tg ϡ Tk)])) (Ts (YQ [Hb,[NR,ύ],[΢,1]] ς ϸ) (Xx (Yg ό (Tg ϸ Tk)))) TY))
abbrev WQ:RS:=(U8 (Vb (TK [ϙ,0,4] ύ)) (rN 5) zak)
def Wf:=UL fh 3 4 [υ,[π,Un tj Tk,3],U8 M1 (rN 4) WQ,TN ό]
abbrev V3:RS:=(YQ [΢,0] ο ό)
abbrev V5:RT:=(YC [τ,gGt,Ui Ur (Tg ς Tk),[΢,0]] (WV (TJ [ϖ,0,UZ,Tg ς Tk])))
abbrev V2:RS:=[π,[ϖ,0,Wf,[Zk,Tg ο Tk]],2]
def U3:=UL fh 1 3 [υ,[π,TP (V0 tj) (Un fh (Tg (rUn xaG [΢,1]) Tk)) (Ui Ur (Tg [ϙ,0,3] Tk)),1],[π,[ϖ,0,Us,Tk],2],[υ,U8 (Vb ς) (rN 3) V3,Wt ng V5 V2,TN ο]]
def WN:=UL fh 4 0 (TN (Wa (TP ϯ [KK,[ϖ,0,Vx,[϶,Tg ς Tk]]] [Hb,[KK,ο],[΢,1]]) [ϖ,0,WB,[϶,Tg ς Tk]]))
abbrev VT:RT:=(YC [τ,gLt,[KK,ο],Ui Ur (Tg ύ Tk)] (WV (TJ [ϖ,0,WN,[϶,Tg (TK ύ [KK,ο]) (Tg ς Tk)]])))
abbrev VS:RS:=(xaw uT ό ο [΢,1])
def Vm:=UL fh 4 1 (Ts [π,TK [ϙ,0,4] ο,4] (Wt ng VT VS))
abbrev XF:RT:=(YC [τ,gGt,Ui Ur (Tg ϡ Tk),[΢,0]] (WV (TJ [ϖ,0,UZ,Tg (Un fh (Tg (TK ϡ (rUn xaG [΢,1])) Tk)) Tk])))
abbrev XE:RS:=[υ,[π,TK ϡ (rUn xaG [΢,1]),6],Xx [ϖ,0,Vm,Tg ϸ [Zk,Tg ό Tk]],Uc [τ,gLt,[KK,ϸ],Ui Ur (Tg (TK [ϙ,0,4] ϸ) Tk)] [υ,[π,TK (TK [ϙ,0,4] ϸ) [KK,ϸ],7],Xx (Yg ύ (Tg (rV 7) Tk)),Xx (Yg ϡ (Tg [ϖ,0,Vx,Tg ϸ (Tg (rV 7) Tk)] Tk))] (Ts (Xx (xah ϡ)) (Uc [τ,gGt,Ui Ur (Tg ϡ Tk),[΢,0]] (Ts (Xx (xah ύ)) (xaw uT ό (TK ϡ (rUn xaG [΢,1])) [΢,1])) TY))]
def VL:=UL fh 4 4 [υ,[π,Un tj Tk,4],[π,Un tj (Tg ο Tk),5],Ts (Wt ng XF XE) (TN ύ)]
abbrev zaW:RS:=(xaw uT [ϙ,0,2] ϡ ύ)
abbrev Zi:RS:=(xaw rK [ϙ,0,2] ϡ ύ)
def Vo:=UL fh 3 3 [υ,[π,TK (TK [ϙ,0,1] [NR,rUn xaG [΢,1]]) [΢,1],3],[π,Ui gMin (Tg [Hb,Un fh (Tg (TK [ϙ,0,3] ο) (Tg (TK [ϙ,0,3] ό) Tk)),Wv ["tie","self"] fh (Vb (xbp fh fh ς)) 1 [0] ϝ UB (TK (Ub 0 2 ο) ξ)] Tk),4],[υ,U8 (Vb (xbp fh tj ς)) (rN 5) zaW,U8 (Vb (xbp fh fh ς)) (rN 5) Zi,Ts (xaw rK [ϙ,0,3] ο ύ) (xaw rK [ϙ,0,3] ό ύ)]]
abbrev zaL:RT:=[τ,gGt,Ui Ur (Tg ύ Tk),[΢,0]]
abbrev zfe:RS:=(Ts (Xx [ϖ,0,Vo,Tg ό (Tg ύ Tk)]) [π,rIf [τ,gGt,TK [ϙ,0,3] ό,[΢,0]] [ϖ,0,VL,Tg ό [϶,Tg ς Tk]] (Un fh Tk),4])
abbrev V4:RS:=(Ts [π,[ϖ,0,VL,Tg ό [϶,Tg ς Tk]],4] (Wt ng zaL zfe))
def Vw:=UL fh 2 3 (Ts [π,TP (V0 tj) (Un fh (Tg [΢,0] Tk)) (Ui Ur (Tg [ϙ,0,3] Tk)),2] (U8 (Vb [ϖ,0,Us,Tk]) (rN 3) V4))
abbrev Zt:RT:=(TJ [ϖ,0,UZ,Tg (Wv ["end","step"] fh (rIe ο) 2 [] (YS 0 1) [τ,gGe,ο,[΢,0]] ξ) Tk])
abbrev Zr:RS:=(Ts (Xx [ϖ,0,Vw,Tg ο Tk]) [π,[ϖ,0,U3,Tk],1])
def Y3:=UL fh 1 1 [υ,[π,[ϖ,0,U3,Tk],1],Wt ng Zt Zr,TN (Wv ["step"] fh M1 1 [] ϝ UB (TP gGe (ξ) [΢,0]))]
def YW:=UL fh 4 2 [υ,[π,Ui (ZS 0 XM) [lP,[϶,[Zk,Tg ό Tk]]],4],[π,TL 0 Y3 ύ Tk,5],TN (VF (Tg (Ub 0 2 ύ) (Tg (VF (Tg (rSl fh ϡ rO0 (rO1 (Ui Ur (Tg ξ Tk)))) (Tg (rSl fh ϡ (rO1 (Ui Ur (Tg ξ Tk))) rO0) Tk))) Tk)))]
def ZD:=UL fh 3 0 (TN (Ui YW [lP,[϶,[Zk,Tg [OQ,Un fh (Tg [΢,0] Tk),Ui Ur (Tg ς Tk)] Tk]]]))
abbrev xbj:RS:=(Xx (rExt ό (Tg (Wv ["hand","give","place_of"] fh (Vb [qo,ϡ]) 1 [4,2] ϝ [τ,Rv,ξ,ς] (VF [϶,Tg [NR,ξ] Tk])) Tk)))
def X8:=UL fh 2 4 [υ,[π,Ui (X7 fh) (Tg (Wv ["place","hand"] fh (rIe [σ,[΢,0]]) 2 [] (YS 0 1) UB (VF [϶,Tg ξ Tk])) Tk),2],[π,Un tj Tk,3],Ts (U8 (rIe [σ,[΢,1]]) (YS 4 5) xbj) (TN ό)]
def Z7:=UL fh 2 0 (TN (Ui gSum (Tg (Wv ["chore","works"] fh (Vb [σ,[΢,1]]) 1 [0] ϝ UB [σ,ξ]) Tk)))
def Zd:=UL fh 3 2 [υ,[π,Ui Ur (Tg [NR,[΢,0]] Tk),3],[π,Wv ["chore","works","many"] fh (Vb [NR,[΢,1]]) 1 [0,3] ϝ UB [OQ,[σ,ξ],ς],4],TN (Ui ZD (Tg ύ (Tg [OQ,Un fh (Tg (Ui Z7 [lP,Tg ς Tk]) Tk),ό] (Tg (Ui X8 [϶,Tg ς Tk]) Tk))))]
def ZU:=UL fh 3 0 (TN (Wv ["thing","mark","wanted"] fh (rIz ξ ο) 2 [2] (YS 0 1) [τ,ϯ,ο,ς] ξ))
abbrev Zs:RT:=[τ,gGt,Ui Ur (Tg ύ Tk),[΢,0]]
abbrev xaO:RS:=(Xx (Yg ύ (Tg (VF (Tg (Ui ZU (Tg (TK ϡ [΢,0]) (Tg (TK ϸ [΢,1]) (Tg (rV 7) Tk)))) (Tg (Ui ZU (Tg (TK ϡ [΢,1]) (Tg (TK ϸ [΢,0]) (Tg (rV 7) Tk)))) Tk))) Tk)))
abbrev Zp:RS:=[υ,[π,xah ύ,5],[π,TK (Ui Zd [lP,[϶,Tg ϡ Tk]]) [΢,1],6],Uc (TJ (Ui Ji (Tg (TK ϸ [΢,1]) Tk))) (U8 (Vb (VF (Tg (rC (SY)) (Tg (rC ϻ) Tk)))) (rN 7) xaO) (Xx (Yg ό (Tg ϡ Tk)))]
def YX:=UL fh 3 5 [υ,[π,Un tj Tk,3],[π,rIf [τ,gGt,ς,[΢,0]] (Un tj (Tg (VF (Tg (ZM fh ς) (Tg (ZM fh (Ui Ur (Tg ξ Tk))) Tk))) Tk)) (Un tj Tk),4],Ts (Wt ng Zs Zp) (TN ό)]
def Xo:=UL fh 1 0 (TN (Wa (ZN 2 ξ) (rNotV (ZN 1 ξ))))
abbrev YK:RT:=[τ,gGt,ό,[΢,0]]
abbrev YH:RS:=[υ,[π,TP VG ς ό,4],[π,ό,2],[π,ύ,3]]
def Wd:=UL fh 2 3 [υ,[π,Ui xbs (Tg ξ Tk),2],[π,Ui xbs (Tg ο Tk),3],Ts (Wt ng YK YH) (TN ς)]
def Ze:=UL fh 2 1 [υ,Uc (rOr (WV (TJ (Ui Xo (Tg ξ Tk)))) (rOr (WV (TJ (Ui Xo (Tg ο Tk)))) [τ,ϯ,ο,[΢,0]])) Wu TY,[π,Ui Wd [lP,Tg ο Tk],2],Ts (Uc [τ,gLt,ο,[΢,0]] [π,rUn xaG ς,2] TY) (TN (VF (Tg (TP Xk (ξ) ς) (Tg (TP Xk ο ς) Tk))))]
def XG:=UL fh 3 1 (Ts [π,TK (Ui Zd [lP,[϶,Tg ς Tk]]) [΢,0],3] (TN (Wv ["amount","crowd"] fh J8 1 [2] ϝ UB (Ui Ze [lP,Tg (Ui Ur (Tg [σ,[΢,0]] Tk)) Tk]))))
abbrev Zo:RS:=(Ts [π,TK (TK ϡ [΢,1]) (TK (rV 7) [΢,0]),9] (YQ (rV 8) (TK ύ (rV 9)) (rIdx [qo,rV 9] (Tg (TK (TK ϡ [΢,0]) (TK (rV 7) [΢,1])) Tk))))
abbrev xaN:RS:=(U8 (rIz (Ui X8 [lP,Tg ϡ Tk]) ϸ) (YS 7 8) Zo)
def YV:=UL fh 4 6 [υ,[π,Wv ["hands","nothing"] fh LO 1 [3] ϝ UB (TP (V0 tj) (Un fh (Tg ο Tk)) (Ui Ur (Tg ξ Tk))),4],U8 (rIz ο ς) (YS 5 6) xaN,TN ύ]
def WA:=UL fh 3 2 [υ,[π,Ui YX [lP,[϶,Tg ς Tk]],3],[π,Wv ["crowd","works","doers"] fh J8 1 [0,1] ϝ UB (Ui XG [϶,[Zk,Tg ξ Tk]]),4],TN (Ui YV [϶,Tg ό (Tg ύ (Tg (VF (Tg [΢,0] (Tg [΢,1] Tk))) Tk))])]
def Wx:=UL fh 2 3 [υ,[π,Ui Wd (Tg [qo,[΢,1]] (Tg [σ,[΢,1]] Tk)),2],[π,[Hb,[OQ,[qo,[΢,0]],TP Xk [σ,[΢,1]] ς],[OQ,[σ,[΢,0]],TP Xk [qo,[΢,1]] ς]],3],Ts [π,Ui Wd (Tg ό (Tg ς Tk)),4] (TN (VF (Tg (TP Xk ό ύ) (Tg [OQ,TP Xk [qo,[΢,1]] ς,TP Xk [σ,[΢,1]] ύ] Tk))))]
abbrev X0:RS:=[π,Ui Wx [϶,Tg ς Tk],1]
def Xn:=UL fh 1 2 [υ,[π,VF (Tg [΢,0] (Tg [΢,1] Tk)),1],U8 LO (rN 2) X0,TN ο]
abbrev WP:RS:=(Xx (Yg [KK,ϸ] (Tg (rV 7) Tk)))
abbrev zav:RS:=(U8 (rIz ύ ϡ) (YS 6 7) WP)
def Vn:=UL fh 3 5 [υ,[π,Wv ["hand"] fh (rIr (Tg ο Tk)) 1 [] ϝ UB (Un tj Tk),3],U8 (rIz ξ ς) (YS 4 5) zav,TN (Wv ["parts"] fh J8 1 [] ϝ UB (Ui Xn (Tg ξ Tk)))]
def Z9:=UL fh 3 0 (TN (Wa (TP (gIs tj) ο Ss) (Ui Ji (Tg (Wv ["hand","share","stayed"] fh (rIz ξ ο) 2 [2] (YS 0 1) UB (Wa (TP gGt [σ,[΢,0]] [΢,0]) [NR,ξ])) Tk))))
def Z8:=UL fh 5 3 [υ,[π,Ui WA [lP,[϶,Tg ς Tk]],5],[π,Ui Vn [϶,[Zk,Tg ϡ Tk]],6],Ts [π,Wv ["load","old_load"] fh (rIz ϸ ύ) 2 [] (YS 0 1) UB (TP ϯ (ξ) ο),7] (TN (Wv ["hands","old","new","stayed"] fh (rIz3 ο ό ϡ) 3 [7] (rN3 0 1 2) UB (rIf (TJ (Ui Z9 [lP,[϶,Tg ό Tk]])) (Ui (ZT fh) (Tg ο Tk)) ς)))]
end NAM
namespace NAP
section
variable {α:Type}
noncomputable def VY (R:Nv) (t:Nat×Nat×α):Nv:=R.set t.1 ((R.getD t.1 []).set t.2.1 t.2.2)
noncomputable def at2 (no:α) (R:Nv) (x k:Nat):α:=(R.getD x []).getD k no
noncomputable def S2 (no:α) (n:Nat) (ln:Nat->Nat) (W:Nat->Nat->α->Int) (R:Nv):Int:=((aT n).map λx=>((aT (ln x)).map λk=>W x k (at2 no R x k)).sum).sum
def Shp (n:Nat)(ln:Nat->Nat)(R:Nv):Prop:=R.length=n/\∀x<n,(R.getD x []).length=ln x
variable {no:α}{n:Nat}{ln:Nat->Nat}{W:Nat->Nat->α->Int}{R:Nv}
theorem yQ {l:QX}(h:i<l.length):(l.set i v).getD j d=if j=i then v else l.getD j d:=by grind
theorem Shp.put (s:Shp n ln R)(hx:x<n):Shp n ln (VY R (x,k,a)):=by refine#[by unfold VY;rw[eX];exact s.1,λy hy=>?_];unfold VY;rw[yQ (by rwa [s.1])];split;rename_i c;subst c;rw[eX];exact s.2 y hy;exact s.2 y hy
theorem ZX (s:Shp n ln R)(hx:x<n)(hk:k<ln x)(y j:Nat):at2 no (VY R (x,k,a)) y j=if y=x/\j=k then a else at2 no R y j:=by unfold at2 VY;rw[yQ (by rwa [s.1])];by_cases c:y=x;subst c;rw[Nk,yQ (by rwa [s.2 y hx])];lia;simp_all
theorem xar (F F':Nat->Int)(g:Nat)(h:∀k,k≠g->F' k=F k):∀n:Nat,g<n->((aT n).map F').sum=((aT n).map F).sum+(F' g-F g):=by intro n;induction n with| zero =>rintro hn;simp_all| succ n ih =>rintro hn;rw[nz,dz,dz,kb,kb];simp only[bz,oX,cq,rU,oO];by_cases c:n=g;grind[aT,cH];rw[ih (NAG.gl43 hn c),h n c];exact NAG.gl44
theorem KS (s:Shp n ln R)(hx:x<n)(hk:k<ln x):S2 no n ln W (VY R (x,k,a))=S2 no n ln W R+(W x k a-W x k (at2 no R x k)):=by unfold S2;rw[xar (λy=>((aT (ln y)).map λj=>W y j (at2 no R y j)).sum) (λy=>((aT (ln y)).map λj=>W y j (at2 no (VY R (x,k,a)) y j)).sum) x (λy hy=>by congr 1;refine cH λj _=>?_;rw[ZX s hx hk,S9 (λz=>hy z.1)]) n hx];rw[xar (λj=>W x j (at2 no R x j)) (λj=>W x j (at2 no (VY R (x,k,a)) x j)) k (λj hj=>by rw[ZX s hx hk,S9 (λz=>hj z.2)]) (ln x) hk];rw[ZX s hx hk,Ta #[rfl,rfl]];lia
theorem fold_S2 (w0:∀x k,W x k no=0):∀(T:List (Nat×Nat × α)) R,Shp n ln R->(∀t∈T,t.1<n/\t.2.1<ln t.1)->T.Pairwise (λt u=>¬(t.1=u.1/\t.2.1=u.2.1))->(∀t∈T,at2 no R t.1 t.2.1=no)->Shp n ln (T.foldl VY R)/\S2 no n ln W (T.foldl VY R)=S2 no n ln W R+(T.map λt=>W t.1 t.2.1 t.2.2).sum:=by intro T;induction T with| nil =>rintro R s _ _ _;exact#[s,by simp]| cons t T ih =>rintro R s hb hp hn;obtain⟨b1,b2⟩:=hb t aR;have d5:=u5.mp hp;have s':Shp n ln (VY R t):=s.put b1;obtain⟨r1,r2⟩:=ih (VY R t) s' (λu hu=>hb u (a7 _ hu)) d5.2 (λu hu=>by have e:at2 no (VY R t) u.1 u.2.1=_:=ZX s b1 b2 u.1 u.2.1;rw[e,S9 (λz=>d5.1 u hu #[z.1.symm,z.2.symm])];exact hn u (a7 _ hu));have e:S2 no n ln W (VY R t)=_:=KS s b1 b2;rw[qJ,r2,e,bz,cq,hn t aR,w0];lia
theorem fold_all {P:α->Prop}(p0:P no):∀(T:List (Nat×Nat × α)) R,(∀t∈T,P t.2.2)->(∀r∈R,∀a∈r,P a)->∀r∈T.foldl VY R,∀a∈r,P a:=by intro T;induction T with| nil =>rintro R _ h;exact h| cons t T ih =>rintro R ht h;refine ih (VY R t) (λu hu=>ht u (a7 _ hu)) λr hr a ha=>?_;grind[VY,AY,bO,aV,ka,gf,aR]
end
theorem xaq {F:β->Int}:∀{l:List β} {i:Nat} {y:β},l[i]?=Ϫ->(∀j z,l[j]?=se z->j≠i->F z=0)->(l.map F).sum=F y| x::r,0,y,h,k=>by(have:(r.map F).sum=0:=by(have:∀z∈r,F z=0:=λz hz=>by obtain⟨j,hj⟩:=bH hz;exact k (j+1) z (by assumption) ε);rw[cH this,Xa]);simp_all| x::r,i+1,y,h,k=>by rw[bz,cq,k 0 x rfl (by lia),m9];exact xaq (by assumption) λj z hj hn=>k (j+1) z (by assumption) ε
theorem xaA:∀ends ad e,load ends ad e=((ends.zip ad).map λq=>if inc q.1 e then q.2 else 0).sum| [],_,_=>by rfl| _::_,[],_=>by rfl| p::r,s::q,e=>by rw[load,i8,bz,cq,xaA r q e]
theorem zdN (F:Nat->Nat->Int)(m:Nat):∀n,[ut,λi=>upTo (λh=>F i h) m]=upTo (λh=>[ut,λi=>F i h]) m:=by intro n;induction n with| zero =>exact(UD m).symm| succ n ih =>show upTo (λi=>upTo (λh=>F i h) m) n+upTo (λh=>F n h) m=upTo (λh=>upTo (λi=>F i h) n+F n h) m;rw[ih,Xg]
theorem zat (h:∀e<n,0<=f e):0<=[ut,f]:=by have:=jv h;grind[UD]
theorem D9 (h:∀e<n,0<=f e)(ha:a<n):f a<=[ut,f]:=by(have:=jv (f:=λe=>if e=a then f a else 0) λe he=>by by_cases c:e=a;rw['-',c];exact lT;rw[Cx];exact h e he);rwa [Xf,Ta ha] at this
theorem zbg (gn:∀j<nB,0<=g j)(f:Nat->Nat)(r:Nat->Bool):∀{n:Nat},(∀i<n,r i=tj->f i<nB)->(∀i<n,∀k<n,r i=tj->r k=tj->f i=f k->i=k)->[ut,λi=>if r i then g (f i)else 0]<=upTo g nB/\∀j<nB,(∀i<n,r i=tj->f i≠j)->[ut,λi=>if r i then g (f i)else 0]+g j<=upTo g nB:=by intro n fI hinj;(have bE:∀n,(∀i<n,r i=tj->f i<nB)->(∀i<n,∀k<n,r i=tj->r k=tj->f i=f k->i=k)->[ut,λi=>if r i then g (f i)else 0]=upTo (λj=>if(aT n).any (λi=>r i&&decide (f i=j))then g j else 0) nB:=by intro n;induction n with| zero =>intro _ _;show 0=_;rw[show(λj=>if (aT 0).any (λi=>r i&&decide (f i=j)) then g j else 0)=λ_=>0 from funext λj=>rfl,UD]| succ n ih =>intro h1 h2;show upTo (λi=>if r i then g (f i) else 0) n+(if r n then g (f n) else 0)=_;rw[ih (λi hi=>h1 i (by exact fE hi)) (λi hi k hk=>h2 i (by exact fE hi) k (by exact fE hk))];by_cases c:r n=tj;rw[Ta c];have e1:=Xf (f n) (g (f n)) nB;rw[Ta (h1 n (by simp[*]) c)] at e1;rw[<-e1,<-Xg];refine Tx λj hj=>?_;rw[nz,Bu];by_cases e:f n=j;(have no:((aT n).any λi=>r i&&decide (f i=j))=fh:=u7.mpr λi hi z=>by simp only[cC,decide_eq_true_eq] at z;have hi:=dA.mp hi;exact cG hi (h2 i (fE hi) n (i9 n) z.1 c (z.2.trans e.symm)));rw[no];simp[c,e];simp[e,Ne.symm e];rw[S9 c,oO];refine Tx λj hj=>?_;rw[nz,Bu];(have:([n].any λi=>r i&&decide (f i=j))=fh:=by simp[c]);rw[this,wX]);rw[bE n fI hinj];(have lU:∀j<nB,(if(aT n).any (λi=>r i&&decide (f i=j))then g j else 0)<=g j:=λj hj=>by split;exact lT;exact gn j hj);refine#[jv lU,λj hj no=>?_];have e1:=Xf j (g j) nB;rw[Ta hj] at e1;rw[<-e1,<-Xg];refine jv λk hk=>?_;by_cases c:k=j;subst c;(have:(aT n).any (λi=>r i&&decide (f i=k))=fh:=by rw[u7];intro i hi;simp only[cC,decide_eq_true_eq,not_and];exactλri=>no i (dA.mp hi) ri);rw[this,S9 (by simp),Nk];simp_all;rw[Cx,oO];exact lU k hk
structure Dl (ag n:Nat)(D:Nat->Nat->Prop)(w:Nat->Int)(s:Nat->Nat->Int)(x:Nat->Int):Prop where
 nn:∀i<n,∀h<ag,0<=s i h
 off:∀i<n,∀h<ag,0<s i h->D i h
 sum:∀i<n,[IA,λh=>s i h]=w i
 load:∀h<ag,x h=[ut,λi=>s i h]
 even:∀i<n,∀h<ag,0<s i h->∀g<ag,D i g->x h<=x g
structure Up (ag nA nB:Nat)(DA DB:Nat->Nat->Prop)(wA wB:Nat->Int)(sA:Nat->Nat->Int)(f:Nat->Nat)(pl:Nat->Bool):Prop where
 lt:∀i<nA,(∃h<ag,Kb=tj/\0<sA i h)->f i<nB/\wA i<=Pf/\∀g<ag,DB (f i) g↔DA i g/\pl g=tj
 inj:∀i<nA,∀k<nA,f i=f k->i=k
section
variable {ag nA nB:Nat}{DA DB:Nat->Nat->Prop}{wA wB:Nat->Int}{sA sB:Nat->Nat->Int}{xA xB:Nat->Int}{f:Nat->Nat}{pl:Nat->Bool}
theorem Dl.set_le (A:Dl ag nA DA wA sA xA)(B:Dl ag nB DB wB sB xB)(U:Up ag nA nB DA DB wA wB sA f pl)(S:Nat->Bool)(Sp:∀h<ag,S h=tj->Kb=tj) (up:∀i<nA,∀s<ag,S s=tj->0<sA i s->∀d<ag,0<sB (f i) d->S d=tj) :[IA,λh=>if S h then TA else 0]<=[IA,λh=>if S h then TE else 0]/\([IA,λh=>if S h then TE else 0]<=[IA,λh=>if S h then TA else 0]->(∀i<nA,(∃s<ag,S s=tj/\0<sA i s)->(∀h<ag,0<sA i h->S h=tj)/\wA i=Pf)/\∀j<nB,(∃s<ag,S s=tj/\0<sB j s)->∃i<nA,(∃s<ag,S s=tj/\0<sA i s)/\f i=j):=by(have inS:∀(x:Nat->Int) n (s:Nat->Nat->Int),(∀h<ag,x h=[ut,λi=>s i h])->[IA,λh=>if S h then x h else 0]=[ut,λi=>[IA,λh=>if S h then s i h else 0]]:=λx n s hx=>by rw[zdN];refine Tx λh hh=>?_;by_cases c:S h=tj;rw['-',hx h hh];exact Tx λi hi=>'-'.symm;rw[Cx];rw[show(λi=>if S h=tj then s i h else 0)=λ_=>0 from funext λi=>Cx,UD]);rw[inS xA nA sA A.load,inS xB nB sB B.load];let r:=λi=>'3'.any λs=>S s&&decide (0<sA i s);(have rT:∀i,r i=tj↔∃s<ag,S s=tj/\0<sA i s:=λi=>by show '3'.any _=tj↔_;rw[gU];constructor;rintro⟨s,hs,h⟩;simp only[cC,decide_eq_true_eq] at h;exact#[s,dA.mp hs,h];rintro⟨s,hs,h⟩;refine#[s,dA.mpr hs,?_];simp only[cC,decide_eq_true_eq];exact h);let gA:=λi=>[IA,λh=>if S h then sA i h else 0];let gB:=λj=>[IA,λh=>if S h then sB j h else 0];(have oB:∀i<nA,∀h<ag,(if S h=tj then sA i h else 0)<=sA i h:=λi hi h hh=>by split;exact lT;exact A.nn i hi h hh);(have gBn:∀j<nB,0<=gB j:=λj hj=>zat λh hh=>by split;exact B.nn j hj h hh;exact lT);(have kz:∀i<nA,r i=tj->f i<nB/\wA i<=Pf:=λi hi ri=>by obtain⟨s,hs,h1,h2⟩:=(rT i).mp ri;obtain⟨a,b,_⟩:=U.lt i hi #[s,hs,Sp s hs h1,h2];exact#[a,b]);(have gBw:∀i<nA,r i=tj->gB (f i)=Pf:=λi hi ri=>by obtain⟨s,hs,h1,h2⟩:=(rT i).mp ri;rw[<-B.sum (f i) (kz i hi ri).1];refine Tx λh hh=>?_;by_cases c:S h=tj;exact '-';show(if S h=tj then sB (f i) h else 0)=sB (f i) h;rw[Cx];have:=B.nn (f i) (kz i hi ri).1 h hh;by_cases z:0<sB (f i) h;exact absurd (up i hi s hs h1 h2 h hh z) c;lia);(have gAw:∀i<nA,gA i<=wA i:=λi hi=>by rw[<-A.sum i hi];exact jv (oB i hi));(have gA0:∀i<nA,r i≠tj->gA i=0:=λi hi ri=>by(have e:gA i=[IA,λ_=>0]:=Tx λh hh=>by by_cases c:S h=tj;rw['-'];have:=A.nn i hi h hh;by_cases z:0<sA i h;exact absurd ((rT i).mpr #[h,hh,c,z]) ri;exact NAG.gl23 this z;exact Cx);rw[e,UD]);(have lU:∀i<nA,gA i<=(if r i=tj then gB (f i)else 0):=λi hi=>by by_cases c:r i=tj;rw['-',gBw i hi c];exact hK (gAw i hi) (kz i hi c).2;rw[Cx,gA0 i hi c];exact lT);have J:=zbg gBn f r (λi hi ri=>(kz i hi ri).1) (λi hi k hk _ _ e=>U.inj i hi k hk e);refine#[hK (jv lU) J.1,λback=>?_];refine#[λi hi hr=>?_,λj hj #[s,hs,h1,h2]=>?_];have ri:=(rT i).mpr hr;have e:=nV lU (hK J.1 back) i hi;rw[Ta ri,gBw i hi ri] at e;have l1:=gAw i hi;have l2:=(kz i hi ri).2;refine#[λh hh z=>?_,by lia];(have e2:[IA,λh=>sA i h]<=gA i:=by rw[A.sum i hi];simp_all);have:=nV (oB i hi) e2 h hh;by_cases c:S h=tj;exact c;rw[Cx] at this;simp_all;(have pos:0<gB j:=by refine qC ?_ (D9 (λh hh=>?_) hs);show 0<(if S s=tj then sB j s else 0);rwa [Ta h1];show 0<=(if S h=tj then sB j h else 0);split;exact B.nn j hj h hh;exact lT);by_cases ex:∃i<nA,r i=tj/\f i=j;obtain⟨i,hi,ri,e⟩:=ex;exact#[i,hi,(rT i).mp ri,e];have:=J.2 j hj λi hi ri e=>ex #[i,hi,ri,e];have l:=jv lU;have b':upTo gB nB<=upTo gA nA:=back;exact(NAG.gl100 pos this back l).elim
theorem Dl.mono (A:Dl ag nA DA wA sA xA)(B:Dl ag nB DB wB sB xB)(U:Up ag nA nB DA DB wA wB sA f pl):∀h<ag,Kb=tj->TA<=TE:=by intro h0 hh0 p0;by_cases c0:xA h0<=xB h0;exact c0;exfalso;(have c:xB h0<xA h0:=ε);let S:Nat->Bool:=λh=>Kb&&(decide (TE<=xB h0)&&decide (xB h0<TA));(have ST:∀h,S h=tj↔Kb=tj/\TE<=xB h0/\xB h0<TA:=λh=>by simp only[S,cC,decide_eq_true_eq]);(have K:=Dl.set_le A B U S (λh _ z=>((ST h).mp z).1) λi hi s hs s1 s2 d hd d1=>by obtain⟨a1,a2,a3⟩:=(ST s).mp s1;obtain⟨b1,_,b3⟩:=U.lt i hi #[s,hs,a1,s2];have e1:=B.even (f i) b1 d hd d1 s hs ((b3 s hs).mpr #[A.off i hi s hs s2,a1]);obtain⟨c1,c2⟩:=(b3 d hd).mp (B.off (f i) b1 d hd d1);have e2:=A.even i hi s hs s2 d hd c1;grind);(have lt:[IA,λh=>if S h then TE else 0]<[IA,λh=>if S h then TA else 0]:=by(have le:∀h<ag,(if S h=tj then TE else 0)<=(if S h=tj then TA else 0):=λh hh=>by by_cases z:S h=tj;rw[LN,LN];obtain⟨_,a,b⟩:=(ST h).mp z;exact hK a (cE b);rw[Sg,Sg];exact lT);have l:=jv le;rcases g9 [IA,λh=>if S h then TE else 0] [IA,λh=>if S h then TA else 0]with z | z;exact z;have e:=nV le z h0 hh0;have s0:=(ST h0).mpr #[p0,lT,c];rw[Ta s0,Ta s0] at e;exact absurd c (by rw[e];exact AW _));exact absurd lt (Int.not_lt.mpr K.1)
theorem Dl.keep (A:Dl ag nA DA wA sA xA)(B:Dl ag nB DB wB sB xB)(U:Up ag nA nB DA DB wA wB sA f pl)(ht:t<ag)(pt:pl t=tj)(et:xA t=xB t) :(∀i<nA,0<sA i t->f i<nB/\wA i=Pf/\(∀h<ag,0<sA i h->Kb=tj/\TA=TE)/\(∀h<ag,0<sB (f i) h->Kb=tj/\TA=TE)/\∀g<ag,DA i g->xA t<=xA g)/\∀j<nB,0<sB j t->∃i<nA,f i=j/\∃s<ag,pl s=tj/\xA s=xB s/\0<sA i s:=by let S:=λh=>Kb&&(decide (TA=xA t)&&decide (TE=xA t));(have ST:∀h,S h=tj↔Kb=tj/\TA=xA t/\TE=xA t:=λh=>by lia);have St:=(ST t).mpr #[pt,rfl,et.symm];(have up:=λi hi s hs s1 s2 d hd d1=>by obtain⟨a1,a2,a3⟩:=(ST s).mp s1;obtain⟨b1,_,b3⟩:=U.lt i hi #[s,hs,a1,s2];have e1:=B.even (f i) b1 d hd d1 s hs ((b3 s hs).mpr #[A.off i hi s hs s2,a1]);obtain⟨c1,c2⟩:=(b3 d hd).mp (B.off (f i) b1 d hd d1);have e2:=A.even i hi s hs s2 d hd c1;have:=Dl.mono A B U d hd c2;exact(ST d).mpr #[c2,by lia,by lia]);have K:=(Dl.set_le A B U S (λh _ z=>((ST h).mp z).1) up).2 ε;(have out:∀h,S h=tj->Kb=tj/\TA=TE:=λh z=>ε);refine#[λi hi z=>?_,λj hj z=>?_];obtain⟨k1,k2⟩:=K.1 i hi #[t,ht,St,z];obtain⟨b1,_,_⟩:=U.lt i hi #[t,ht,pt,z];exact#[b1,k2,λh hh y=>out h (k1 h hh y),λh hh y=>out h (up i hi t ht St z h hh y),λg hg d=>A.even i hi t ht z g hg d];obtain⟨i,hi,⟨s,hs,s1,s2⟩,e⟩:=K.2 j hj #[t,ht,St,z];exact#[i,hi,e,s,hs,(out s s1).1,(out s s1).2,s2]
end
theorem yR (f:Nat->Nat)(r:Nat->Bool):∀{n:Nat},(∀i<n,r i=tj->f i<nB)->(∀i<n,∀k<n,r i=tj->r k=tj->f i=f k->i=k)->(∀j<nB,g j≠0->∃i<n,r i=tj/\f i=j)->[ut,λi=>if r i then g (f i)else 0]=upTo g nB:=by intro n;induction n generalizing g with| zero =>intro _ _ h;(have:=Tx λj hj=>by by_cases c:g j=0;exact c;obtain⟨i,hi,_⟩:=h j hj c;trivial);rw[this,UD];rfl| succ n ih =>intro h1 h2 h3;show upTo (λi=>if r i then g (f i) else 0) n+(if r n then g (f n) else 0)=_;by_cases c:r n=tj;rw[Ta c];have e:=ih (g:=λj=>if j=f n then 0 else g j) (λi hi=>h1 i (by exact fE hi)) (λi hi k hk=>h2 i (by exact fE hi) k (by exact fE hk)) (λj hj z=>by by_cases e:j=f n;exact absurd (Ta e) z;rw[S9 e] at z;obtain⟨i,hi,ri,fi⟩:=h3 j hj z;exact#[i,xK (rZ hi) (λq=>e (by rw[<-fi,q])),ri,fi]);(have e2:upTo (λi=>if r i then (if f i=f n then 0 else g (f i)) else 0) n=upTo (λi=>if r i then g (f i) else 0) n:=Tx λi hi=>by by_cases ri:r i=tj;rw[Ta ri,Ta ri,S9 λq=>cG hi (h2 i (fE hi) n (i9 n) ri c q)];rw[S9 ri,S9 ri]);rw[<-e2,e];have e1:=Xf (f n) (g (f n)) nB;rw[Ta (h1 n (by simp[*]) c)] at e1;rw[<-e1,<-Xg];refine Tx λj hj=>?_;by_cases e:j=f n;rw[Ta e,Ta e,e,m9];rw[S9 e,S9 e,oO];rw[S9 c,oO];exact ih (λi hi=>h1 i (fE hi)) (λi hi k hk=>h2 i (fE hi) k (fE hk)) λj hj z=>by obtain⟨i,hi,ri,fi⟩:=h3 j hj z;exact#[i,xK (rZ hi) (λq=>c (q▸ri)),ri,fi]
structure xai (ag n:Nat)(D:Nat->Nat->Prop)(w:Nat->Int)(s os:Nat->Nat->Int)(x:Nat->Int)(kp:Nat->Bool):Prop where
 sum:∀i<n,kp i=tj->[IA,λh=>os i h]=w i
 even:∀i<n,kp i=tj->∀h<ag,0<os i h->∀g<ag,D i g->x h<=x g
 load:∀h<ag,[ut,λi=>if kp i then os i h else s i h]=x h
section
variable {ag nA nB:Nat}{DA DB:Nat->Nat->Prop}{wA wB:Nat->Int}{sA sB os:Nat->Nat->Int}{xA xB:Nat->Int}{f:Nat->Nat}{pl has kp:Nat->Bool}
theorem Dl.mix_up (A:Dl ag nA DA wA sA xA)(B:Dl ag nB DB wB sB xB)(U:Up ag nA nB DA DB wA wB sA f pl) (hr:∀j<nB,has j=tj->∃k<nA,f k=j/\∀h<ag,os j h=sA k h/\(0<os j h->Kb=tj)) (no:∀k<nA,f k<nB->has (f k)=fh->wA k≠wB (f k)\/∃h<ag,0<sA k h/\Kb=fh) (kt:∀j<nB,kp j=tj↔has j=tj/\∃h<ag,0<os j h/\TE=TA):xai ag nB DB wB sB os xB kp:=by(have kz:∀k<nA,∀t<ag,pl t=tj->xA t=xB t->0<sA k t->f k<nB/\kp (f k)=tj:=λk hk t ht pt et z=>by obtain⟨a,b,c,_,_⟩:=(Dl.keep A B U ht pt et).1 k hk z;refine#[a,(kt _ a).mpr ?_];cases hh:has (f k)with| false =>(rcases no k hk a hh with y | ⟨h,kJ,y1,y2⟩;exact absurd b y;have:=(c h kJ y1).1;rw[y2] at this;cases this)| true =>obtain⟨k',cP,e,o⟩:=hr _ a hh;have:k'=k:=U.inj k' cP k hk e;subst this;exact#[rfl,t,ht,by rwa [(o t ht).1],et.symm]);(have eJ:∀j<nB,kp j=tj->∃k<nA,f k=j/\wA k=wB j/\(∀h<ag,os j h=sA k h)/\(∀h<ag,0<sA k h->Kb=tj/\TA=TE)/\(∀h<ag,0<sB j h->Kb=tj/\TA=TE)/\∃t<ag,0<sA k t/\(∀g<ag,DA k g->xA t<=xA g):=λj hj z=>by obtain⟨h1,t,ht,p,e⟩:=(kt j hj).mp z;obtain⟨k,hk,fk,o⟩:=hr j hj h1;(have z':0<sA k t:=by rwa [<-(o t ht).1]);obtain⟨a,b,c,d,g⟩:=(Dl.keep A B U ht ((o t ht).2 p) e.symm).1 k hk z';rw[fk] at b d;exact#[k,hk,fk,b,λh hh=>(o h hh).1,c,d,t,ht,z',g]);refine#[λj hj z=>?_,λj hj z h hh p g hg dg=>?_,λh hh=>?_];obtain⟨k,hk,fk,b,o,_⟩:=eJ j hj z;rw[<-b,<-A.sum k hk];exact Tx o;obtain⟨k,hk,fk,b,o,c,d,t,ht,zt,gz⟩:=eJ j hj z;rw[o h hh] at p;obtain⟨p1,p2⟩:=c h hh p;obtain⟨c1,c2⟩:=c t ht zt;obtain⟨_,_,iff⟩:=U.lt k hk #[t,ht,c1,zt];rw[fk] at iff;obtain⟨g1,g2⟩:=(iff g hg).mp dg;have e1:=A.even k hk h hh p t ht (A.off k hk t ht zt);have e2:=gz g hg g1;have e3:=Dl.mono A B U g hg g2;lia;by_cases st:Kb=tj/\TA=TE;(have e1:upTo (λj=>if kp j then os j h else sB j h) nB=upTo (λj=>if kp j then os j h else 0) nB:=Tx λj hj=>by by_cases c:kp j=tj;rw['-','-'];rw[Cx,Cx];have nn:=B.nn j hj h hh;by_cases z:0<sB j h;obtain⟨k,hk,fk,s,hs,ps,es,zs⟩:=(Dl.keep A B U hh st.1 st.2).2 j hj z;have:=(kz k hk s hs ps es zs).2;rw[fk] at this;exact absurd this c;exact NAG.gl23 nn z);have e2:=yR (g:=λj=>if kp j then os j h else 0) f (λk=>decide (f k<nB)) (λi hi z=>Td z) (λi hi k hk _ _ e=>U.inj i hi k hk e) (λj hj z=>by by_cases c:kp j=tj;obtain⟨k,hk,fk,_⟩:=eJ j hj c;exact#[k,hk,Tc (by rwa [fk]),fk];rw[Cx] at z;exact[Oq,z]);rw[e1,<-e2,<-st.2,A.load h hh];refine Tx λk hk=>?_;have nn:=A.nn k hk h hh;by_cases z:0<sA k h;obtain⟨a,b⟩:=kz k hk h hh st.1 st.2 z;rw[Ta (Tc a),Ta b];obtain⟨k',cP,fk',_,o,_⟩:=eJ _ a b;have:=U.inj k' cP k hk fk';subst this;exact o h hh;(have z0:=by exact NAG.gl23 nn z);rw[z0];by_cases a:f k<nB;rw[Ta (Tc a)];by_cases b:kp (f k)=tj;rw[Ta b];obtain⟨k',cP,fk',_,o,_⟩:=eJ _ a b;have:=U.inj k' cP k hk fk';subst this;rw[o h hh,z0];rw[S9 b];rw[S9 (λy=>a (Td y))];rw[B.load h hh];refine Tx λj hj=>?_;by_cases c:kp j=tj;rw['-'];obtain⟨k,hk,fk,_,o,c1,c2,_⟩:=eJ j hj c;have n1:=A.nn k hk h hh;have n2:=B.nn j hj h hh;rw[o h hh];have z1:=λz=>st (c1 h hh z);have z2:=λz=>st (c2 h hh z);exact NAG.gl116 n1 n2 z1 z2;rw[Cx]
theorem Dl.mix_down (A:Dl ag nA DA wA sA xA)(B:Dl ag nB DB wB sB xB)(U:Up ag nA nB DA DB wA wB sA f pl) (hr:∀i<nA,has i=tj->f i<nB/\∀h<ag,os i h=sB (f i) h/\(0<os i h->Kb=tj)) (no:∀i<nA,has i=fh->(∃h<ag,Kb=tj/\0<sA i h)->wA i≠Pf) (kt:∀i<nA,kp i=tj↔has i=tj/\∃h<ag,0<os i h/\TA=TE):xai ag nA DA wA sA os xA kp:=by(have kz:∀i<nA,∀t<ag,pl t=tj->xA t=xB t->0<sA i t->f i<nB/\kp i=tj/\has i=tj:=λi hi t ht pt et z=>by obtain⟨a,b,c,d,_⟩:=(Dl.keep A B U ht pt et).1 i hi z;(have hs:has i=tj:=by cases hh:has i with| false=>exact absurd b (no i hi hh #[t,ht,pt,z])| true=>rfl);refine#[a,(kt i hi).mpr #[hs,?_],hs];obtain⟨_,o⟩:=hr i hi hs;(have pos:=by have:=D9 (λh hh=>A.nn i hi h hh) ht;rw[A.sum i hi] at this;lia);(have ex:∃h<ag,0<sB (f i) h:=by by_cases y:∃h<ag,0<sB (f i) h;exact y;(have:=jv λh hh=>by have:=λz=>y #[h,hh,z];exact Int.not_lt.mp this);rw[UD,B.sum (f i) a,<-b] at this;exact(NAG.gl70 z pos this).elim);obtain⟨h,hh,y⟩:=ex;obtain⟨_,e⟩:=d h hh y;exact#[h,hh,by rwa [(o h hh).1],e]);(have eJ:∀i<nA,kp i=tj->f i<nB/\wA i=Pf/\(∀h<ag,os i h=sB (f i) h)/\(∀h<ag,0<sA i h->Kb=tj/\TA=TE)/\(∀h<ag,0<sB (f i) h->Kb=tj/\TA=TE)/\∃t<ag,pl t=tj/\xA t=xB t/\DB (f i) t/\(∀g<ag,DA i g->xA t<=xA g):=λi hi z=>by obtain⟨h1,t,ht,p,e⟩:=(kt i hi).mp z;obtain⟨fi,o⟩:=hr i hi h1;obtain⟨i',i4,ei,s,hs,ps,es,zs⟩:=(Dl.keep A B U ht ((o t ht).2 p) e).2 (f i) fi (by rwa [<-(o t ht).1]);have:=U.inj i' i4 i hi ei;subst this;obtain⟨a,b,c,d,g⟩:=(Dl.keep A B U hs ps es).1 i' hi zs;obtain⟨_,_,iff⟩:=U.lt i' hi #[s,hs,ps,zs];exact#[fi,b,λh hh=>(o h hh).1,c,d,s,hs,ps,es,(iff s hs).mpr #[A.off i' hi s hs zs,ps],g]);refine#[λi hi z=>?_,λi hi z h hh p g hg dg=>?_,λh hh=>?_];obtain⟨fi,b,o,_⟩:=eJ i hi z;rw[b,<-B.sum (f i) fi];exact Tx o;obtain⟨fi,b,o,c,d,t,ht,pt,et,dt,gz⟩:=eJ i hi z;rw[o h hh] at p;obtain⟨p1,p2⟩:=d h hh p;have e1:=B.even (f i) fi h hh p t ht dt;have e2:=gz g hg dg;lia;by_cases st:Kb=tj/\TA=TE;(have e1:upTo (λi=>if kp i then os i h else sA i h) nA=upTo (λi=>if kp i then sB (f i) h else 0) nA:=Tx λi hi=>by by_cases c:kp i=tj;rw['-','-'];exact(eJ i hi c).2.2.1 h hh;rw[Cx,Cx];have nn:=A.nn i hi h hh;by_cases z:0<sA i h;exact absurd (kz i hi h hh st.1 st.2 z).2.1 c;exact NAG.gl23 nn z);rw[e1,yR (g:=λj=>sB j h) f kp (λi hi z=>(eJ i hi z).1) (λi hi k hk _ _ e=>U.inj i hi k hk e) (λj hj z=>?_),st.2,B.load h hh];have nn:=B.nn j hj h hh;obtain⟨i,hi,fi,s,hs,ps,es,zs⟩:=(Dl.keep A B U hh st.1 st.2).2 j hj (by lia);exact#[i,hi,(kz i hi s hs ps es zs).2.1,fi];rw[A.load h hh];refine Tx λi hi=>?_;by_cases c:kp i=tj;rw['-'];obtain⟨fi,_,o,c1,c2,_⟩:=eJ i hi c;have n1:=A.nn i hi h hh;have n2:=B.nn (f i) fi h hh;rw[o h hh];have z1:=λz=>st (c1 h hh z);have z2:=λz=>st (c2 h hh z);exact NAG.gl116 n2 n1 z2 z1;rw[Cx]
end
end NAP
set_option maxHeartbeats 1000000
namespace NAY
open PySem NAL NAL.EX NAL.RX NAM
noncomputable def ZO (p:Nat×Nat):D:=.tup [.int (p.1:Int),.int (p.2:Int)]
noncomputable def nD (n:Nat):D:=.int (n:Int)
noncomputable def TQ (l:xat):D:=[L7,nD]
structure Ua (h:TH)(me aS aP:Nat)(N:NAP.WD)(ad ac:xam):Prop where
 mi:h[me]?=[ϟ,0,[.int (N.G:Int),.lst (N.ends.map ZO),.at aS,.at aP,.lst (N.bG.map TQ)]]
 st:h[aS]?=[ϓ,OA]
 sp:h[aP]?=[ϓ,ac.map .int]
 ne:aS≠aP
 nS:me≠aS
 nP:me≠aP
 wf:N.WF
 ls:ad.length=N.ends.length
 lp:ac.length=N.nE
 sm:N.nE<=900
 sk:N.ends.length<=900
 la:∀(e:Nat) l,N.bG[e]?=tx->l.length<=900
section
variable {h h' t:TH}{me aS aP i:Nat}{N:NAP.WD}{ad ac:xam}{o:TM}{e k:Nat}
theorem bv {h t:ϐ}{o:α}(e:h[i]?=ζ):(h++t)[i]?=ζ:=by grind
theorem Ua.app (p:Ua h me aS aP N ad ac):Ua (h++t) me aS aP N ad ac:=#[bv p.mi,bv p.st,bv p.sp,p.ne,p.nS,p.nP,p.wf,p.ls,p.lp,p.sm,p.sk,p.la]
theorem Ua.set (p:Ua h me aS aP N ad ac)(h1:i≠me)(h2:i≠aS)(h3:i≠aP):Ua [ϭ,o] me aS aP N ad ac :=#[by rw[bF h1];exact p.mi,by rw[bF h2];exact p.st,by rw[bF h3];exact p.sp,p.ne,p.nS,p.nP,p.wf,p.ls,p.lp,p.sm,p.sk,p.la]
theorem jw (z:fa ρ h=[χ,d]):TN fa ρ h=[χ,.rt d]:=by unfold TN;rw[z];rfl
theorem aK (z:fA ρ h=[χ,xs])(k:g xs h'=r):Ui g fA ρ h=r:=by unfold Ui;rwa [z]
theorem aI (z1:fa ρ h=.ok a h)(z2:fA ρ h=.ok as h):Tg fa fA ρ h=.ok (a::as) h:=by grind[Tg,R.bnd]
theorem aO (z:fa ρ h=[χ,.bl x]):TJ fa ρ h=[χ,x]:=by unfold TJ;rw[z];rfl
theorem fQ (z:fa ρ h=[χ,d]):Xx fa ρ h=[χ,Qd]:=by unfold Xx;rw[z];rfl
theorem n6 (z1:fa ρ h=.ok (.at i) h)(z2:eg h i=[ϟ,k,ds])(z3:fA ρ h=.ok xs h)(z4:ev (.at i::xs) h=q):TL k ev fa fA ρ h=q:=by grind[TL,T5,eMi,bW,gG,R.bnd]
end
def fin (m:Nat) (x:Fl) (h:TH):ta:=match x with| .nx _=>[Si,m,h]| .rt v=>trunc m v h
def On (r:RX.R Fl)(P:Ul->TH->Prop):Prop:=∃ ρ h,r=.ok Qd h/\P ρ h
section
variable {f g:RS}{fa:RE}{fT:RT}{fA:RA}{fi:RI}{fg:RG}{ρ ρ1:Ul}{h h' h1 h2 t u:TH}{d y:D}{n k m c i:Nat}{r:ta}{ds F:θ}{P:Ul->TH->Prop}{κ:Fl->TH->ta}{N:μ}{fr:xat}{nx:NAL.RX.Nx}
theorem zaX (hn:ds.length=n)(z:(f (Xq ds k) h).bnd (fin h.length)=[Ϥ,d]):UL fh n k f ds h=[Ϥ,d]:=by unfold UL;rw[aW,hn,show bW n n=tj from gG n,aW];cases e:f (Xq ds k) h with| ok x h'=>rw[e] at z;cases x<;>exact z| _=>rw[e] at z;cases z
noncomputable def finK (x:Fl) (h:TH):ta:=match x with| .nx _=>.ok .non h| .rt v=>.ok v h
theorem kn (hn:ds.length=n)(z:(f (Xq ds k) h).bnd finK=[Ϥ,d]):UL tj n k f ds h=[Ϥ,d]:=by unfold UL;rw[aW,hn,show bW n n=tj from gG n];cases e:f (Xq ds k) h with| ok x h'=>rw[e] at z;cases x<;>exact z| _=>rw[e] at z;cases z
theorem sG (z:f ρ h=[Ϥ,Ja])(k:(g ρ1 h1).bnd κ=r):(Ts f g ρ h).bnd κ=r:=by grind[nY]
theorem sGe (z:f ρ h=[Ϥ,Ja])(e:h1=h2)(k:(g ρ1 h2).bnd κ=r):(Ts f g ρ h).bnd κ=r:=sG z (e▸k)
theorem sA (z:fa ρ h=[Ϥ,d])(k:(g (ZC ρ n ϩ) h1).bnd κ=r):(Ts [π,fa,n] g ρ h).bnd κ=r:=sG (jd z rfl) k
theorem sD (z:fa ρ h=[Ϥ,d])(k:(g ρ h1).bnd κ=r):(Ts (Xx fa) g ρ h).bnd κ=r:=sG (fQ z) k
theorem sR (z:fa ρ h=[Ϥ,d])(k:κ (.rt d) h1=r):(TN fa ρ h).bnd κ=r:=by rwa [jw z]
theorem sF (z:fT ρ h=[Ϥ,fh])(k:(g ρ h1).bnd κ=r):(Ts (Uc fT f TY) g ρ h).bnd κ=r:=sG ((lG z).trans rfl) k
theorem sT (z:fT ρ h=[Ϥ,tj])(k:(TN fa ρ h1).bnd κ=r):(Ts (Uc fT (TN fa) f) g ρ h).bnd κ=r:=by cases e:fa ρ h1 with| ok d h2=>rw[jw e] at k;grind[yM,iI,jw]| _=>grind[Ts,Uc,TN,RX.R.bnd]
theorem Ea (z1:fv ρ h=[χ,y])(z2:fa ρ h'=[χ,.at i])(z3:h'[i]?=[ϟ,c,ds])(hn:ds.length=n):Z4 c n fa fv ρ h=[IE,h'.set i (.mi c (ds++[y]))]:=by subst hn;unfold Z4;rw[z1];show[mt,fa ρ h']=_;rw[z2];show T5 (eMi c h' (.at i)) _=_;rw[show eMi c h' (.at i)=se (i,ds)by grind[eMi,aX,bW,gG]];show Uf (bR ds.length (UJ ds)) (R.ok SL (hs h' i (.mi c (bif bI ds.length (UJ ds)then ZC ds ds.length y else eap ds [y]))))=_;rw[aW,dH.mpr ϱ,show bI ds.length ds.length=fh from fJ.mpr λz=>absurd K0 (o5 _),gj,jc];rfl
theorem sI (z:v ρ (h++ .mi c F::t)=.ok y (h++ .mi c F::u))(za:fa ρ (h++ .mi c F::u)=.ok (.at h.length) (h++ .mi c F::u))(k:(g ρ (h++ .mi c (F++[y])::u)).bnd κ=r)(hn:F.length=n:=by rfl):(Ts (Z4 c n fa v) g ρ (h++ .mi c F::t)).bnd κ=r:=by refine sGe (Ea z za (by simp) hn) ?_ k;simp_all
theorem nG (z:f ρ h=[Ϥ,Ja])(k:On (g ρ1 h1) P):On (Ts f g ρ h) P:=by grind[nY]
theorem nA (z:fa ρ h=[Ϥ,d])(k:On (g (ZC ρ n ϩ) h1) P):On (Ts [π,fa,n] g ρ h) P:=nG (jd z rfl) k
theorem nD' (z:fa ρ h=[Ϥ,d])(k:On (g ρ h1) P):On (Ts (Xx fa) g ρ h) P:=nG (fQ z) k
theorem nE (z:f ρ h=[Ϥ,Ja])(k:P ρ1 h1):On (f ρ h) P:=#[_,_,z,k]
theorem nT (z:fT ρ h=[Ϥ,tj])(k:On (f ρ h1) P):On (Uc fT f g ρ h) P:=(iI z).symm▸k
theorem nF (z:fT ρ h=[Ϥ,fh])(k:On (g ρ h1) P):On (Uc fT f g ρ h) P:=(lG z).symm▸k
theorem fG {l:Tm}{g:γ->D}(Inv:Nat->Ul->TH->Prop)(he:fi ρ h=[χ,nx])(hx:∀i ρ h,Inv i ρ h->nx h i=se ('N'[i]?))(hl:l.length<1000)(h0:Inv 0 ρ h')(hs:∀i a ρ h,l[i]?=Ϸ->Inv i ρ h->∃ ρ1,fg (g a) ρ=Yr/\On (f ρ1 h) (Inv (i+1))):On (U8 fi fg f ρ h) (Inv l.length) :=D2 Inv he hx hl h0 λi a ρ h ha I=>let #[ρ1,e1,ρ2,h2,e2,I2]:=hs i a ρ h ha I;#[ρ1,ρ2,h2,e1,e2,I2]
theorem sL (z:On (f ρ h) P)(k:∀ ρ h,P ρ h->(g ρ h).bnd κ=r):(Ts f g ρ h).bnd κ=r:=by obtain⟨ρ1,h1,e,p⟩:=z;exact sG e (k _ _ p)
theorem zeV (z:On (f ρ h) P)(k:∀h,(∃ ρ,P ρ h)->[Si,m,h]=r):(f ρ h).bnd (fin m)=r:=by obtain⟨ρ1,h1,e,p⟩:=z;rw[e];exact k _ #[_,p]
theorem cZ (z1:fa ρ h=.ok (.at i) h)(z2:h[i]?=[ϟ,k,ds])(z3:fA ρ h=[ϳ,xs])(z4:ev (.at i::xs) h2=q):TL k ev fa fA ρ h=q:=by grind[eMi,aX,bW,gG,TL,T5,R.bnd]
theorem eU (z:fa ρ h=[χ,Lw]):Vb fa ρ h=[χ,X4 Lw]:=by unfold Vb;rw[z];rfl
theorem sU (z:fa ρ h=[χ,Lw]):rIe fa ρ h=[χ,nEn Lw]:=by unfold rIe;rw[z];rfl
theorem sX (z:fA ρ h=[χ,[PA]])(hk:k<1000):rIr fA ρ h=[χ,nRg k]:=by unfold rIr;rw[z];show Uf (bI k (2^62)) _=_;rw[cF.mpr (by lia)];rfl
theorem Eb {l:Tm}{f:γ->D}{d:γ}(e:k=l.length):(aT k).map (λj=>f (l.getD j d))='>':=by subst e;refine xF (by simp) λj a b=>?_;grind
theorem cA {l:Tm}{g:γ->D}(he:fi ρ h=[χ,nx])(hx:∀i,nx h' i=se ('N'[i]?))(hl:l.length<1000)(hs:∀a∈l,∃ ρ1,fg (g a) (bh n ng++eFr ρ fr)=Yr/\fa ρ1 h'=[χ,v a])(e:l.map v=L):Wv N fh fi n fr fg UB fa ρ h=[χ,.lst L]:=by rw[vU he hx hl hs,e];rfl
theorem cM {l:Tm}{g:γ->D}(he:fi ρ h=[χ,nx])(hx:∀i,nx h' i=se ('N'[i]?))(hl:l.length<1000)(hs:∀a∈l,∃ ρ1,fg (g a) (bh n ng++eFr ρ fr)=Yr/\fT ρ1 h'=[χ,p a]/\(p a=tj->fa ρ1 h'=[χ,v a]))(e:'d'.map v=L):Wv N fh fi n fr fg fT fa ρ h=[χ,.lst L]:=by rw[sP he hx hl hs,e];rfl
theorem Cl.apps (c:Ϭ)(z:∀o∈t,ct h.length o):Cl (h++t):=λo ho=>(dh.mp ho).elim (λa=>pj (by simp) (c o a)) λa=>pj (by simp) (z o a)
theorem Zu:Un tj Tk ρ h=.ok (.at h.length) (h++[.ml []]):=by show[P5,D.at Id,h,.ml []]=_;rw[gm,gq]
theorem zdX (z:e (.at h.length::ds) (h++[.mi c []])=[Kf,h++[o]]):ZS c e ds h=.ok (.at h.length) (h++[o]):=by unfold ZS;rw[gm,gq,z];rfl
end
section
variable {h h' h0 t h1:TH}{i k m n:Nat}{l:θ}{y:D}{o:TM}{ρ:Ul}{fa fb:RE}{fA:RA}{fT:RT}{xs:θ}
theorem bn (z:fa ρ h=.ok (.at i) h)(e:h[i]?=[ϟ,c,ds])(hd:ds[n]?=Ϫ):Ub c n fa ρ h=.ok y h:=by unfold Ub;rw[z];show T5 (eMi c h (.at i)) _=_;grind[eMi,aX,bW,gG,T5,eg]
theorem XY:(h0++t)[h0.length+k]?=t[k]?:=by grind
theorem Um:(h0++t)[h0.length]?=t[0]?:=XY (k:=0)
theorem vW:(h0++t).set (h0.length+k) o=h0++t.set k o:=ε
theorem pq:(h0++t).set h0.length o=h0++t.set 0 o:=vW (k:=0)
theorem lH (z1:fa ρ h=.ok (.at i) h)(z2:h[i]?=[ϓ,l])(z3:fA ρ h=.ok [y] h)(hl:l.length<16777216):Yg fa fA ρ h=[Kf,[ϭ,.ml (l++[y])]]:=by(have e1:XX h (.at i)=se (i,l):=by grind[XX,aX]);unfold Yg;rw[z1];show T5 (XX h (.at i)) _=_;rw[e1];rw[z3];show T5 (XX h (.at i)) _=_;rw[e1];show Uf (bI (UJ l) 16777216) _=_;rw[aW,cF.mpr hl,jc,gj];rfl
theorem gY (z:fA ρ h=[χ,xs])(b:Jd=tj):VF fA ρ h=[χ,.tup xs]:=by unfold VF;rw[z];show Uf Jd _=_;rw[b];rfl
theorem je {m:Bool}(z:fA ρ h=[χ,xs])(b:Jd=tj):Un m fA ρ h=mk m xs h':=by unfold Un;rw[z];show Uf Jd _=_;rw[b];rfl
theorem Zg {bs:L5}:xal xbf [.lst SZ] h=.ok (.bl (bs.any id)) h:=by(have:∀l,T6 dBl (l.map D.bl)=tx:=λl=>by induction l with| nil=>rfl| cons x l ih=>exact TW.mpr #[_,_,rfl,ih,rfl]);show T5 (T6 dBl (bs.map D.bl)) _=_;rw[this];show[NK,xbf bs,h]=_;rw[DJ]
theorem Ec (hn:n<=1000)(z:fa ρ h=.ok Pk h):ZM fh fa ρ h=.ok (TQ (aT n)) h:=by(have e:∀n k,dUp k n=(kc k n).map nD:=λn=>by induction n with| zero=>intro k;rfl| succ n ih =>intro k;rw[xE,bz,<-ih (k+1)];rfl);unfold ZM;rw[z];show Uf (bR n 1000) (R.ok (D.lst (dUp 0 n)) h)=_;rw[dH.mpr hn,e,<-xk];rfl
theorem pr (z:fa ρ (h0++t)=.ok (.at (h0.length+k)) (h0++t))(e:t[k]?=[ϓ,l])(zA:fA ρ (h0++t)=.ok [y] (h0++t))(hl:l.length<=1000):Yg fa fA ρ (h0++t)=[Kf,h0++t.set k (.ml (l++[y]))]:=by rw[lH z (XY.trans e) zA (NAG.gl63 hl),vW]
theorem cdm {l:Tm}(a:∀x,cd n m (g x)):∀d∈'N',cd n m d:=ε
theorem vX (hi:n<=i)(e:h[i]?=[ϓ,l])(z:∀d∈l,cd n 8 d):fz h n 9 (.at i)=[ϔ,l]:=by show(bif bI i n then se (D.at i)else match eg h i with| some (.ml ds)=>Wm (T6 (fz h n 8) ds) .lst| _=>ng)=_;rw[show bI i n=fh from fJ.mpr λz=>by have:=K0;exact NAG.gl0 this hi,aX,e];grind[Wm,T6,fz,km,iR]
theorem zc7:Ur [Lw] h=.ok K8 h:=by show R.ok [N3,UJ l] h=_;rw[aW];rfl
theorem eV {l:Tm}:Ur [.lst 'N'] h=.ok K8 h:=by rw[zc7,bq]
theorem gH {l:Tm}(z1:fa ρ h=.ok (.lst 'N') h)(z2:fb ρ h=.ok PA h)(e:l[k]?=Ϸ):TK fa fb ρ h=.ok (g a) h:=aH z1 z2 (by show T5 (eat 'N' k) _=_;rw[Xm,bo,e];rfl)
theorem pA (z1:fa ρ h=.ok (.lst a) h)(z2:fb ρ h=.ok (.lst b) h):rIz fa fb ρ h=.ok (nZp [.lst a,.lst b]) h:=by unfold rIz;rw[z1];show[Kk,fb ρ h]=_;rw[z2];rfl
theorem Ed (z1:fa ρ h=.ok (.lst a) h)(z2:fb ρ h=.ok (.lst b) h)(z3:fc ρ h=.ok (.lst c) h):rIz3 fa fb fc ρ h=.ok (nZp [.lst a,.lst b,.lst c]) h:=by unfold rIz3;rw[z1];show[Kk,fb ρ h]=_;rw[z2];show[Kk,fc ρ h]=_;rw[z3];rfl
theorem sB {κ:Fl->TH->ta}(z:fT ρ h=[Ϥ,b])(a:b=tj->(TN fa ρ h1).bnd κ=r)(c:b=fh->(g ρ h1).bnd κ=r):(Ts (Uc fT (TN fa) TY) g ρ h).bnd κ=r:=by cases b;exact sF z (c rfl);exact sT z (a rfl)
theorem lI (e:h[i]?=[ϓ,l]):Ur [.at i] h=.ok K8 h:=by unfold Ur eK eS;dsimp only;rw[aX,e];show R.ok [N3,UJ l] h=_;rw[aW];rfl
theorem zcm (z:fa ρ (h0++t)=.ok (.at (h0.length+k)) (h0++t))(e:t[k]?=[ϓ,l++[y]]):xah fa ρ (h0++t)=.ok y (h0++t.set k (.ml l)):=by unfold xah;rw[z];show T5 (XX (h0++t) (.at (h0.length+k))) _=_;rw[show XX (h0++t) (.at (h0.length+k))=se (h0.length+k,l++[y])by unfold XX;dsimp only;rw[aX,XY,e]];show T5 (eg (l++[y]) (UJ (l++[y])-1)) _=_;rw[aX,aW,show(l++[y])[(l++[y]).length-1]?=Ϫ by simp];show R.ok y (hs (h0++t) (h0.length+k) (.ml (xbu (l++[y]))))=_;rw[jc,vW,vS,xo]
theorem n8 (Inv:Nat->Ul->TH->Prop)(i3:Ul->TH->Prop)(hs:∀m ρ h,Inv m ρ h->∃b h1,fT ρ h=[Ϥ,b]/\(b=tj->On (fs ρ h1) fun ρ2 h2=>∃m',m'<m/\Inv m' ρ2 h2)/\(b=fh->i3 ρ h1))(h0:Inv n ρ h):On (Wt ng fT fs ρ h) i3 :=zdM Inv i3 (λm ρ h I=>let #[b,h1,e,t,f]:=hs m ρ h I;#[b,h1,e,λz=>let #[ρ2,h2,e2,m',l,I2]:=t z;#[ρ2,h2,m',e2,l,I2],f]) h0
end
section
variable {h h' h1:TH}{i k:Nat}{l:θ}{y:D}{ρ:Ul}{fa fb fc:RE}{fT fU:RT}{b:Bool}{n m:Int}
theorem sY (z:fT ρ h=[Ϥ,tj])(u:fU ρ h1=r):YC fT fU ρ h=r:=by unfold YC;rw[z];exact u
theorem vY (z:fT ρ h=[Ϥ,fh]):YC fT fU ρ h=[Ϥ,fh]:=by unfold YC;rw[z];rfl
theorem tw (z:fT ρ h=[Ϥ,b]):WV fT ρ h=[Ϥ,! b]:=by unfold WV;rw[z];rfl
theorem Ee (e:h[i]?=[ϓ,l]):eS h (.at i)=tx:=by unfold eS;dsimp only;rw[aX,e]
theorem Ef (z1:fa ρ h=.ok (.at i) h)(e:h[i]?=[ϓ,l])(z2:fb ρ h=.ok Pk h)(e2:eat l n=Ϫ):TK fa fb ρ h=.ok y h:=aH z1 z2 (by unfold isD eK;dsimp only;rw[aX,e];show T5 (eS h (.at i)) _=_;rw[Ee e];show T5 (eat l n) _=_;rw[e2];rfl)
theorem iJ {l:Tm}(z1:fa ρ h=.ok (.at i) h)(e:h[i]?=[ϓ,'N'])(z2:fb ρ h=.ok PA h)(e2:l[k]?=Ϸ):TK fa fb ρ h=.ok (g a) h:=Ef z1 e z2 (by rw[Xm,bo,e2];rfl)
theorem yS (z1:fa ρ h=.ok (.at i) h)(e:h[i]?=[ϓ,l++[y]]):TK fa (rUn xaG [΢,1]) ρ h=.ok y h:=Ef z1 e rfl (by rw[DW,A9])
theorem Eg (z:fa ρ h=.ok (.at i) h)(e:h[i]?=[ϓ,l++[y]]):xah fa ρ h=.ok y [ϭ,.ml l]:=by unfold xah;rw[z];show T5 (XX h (.at i)) _=_;unfold XX;dsimp only;rw[aX,e];show T5 (eg (l++[y]) (UJ (l++[y])-1)) _=_;rw[aX,aW,show(l++[y])[(l++[y]).length-1]?=Ϫ by simp];show R.ok y (hs h i (.ml (xbu (l++[y]))))=_;rw[jc,vS,xo]
theorem qW {l:xam}(z1:fa ρ h=.ok (.at i) h)(z2:fb ρ h=.ok PA h)(e:h[i]?=[ϓ,l.map .int])(e2:l[k]?=ω)(z3:fc ρ h=.ok Pk h):xaw op fa fb fc ρ h=[IE,[ϭ,.ml ((l.set k (op x n)).map .int)]]:=by(have e1:XX h (.at i)=se (i,l.map .int):=by unfold XX;dsimp only;rw[aX,e]);unfold xaw;rw[z1];show[mt,fb ρ h]=_;rw[z2];show T5 (XX h (.at i)) _=_;rw[e1];show T5 (eg 'f' k) _=_;rw[aX,bo,e2];rw[z3];show T5 (XX h (.at i)) _=_;rw[e1];show Uf (bI k (UJ 'f')) (R.ok SL (hs h i (.ml (ZC 'f' k (.int (op x n))))))=_;rw[aW,bq,cF.mpr (aQ.mp e2).1,jc,eI,qL];rfl
theorem tz (z1:fa ρ h=.ok y h)(z2:fb ρ h=.ok (.at i) h)(z3:fc ρ h=.ok PA h)(e:h[i]?=[ϓ,l])(hk:k<l.length):YQ fa fb fc ρ h=[IE,[ϭ,.ml (l.set k y)]]:=by unfold YQ;rw[z1];show[mt,fb ρ h]=_;rw[z2];show[mt,fc ρ h]=_;rw[z3];show(bif isD (.at i) h then _ else gSet (.at i) PA y ρ h)=_;unfold isD eK gSet XX;dsimp only;rw[aX,e];show Uf (bI k (UJ l)) (R.ok SL (hs h i (.ml (ZC l k y))))=_;rw[aW,cF.mpr hk,jc,eI];rfl
theorem sE {f:RS}{κ:Fl->TH->ta}(z:f ρ h=[Ϥ,Ja])(k:κ Ja h1=r):(f ρ h).bnd κ=r:=by rw[z];exact k
theorem On.imp (z:On r P)(f:∀ ρ h,P ρ h->P' ρ h):On r P':=let #[ρ,h,e,q]:=z;#[ρ,h,e,f _ _ q]
theorem vZ (l:ϐ):l=[]\/∃a b,l=a++[b]:=by rcases List.eq_nil_or_concat l with z | ⟨a,b,z⟩;exact .inl z;exact .inr #[a,b,by rw[z,List.concat_eq_append]]
theorem Eh (z:fT ρ h=[Ϥ,tj])(u:fa ρ h1=r):rIf fT fa fb ρ h=r:=by unfold rIf;rw[z];exact u
theorem Ei (z:fT ρ h=[Ϥ,fh])(u:fb ρ h1=r):rIf fT fa fb ρ h=r:=by unfold rIf;rw[z];exact u
theorem zex (z:fT ρ h=[χ,tj]):rOr fT fU ρ h=[χ,tj]:=by unfold rOr;rw[z];rfl
theorem v3 (z:fT ρ h=[χ,fh]):rOr fT fU ρ h=fU ρ h':=by unfold rOr;rw[z];rfl
theorem v5 (c:n=m):VI fh Pk Lq h=.ok ϻ h:=by rw[eq_int,Tc c];rfl
theorem qX (c:¬n=m):VI fh Pk Lq h=.ok SY h:=by rw[eq_int,Tf c];rfl
theorem yT (z:fa ρ h=[Ϥ,ϻ])(u:fb ρ h1=r):Wa fa fb ρ h=r:=by unfold Wa;rw[z];exact u
theorem yU (z:fa ρ h=[Ϥ,SY]):Wa fa fb ρ h=[Ϥ,SY]:=by unfold Wa;rw[z];rfl
theorem zeY (z:fa ρ h=[Ϥ,ϻ]):xaS fa fb ρ h=[Ϥ,ϻ]:=by unfold xaS;rw[z];rfl
theorem K2 (z:fa ρ h=[Ϥ,SY])(u:fb ρ h1=r):xaS fa fb ρ h=r:=by unfold xaS;rw[z];exact u
theorem zal (z:fa ρ h=.ok (.at i) h)(e:h[i]?=[ϓ,l]):Vb fa ρ h=.ok (X4 (.at i)) h:=by unfold Vb;rw[z];show T5 (eS h (.at i)) _=_;rw[Ee e];rfl
theorem qY (c:n<m):gLt Pk Lq h=.ok ϻ h:=by rw[lt_int,Tc c]
theorem qZ (c:¬n<m):gLt Pk Lq h=.ok SY h:=by rw[lt_int,Tf c]
theorem n9 (c:m<n):gGt Pk Lq h=.ok ϻ h:=by rw[gt_int,Tc c]
theorem oa (c:¬m<n):gGt Pk Lq h=.ok SY h:=by rw[gt_int,Tf c]
theorem pB {h:ϐ}(e:h[i]?=ζ):[ϭ,p][i]?=ϕ:=fD 'Q'.1
theorem rc {h:ϐ}(e:h[i]?=ζ):[ϭ,o]=h:=by apply jY;grind
theorem ints_set {l:xam}:'f'.set i IC=(l.set i x).map D.int:=by rw[qL]
end
section
variable {h h' t:TH}{me aS aP:Nat}{N:NAP.WD}{ad ac:xam}{o:TM}{e k b:Nat}
theorem Ua.aj (p:Ua h me aS aP N ad ac)(z1:fa ρ h=.ok (.at me) h)(z2:fb ρ h=.ok Qn h)(hl:N.bG[e]?=tx):TK (Ub 0 4 fa) fb ρ h=.ok (TQ l) h:=gH (bn z1 p.mi rfl) z2 hl
theorem yV (p:Ua h me aS aP N ad ac)(t:NAP.Y6 N e k b):Vx [.at me,Qn,PA] h=.ok (.int b) h:=by obtain⟨q,hq,hp⟩:=t;have w:=p.wf.lo k q hq;refine[ώ,sA (gH [Ϗ,p.mi,rfl] rfl hq) [ϣ,?_]];rcases hp with ⟨rfl,rfl⟩ | ⟨rfl,rfl⟩;exact Eh (aO [η,rfl,v5 rfl]) rfl;exact Ei (aO [η,rfl,qX (by lia)]) rfl
theorem yW (p:Ua h me aS aP N ad ac)(hk:k<ad.length):WB [.at me,Qn,PA] h=.ok (.bl (goB N ad e k)) h:=by refine[ώ,[ϣ,?_]];unfold goB;by_cases c:e<N.G;rw[Tc c];exact zeY (aH rfl [Ϗ,p.mi,rfl] (qY ε));rw[Tf c];exact K2 (aH rfl [Ϗ,p.mi,rfl] (qZ ε)) [η,iJ [Ϗ,p.mi,rfl] p.st rfl (NAM.getD_at hk),gt_int]
theorem Ej (p:Ua h me aS aP N ad ac):Us [.at me] h=.ok (TQ (rest N ac)) h:=by have hg:=p.wf.gle;have jX:=p.sm;have rE:=p.lp;exact[ώ,[ϣ,cM (sX [ν,[Ϗ,p.mi,rfl]] (NAG.gl115 hg jX)) sQ (by grind) (λg hg=>#[_,rfl,aO [η,iJ [Ϗ,p.mi,rfl] p.sp rfl (NAM.getD_at (by grind)),gt_int],λ_=>rfl]) rfl]]
theorem yX (p:Ua h me aS aP N ad ac)(hl:es.length<1000)(he:∀e∈es,e<N.nE):UZ [.at me,TQ es] h=.ok (.bl (es.any (Yw N ac))) h:=by have:=Zg (h:=h) (bs:=es.map (Yw N ac));rw[xI] at this;refine[ώ,[ϣ,aK [ν,cA (v:=λe=>.bl (Yw N ac e)) QM cY hl (λe he'=>#[_,rfl,?_]) cD.symm] this]];unfold Yw;by_cases c:N.G<=e;rw[Tc c];exact yT (aH rfl [Ϗ,p.mi,rfl] (ge_int.trans (by rw[Tc ε]))) [η,iJ [Ϗ,p.mi,rfl] p.sp rfl (NAM.getD_at (by rw[p.lp];exact he e he')),gt_int];rw[Tf c];exact yU (aH rfl [Ϗ,p.mi,rfl] (ge_int.trans (by rw[Tf ε])))
theorem zfd (p:Ua h me aS aP N ad ac)(hl:aa.length=N.nE)(t:NAP.Y6 N e k b):WN [.at me,Qn,PA,Nc] h=.ok (.bl (xaC N ad aa e k b)) h:=by obtain⟨t1,t2,t3⟩:=yt p.wf t;have F:=cZ (fa:=ξ) (fA:=[϶,Tg ς Tk]) (ρ:=[se (.at me),[ϒ,e],[ϒ,k],[ϔ,Pe]]) rfl p.mi rfl (yV p t);have C:=λ{y:Bool} (z:VI fh (.int (NAP.Lv aa b)) (.int (NAP.Lv aa e+1)) h = .ok (.bl y) h)=>aH (gH (fa:=ό) rfl F (sx ε)) (aH (o:=VD fh) (gH (fa:=ό) (fb:=ο) rfl rfl (sx ε)) (fb:=[΢,1]) rfl rfl) z;refine[ώ,[ϣ,?_]];unfold xaC;by_cases c:[IM,b]=[IM,e]+1;rw[Tc c];exact yT (C (v5 c)) (cZ rfl p.mi rfl (yW p (by rwa [p.ls])));rw[Tf c];exact yU (C (qX c))
inductive SkI (h:TH) (me e tr:Nat) (N:NAP.WD) (ad ac aa:xam) (g:Nat) (ai:xam) (es way:xat) (P:xam->Prop) (h':TH):Prop
 | mk (ak:xam) (eh:[Sy,tr,MR]=h') (W:NAP.Walk N ad ac aa g ak es way) (hp:[Rc,ak]<=[Rc,ai]) (hx:∀b,NAP.Z0 N ac ai b->NAP.Z0 N ac ak b) (p:P ak)
theorem K5 (p:Ua h me aS aP N ad ac)(n1:tr≠me)(n2:tr≠aS)(n3:tr≠aP)(ht:h[tr]?=[ϓ,Lb])(dE:aa.length=N.nE)(W0:NAP.Walk N ad ac aa g ai es way)(rD:es.getLast?=se e)(uw:e<N.nE) :∃ak,Vm [.at me,Qn,Nc,.at tr] h=[Kf,[Sy,tr,MR]]/\NAP.Walk N ad ac aa g ak es way/\[Rc,ak]<=[Rc,ai]/\(∀b,NAP.Z0 N ac ai b->NAP.Z0 N ac ak b)/\∃(l:xat) (t:Nat),N.bG[e]?=tx/\ak[e]?=se (t:Int)/\t<=l.length/\∀k b,l[t]?=Q8->NAP.Y6 N e k b->xaC N ad aa e k b=tj:=by obtain⟨le,hle⟩:∃le,N.bG[e]?=se le:=#[_,aV (by rwa [p.wf.len])];obtain⟨ρ',h',q,ak,eh,W,hp,hx,t,ht',iD,hq⟩:=n8 (fT:=VT) (fs:=VS) (λm ρ h'=>ρ=[se (.at me),[ϒ,e],[ϔ,Pe],se (.at tr),se (TQ le)]/\SkI h me e tr N ad ac aa g ai es way (λak=>m=[Rc,ak]) h') (fun ρ h'=>SkI h me e tr N ad ac aa g ai es way (λak=>∃t:Nat,ak[e]?=se t/\t<=le.length/\∀k b,le[t]?=Q8->NAP.Y6 N e k b->xaC N ad aa e k b=tj) h') (λm ρ h1 I=>by obtain⟨rfl,ak,eh,W,hp,hx,rfl⟩:=I;have P1:=eh▸p.set n1 n2 n3;have ht1:=eh▸pB ht;obtain⟨z,hz⟩:∃z,ak[e]?=se z:=#[_,aV (by have:=W.tr.len;simp_all)];obtain⟨z0,z1⟩:=W.tr.ok e le z hle hz;obtain⟨t,rfl⟩:=kT z0;have A:=iJ (fa:=ό) (fb:=ο) (ρ:=[se (.at me),[ϒ,e],[ϔ,Pe],se (.at tr),se (TQ le)]) rfl ht1 rfl hz;by_cases c:t<le.length;have hk:=aV c;obtain⟨b,hb⟩:=yu p.wf hle (aM hk);generalize le[t]=k at hk hb;refine#[! xaC N ad aa e k b,h1,sY (aO (aH A (aK [ν,rfl] eV) (qY ε))) (tw (aO (cZ rfl P1.mi [Ϣ,aI (gH rfl A hk) [ν,rfl]] (zfd P1 dE hb)))),λcl=>?_,λcl=>?_];(have nl:∀b',¬NAP.Y8 N ad aa e k b':=λb' L=>by have:=hb.uniq p.wf L.1;subst this;rw[(Df p.wf hb p.ls).mpr L] at cl;cases cl);have:=NAP.xay hle hz c;exact nE (qW rfl rfl ht1 hz rfl) #[_,by exact ve this,rfl,ak.set e (t+1),by rw[<-eh,k9];rfl,W.skip rD hle hz hk nl,by lia,λb' h=>(hx b' h).keep hle hz ε,rfl];refine#[ak,eh,W,hp,hx,t,hz,ε,λk' b' cP uK=>?_];rw[hk] at cP;cases cP;have:=hb.uniq p.wf uK;subst this;simpa using cl;refine#[fh,h1,vY (aO (aH A (aK [ν,rfl] eV) (qZ ε))),λz=>(nomatch z),λ_=>#[ak,eh,W,hp,hx,t,hz,ε,λk' b' cP uK=>?_]];rw[gf (by exact qN c)] at cP;cases cP) #[rfl,ai,rc ht,W0,ϱ,λb h=>h,rfl];refine#[ak,[ώ,sA (p.aj rfl rfl hle) (sE q (by rw[<-eh];exact bL eX))],W,hp,hx,le,t,hle,ht',iD,hq]
end
section
variable {h t:TH}{me aS aP i:Nat}{N:NAP.WD}{ad ac:xam}{o:TM}{e k b:Nat}
theorem og {h t:ϐ}{o:α}(l:i<h.length):(h++t).set i o=[ϭ,o]++t:=List.set_append_left i o l
theorem tB {h:ϐ}(l:i=h.length):(h++[x]).set i y=h++[y]:=ε
theorem rd {h:ϐ}(l:i=h.length):(h++[x])[i]?=ω:=by subst l;rw[hU ϱ,r5];rfl
theorem jU {l:xam}:∀d∈'f',cd n (m+1) d:=λd hd=>by obtain⟨x,_,rfl⟩:=PM;trivial
theorem tC {l:xat}:∀d∈SB,cd n (m+1) d:=λd hd=>by obtain⟨x,_,rfl⟩:=PM;trivial
inductive BhI (h:TH) (me st:Nat) (row:xat) (N:NAP.WD) (ad:xam) (d:Nat) (au:xam) (P:Nat->Nat->Prop) (t4:R5) (ρ:Ul) (h1:TH):Prop
 | mk (aa:xam) (ar:xat) (t5 t6:R5) (er:ρ=[se (.at me),se (TQ row),se (.at st),se (.at h.length),t4,t5,t6]) (eh:[Sy,st,Pe]++[.ml (ar.map nD)]=h1) (B:NAP.aZ N ad d row au P aa ar) (hu:ar.length+K1=NAP.unr au)
theorem zd5 {st d:Nat}(p:Ua h me aS aP N ad ac)(c:Ϭ)(n1:st≠me)(n2:st≠aS)(n3:st≠aP)(lV:h[st]?=[ϓ,au.map .int])(uv:au.length=N.nE)(uu:row.length<=900)(jL:∀e∈row,NAP.Lv au e=d) :∃(aa:xam) (ar:xat),Wf [.at me,TQ row,.at st] h=.ok (TQ ar) [Sy,st,Pe]/\NAP.aZ N ad d row au (λa _=>a∈row) aa ar/\ar.length+K1=NAP.unr au:=by have stl:=(aQ.mp lV).1;have jX:=p.sm;obtain⟨ρ2,h2,q,t4,aa,ar,t5,t6,rfl,eh,B,hu⟩:=fG (f:=WQ) (fg:=rN 4) (fi:=M1) (h:=h++[.ml []]) (λi ρ h1=>∃t4,BhI h me st row N ad d au (λa _=>a∈OC) t4 ρ h1) rfl (λi ρ h _=>cY i) (NAG.gl12 uu) #[ng,au,[],ng,ng,rfl,by rw[rc lV];rfl,NAP.aZ.start.weak (λa k h=>by simp at h),by simp] (λi e ρ h1 he I=>by obtain⟨t4,aa,ar,t5,t6,rfl,eh,B,hu⟩:=I;have hem:=aM he;have uA:=jL e hem;obtain⟨le,hle⟩:∃le,N.bG[e]?=se le:=#[_,aV (by rw[p.wf.len];exact by rw[<-uv];exact nW ε)];have ll:=p.la e le hle;refine#[_,rfl,(fG (λj=>BhI h me st row N ad d au (λa k=>a∈OC\/(a=e/\k∈le.take j)) (se (nD e))) (eU ((eh▸(p.set n1 n2 n3).app).aj rfl rfl hle)) (λi ρ h _=>cY i) (NAG.gl12 ll) #[aa,ar,t5,t6,rfl,eh,B.weak (λa k h=>by simpa using h),hu] λj k ρ h1 hk I=>?_).imp fun ρ2 h2 #[aa,ar,t5,t6,e1,eh,B,hu]=>#[_,aa,ar,_,_,e1,eh,B.weakT λa k b h t=>?_,hu]];obtain⟨aa,ar,t5,t6,rfl,eh,B,hu⟩:=I;have P1:=eh▸(p.set n1 n2 n3).app;have fH:=eh▸bv (pB lV);obtain⟨b,ht⟩:=yu p.wf hle (aM hk);obtain⟨_,hbn,kG⟩:=yt p.wf ht;rw[<-p.ls] at kG;(have dE:aa.length=N.nE:=by rw[B.len,uv]);(have nxt:∀{aa:xam} {ar:xat},NAP.aZ N ad d row au (λx y=>(x∈OC\/(x=e/\y∈le.take j))\/(x=e/\y=k)) aa ar->NAP.aZ N ad d row au (λa k=>a∈OC\/(a=e/\k∈le.take (j+1))) aa ar:=λ{aa ar} B=>B.weak λa y h=>by rw[take_snoc hk] at h;rcases h with h | ⟨h1,h2⟩;exact .inl (.inl h);rcases dh.mp h2 with h2 | h2;exact .inl (.inr #[h1,h2]);exact .inr #[h1,cO.mp h2]);have lb:=sx (aa:=aa) (e:=b) ε;have lE:=sx (aa:=aa) (e:=e) ε;(have hle1:[IM,e]=d:=by rwa [B.old e ε]);rw[hle1] at lE;refine#[_,rfl,nA (cZ rfl P1.mi [Ϣ,[ν,rfl]] (yV P1 ht)) ?_];by_cases c1:[IM,b]<0/\goB N ad e k=tj;obtain⟨c1,c2⟩:=c1;have hu':=NAP.unr_set lb c1 (show(0:Int)<=d+1 from NAG.gl60);have hul:=NAP.unr_len au;refine nT (sY (aO [η,iJ rfl fH rfl lb,qY c1]) (aO (cZ rfl P1.mi [Ϣ,[ν,rfl]] (c2▸yW P1 kG)))) (nG (tz [η,iJ rfl fH rfl lE,rfl] rfl rfl fH (by rw[bq];simp_all)) (nE (fQ (lH rfl (by rw[bF (cG stl),<-eh];exact rd (by rw[eX])) rfl (by rw[bq];lia))) #[aa.set b (d+1),ar++[b],_,_,rfl,?_,nxt (B.mark p.wf ht ((yr kG).mp c2) hem c1 ε),by simp;lia]));rw[<-eh,og (by rwa [eX]),k9,tB (by rw[eX]),qL,dz];rfl;by_cases c2:[IM,b]<0;(have c3:=by simpa [c2] using c1);exact nF (sY (aO [η,iJ rfl fH rfl lb,qY c2]) (aO (cZ rfl P1.mi [Ϣ,[ν,rfl]] (c3▸yW P1 kG)))) (nE rfl #[aa,ar,_,_,rfl,eh,nxt (B.skip p.wf ht (.inr λz=>c1 #[c2,(yr kG).mpr z])),hu]);exact nF (vY (aO [η,iJ rfl fH rfl lb,qZ c2])) (nE rfl #[aa,ar,_,_,rfl,eh,nxt (B.skip p.wf ht (.inl ε)),hu]);rw[take_snoc he] at h;rcases dh.mp h with h | h;exact .inl h;have:=cO.mp h;subst this;refine .inr #[rfl,?_];rw[MM];exact t.mem p.wf hle);refine#[aa,ar,[ώ,sA Zu (sG q (sR rfl ?_))],B.weak λa k h=>?_,hu];rw[<-eh,show h.length=(h.set st (TM.ml Pe)).length by rw[eX]];exact pn (c.set jU) ϱ (rd rfl) tC;rw[MM];exact h
end
section
variable {h t:TH}{me aS aP i:Nat}{N:NAP.WD}{ad ac:xam}{e:Nat}
theorem mul_one {n:Nat}(hn:n<=1000):V0 m (.lst [x]) Pk h=mk m (bh n x) h:=by show Uf [PP,n] (mk m (eRep n x) h)=_;rw[dH.mpr (by lia),DF];rfl
theorem Ua.ltS (p:Ua h me aS aP N ad ac):me<h.length/\aS<h.length/\aP<h.length:=#[(aQ.mp p.mi).1,(aQ.mp p.st).1,(aQ.mp p.sp).1]
theorem yY:List.replicate n (D.int x)=(bh n x).map D.int:=by rw[List.map_replicate]
inductive StI (h:TH) (me:Nat) (N:NAP.WD) (ad ac:xam) (t:R5) (P:xat->xam->Prop) (ρ:Ul) (h1:TH):Prop
 | mk (d:Nat) (row:xat) (aa:xam) (er:ρ=[se (.at me),se (.at h.length),se (TQ row),t]) (eh:h++[.ml Pe]=h1) (l:aa.length=N.nE) (R:NAP.Rows N ad ac d row aa) (p:P row aa)
theorem Ek (p:Ua h me aS aP N ad ac)(c:Ϭ) :∃aa:xam,U3 [.at me] h=.ok Nc h/\aa.length=N.nE/\Found N ad ac aa:=by have jX:=p.sm;have hg:=p.wf.gle;obtain⟨l1,l2,l3⟩:=p.ltS;have uu:=Dg (N:=N) (ac:=ac);obtain⟨ρ1,h1,q1,aa,t,rfl,eh,dE,uA⟩:=fG (f:=V3) (fg:=rN 3) (fi:=Vb ς) (h:=h++[.ml ((bh N.nE (-1)).map .int)]) (λi ρ h1=>∃(aa:xam) (t:Option D),ρ=[se (.at me),se (.at h.length),se (TQ (rest N ac)),t]/\h++[.ml Pe]=h1/\aa.length=N.nE/\∀e,[IM,e]=if e∈(rest N ac).take i then 0 else-1) rfl (λi ρ h _=>cY i) (NAG.gl9 uu hg jX) #[_,ng,rfl,rfl,by rw[oS],λe=>by unfold NAP.Lv;rw[bO,nq];split<;>simp] (λi g ρ h1 hg1 I=>by obtain⟨aa,t,rfl,eh,dE,uA⟩:=I;have jp:=YO.mp (aM hg1);refine#[_,rfl,nE (tz rfl rfl rfl (eh▸rd rfl) (by rw[bq];exact NAG.gl11 jp dE hg)) #[aa.set g 0,se (nD g),rfl,by rw[<-eh,tB rfl,qL],by rwa [eX],λe=>?_]];rw[NAP.xa9 (NAG.gl11 jp dE hg),take_snoc hg1];by_cases c:e=g;subst c;simp;rw[Cx,uA e];simp[c]);rw[MM] at uA;obtain⟨ρ2,h2,q2,d,row,steps2,rfl,cT,hsl2,R,hf⟩:=n8 (fT:=V5) (fs:=V2) (ρ:=[se (.at me),se (.at h.length),se (TQ (rest N ac)),t]) (n:=2*K1+(if rest N ac=[]then 0 else 1)) (λm=>StI h me N ad ac t λrow aa=>row.length<=900/\m=2*K1+(if row=[]then 0 else 1)) (StI h me N ad ac t λrow _=>row=[]\/∃e∈row,NAP.UM N ac e) (λm ρ h1 I=>by obtain⟨d,row,aa,rfl,eh,dE,R,jL,rfl⟩:=I;have P1:=eh▸p.app;(have inr:∀e∈row,e<N.nE:=λe he=>by have:=(R.row e).mp he;rw[<-dE];exact nW ε);by_cases c0:row=[];exact#[fh,h1,vY (aO [η,aK [ν,rfl] eV,oa (by rw[c0];decide)]),λz=>(nomatch z),λ_=>#[d,row,aa,rfl,eh,dE,R,.inl c0]];have lp:=fM.mpr c0;refine#[! row.any (Yw N ac),h1,sY (aO [η,aK [ν,rfl] eV,n9 ε]) (tw (aO (cZ rfl P1.mi [ν,rfl] (yX P1 (show row.length<1000 from NAG.gl12 jL) inr)))),λca=>?_,λca=>?_];(have pX:∀e∈row,¬NAP.UM N ac e:=λe he hR=>by have:row.any (Yw N ac)=tj:=gU.mpr #[e,he,(qU (by rw[p.lp];exact inr e he)).mpr hR];rw[this] at ca;cases ca);obtain⟨steps2,ar,q,B,hu⟩:=zd5 P1 (eh▸c.app jU) (by exact eG l1) (by exact eG l2) (by exact eG l3) (eh▸rd rfl) dE jL λe he=>(R.row e).mp he;have hul:=NAP.unr_len aa;refine nE (jd (cZ rfl P1.mi [Ϣ,[ν,rfl]] q) rfl) #[_,?_,d+1,ar,steps2,rfl,by rw[<-eh,tB rfl],by rwa [B.len],R.next B pX,by lia,rfl];split;simp_all;rename_i hb;have:=fM.mpr hb;lia;obtain⟨e,he,hR⟩:=gU.mp (by simpa using ca);exact#[d,row,aa,rfl,eh,dE,R,.inr #[e,he,(qU (by rw[p.lp];exact inr e he)).mp hR]]) #[0,rest N ac,aa,rfl,eh,dE,JY p.wf dE p.lp uA,by lia,rfl];refine#[steps2,[ώ,sA (aH rfl (aK [ν,[Ϗ,p.mi,rfl]] (lI p.sp)) ?_) (sA (cZ rfl p.app.mi rfl (Ej p.app)) (sG q1 (sG q2 (sR rfl ?_))))],hsl2,d,row,R,hf];rw[bq,p.lp,mul_one (NAG.gl10 jX),yY];show[P5,D.at Id,h,_]=_;rw[gm,gq];rw[<-cT];exact pn c ϱ (rd rfl) jU
end
section
variable {h t:TH}{me aS aP i:Nat}{N:NAP.WD}{ad ac:xam}{e k b:Nat}
theorem El {h:ϐ}(l:i=h.length+1):(h++[x,y])[i]?=Ϫ:=by subst l;rw[hU ε,show h.length+1-h.length=1 by simp_all];rfl
theorem yZ {h:ϐ}(l:i=h.length):(h++[x,y])[i]?=ω:=by subst l;rw[hU ε,r5];rfl
theorem En {h:ϐ}(l:i=h.length):(h++[x,y]).set i z=h++[z,y]:=ε
theorem y6 {h:ϐ}(l:i=h.length+1):(h++[x,y]).set i z=h++[x,z]:=ε
inductive WI (h:TH) (me g tr:Nat) (N:NAP.WD) (ac aa ai:xam) (P:xam->xat->xat->Prop) (ρ:Ul) (h1:TH):Prop
 | mk (ak:xam) (es way:xat) (t6 t7:R5) (er:ρ=[se (.at me),[ϒ,(g:Int)],[ϔ,Pe],se (.at tr),se (.at h.length),se (.at (h.length+1)),t6,t7]) (eh:[Sy,tr,MR]++[.ml sZ,.ml MB]=h1) (hx:∀b,NAP.Z0 N ac ai b->NAP.Z0 N ac ak b) (p:P ak es way)
theorem Eo (p:Ua h me aS aP N ad ac)(c:Ϭ)(n1:tr≠me)(n2:tr≠aS)(n3:tr≠aP)(ht:h[tr]?=[ϓ,Lb])(dE:aa.length=N.nE)(uj:[IM,g]=0)(hgG:g<N.G)(T0:NAP.Tr N ai)(D0:NAP.YG N ad ac aa ai) :∃(way:xat) (ak:xam),VL [.at me,.int g,Nc,.at tr] h=.ok sV [Sy,tr,MR]/\NAP.Tr N ak/\NAP.YG N ad ac aa ak/\(∀b,NAP.Z0 N ac ai b->NAP.Z0 N ac ak b)/\Way N ad ac aa g ak way/\way.length<=900:=by have jX:=p.sm;have trl:tr<h.length:=(aQ.mp ht).1;obtain⟨Bn,hBn⟩:=NAP.lv_top aa;obtain⟨ρ1,h1,q1,ak,es,way,t6,t7,rfl,eh,hx,T1,D1,hw,wl⟩:=n8 (fT:=XF) (fs:=XE) (ρ:=[se (.at me),[ϒ,(g:Int)],[ϔ,Pe],se (.at tr),se (.at h.length),se (.at (h.length+1)),ng,ng]) (h:=h++[.ml [],.ml ([g].map nD)]) (λm=>WI h me g tr N ac aa ai λak es way=>NAP.Walk N ad ac aa g ak es way/\m=NAP.wm Bn N.bG ak es) (WI h me g tr N ac aa ai λak es way=>NAP.Tr N ak/\NAP.YG N ad ac aa ak/\Way N ad ac aa g ak way/\way.length<=900) (λm ρ h1 I=>by obtain⟨ak,es,way,t6,t7,rfl,eh,hx,W,rfl⟩:=I;have iZ:∀{x:TM},h.length=(h.set tr x).length:=eX.symm;have P1:Ua h1 me aS aP N ad ac:=eh▸(p.set n1 n2 n3).app;have he1:h1[h.length+1]?=[ϓ,MB]:=eh▸El (by rw[iZ]);have hshort:=W.short uj hBn;rcases vZ es with c0 | ⟨es0,e,c0⟩;obtain⟨wn,ex⟩:=W.none c0;exact#[fh,h1,vY (aO [η,aK [ν,rfl] (lI he1),oa (by rw[c0];decide)]),λz=>(nomatch z),λ_=>#[ak,es,way,t6,t7,rfl,eh,hx,W.tr,W.dead,.inl #[wn,ex],by rw[wn];decide]];(have cn:es≠[]:=by rw[c0];simp);(have qh:es.getLast?=se e:=by rw[c0];simp);(have ed:es.dropLast=es0:=by rw[c0];simp);(have uy:h1[h.length+1]?=[ϓ,es0.map nD++[Qn]]:=by rw[he1,c0,dz];rfl);obtain⟨Pt,h0⟩:=W.path cn;have pl:=Pt.len;(have dJ:es[way.length]?=se e:=by rw[qE] at qh;rwa [show es.length-1=way.length by simp[pl]] at qh);have hlev:=Pt.lev h0 dJ;(have uw:e<N.nE:=by rw[<-dE];exact nW ε);(have esl:es.length<=900:=by(have nd:es.Nodup:=by refine rL.mpr λi j hi hj hij he=>?_;have i4:es[i]?=se es[i]:=aV hi;(have hj':es[j]?=se es[i]:=by rw[he];exact aV hj);have:=Pt.inj h0 i4 hj';simp_all);(have:=Dh (n:=N.nE) nd λx hx=>by obtain⟨i,hi⟩:=bH hx;have:=Pt.lev h0 hi;rw[<-dE];exact nW ε);lia);have lpos:=fM.mpr cn;(have rm:UZ [.at me,.lst [Qn]] h1=[Ϥ,.bl (Yw N ac e)]:=by(have:=yX (es:=[e]) P1 (by simp) λx hx=>by rw[cO.mp hx];exact uw);simpa [TQ,nD] using this);refine#[! Yw N ac e,h1,sY (aO [η,aK [ν,rfl] (lI he1),n9 (by rw[bq];simp[pl])]) (tw (aO (cZ rfl P1.mi [ν,je (m:=fh) [ν,yS rfl uy] rfl] rm))),λcr=>?_,λcr=>?_];(have pX:¬NAP.UM N ac e:=λhR=>by rw[(qU (by rw[p.lp];exact uw)).mpr hR] at cr;cases cr);obtain⟨tried2,q2,W2,hpot,hx2,l,t,hl,htt,iD,hlead⟩:=K5 P1 n1 n2 n3 (eh▸bv (pB ht)) dE W qh uw;have g8:∀b,NAP.Z0 N ac ai b->NAP.Z0 N ac tried2 b:=λb h=>hx2 b (hx b h);obtain⟨h2,cT⟩:∃h2,[Sy,tr,tried2.map .int]++[.ml sZ,.ml MB]=h2:=#[_,rfl];rw[show h1.set tr (.ml (tried2.map .int))=h2 by rw[<-eh,<-cT,og (by rwa [<-iZ]),k9]] at q2;have P2:Ua h2 me aS aP N ad ac:=cT▸(p.set n1 n2 n3).app;have ht2:h2[tr]?=[ϓ,tried2.map .int]:=cT▸bv (pB ht);have hw2:h2[h.length]?=[ϓ,sZ]:=cT▸yZ iZ;have uz:h2[h.length+1]?=[ϓ,MB]:=cT▸El (by rw[iZ]);refine nA (yS rfl uy) (nD' (cZ rfl P1.mi [Ϣ,[Ϣ,[ν,rfl]]] q2) ?_);by_cases ct:t<l.length;have hk:l[t]?=se l[t]:=aV ct;generalize l[t]=k at hk;obtain⟨b,hb⟩:=yu p.wf hl (aM hk);have W3:=W2.push qh hl htt hk ((Df p.wf hb p.ls).mp (hlead _ b hk hb)) pX;have hsh:=W3.short uj hBn;rw[eE,xb] at hsh;(have P3:Ua (h2.set h.length (.ml (sZ++[PA]))) me aS aP N ad ac:=by obtain⟨a1,a2,a3⟩:=p.ltS;exact P2.set (by exact eG a1) (by exact eG a2) (by exact eG a3));refine nT (aO (aH (iJ rfl ht2 rfl htt) (aK [ν,P2.aj rfl rfl hl] eV) (qY ε))) (nA (gH (g:=nD) (P2.aj rfl rfl hl) (iJ rfl ht2 rfl htt) hk) (nD' (lH rfl hw2 rfl (by rw[bq];lia)) (nE (fQ (lH rfl (by rw[bF ε];exact uz) [ν,cZ rfl P3.mi [Ϣ,[ν,rfl]] (yV P3 hb)] (by rw[bq];exact NAG.gl4 esl))) #[_,?_,tried2,es++[b],way++[k],_,_,rfl,?_,g8,W3,rfl])));unfold NAP.wm;rw[S9 (by simp),S9 cn,eE,xb];have:=vd (Bn+3) hpot;exact NAG.gl2 this hsh;rw[<-cT,En iZ,y6 (by rw[iZ]),dz,dz];rfl;rw[show t=l.length from NAG.gl3 iD ct] at htt;refine nF (aO (aH (iJ rfl ht2 rfl htt) (aK [ν,P2.aj rfl rfl hl] eV) (qZ ε))) (nD' (Eg rfl (by rw[uz,c0,dz];rfl)) ?_);have he3:(h2.set (h.length+1) (.ml (es0.map nD)))[h.length+1]?=[ϓ,es0.map nD]:=pB uz;rcases vZ es0 with cd | ⟨es1,f,cd⟩;obtain⟨wn,W3⟩:=W2.fin qh (ed.trans cd) hl htt pX;refine nF (aO [η,aK [ν,rfl] (lI he3),oa (by rw[cd];decide)]) (nE rfl #[_,?_,tried2,[],[],_,_,rfl,?_,g8,W3,rfl]);unfold NAP.wm;rw[Nk,S9 cn];simp[hl];rw[<-cT,y6 (by rw[iZ]),cd,wn];(have cdn:es.dropLast≠[]:=by rw[ed,cd];simp);obtain⟨t2,l2,j1,j2,j3,W3⟩:=W2.pop p.wf qh (f:=f) (by rw[ed,cd];simp) hl htt pX;rw[ed] at W3 cdn;(have dl:es.length=es0.length+1:=by rw[c0];simp);have hdl:=fM.mpr cdn;(obtain⟨wd,kw,hw⟩:∃wd kw,way=wd++[kw]:=(vZ way).resolve_left λz=>by rw[z] at pl;simp at pl;simp_all);rw[hw,xo] at W3;refine nT (aO [η,aK [ν,rfl] (lI he3),n9 (by rw[bq];simp[*])]) (nD' (Eg rfl (by rw[bF ε,hw2,hw,dz];rfl)) (nE (qW rfl (yS rfl (by rw[bF ε,he3,cd,dz];rfl)) (by rw[bF (NAG.gl1 trl),bF (by lia)];exact ht2) j2 rfl) #[_,?_,tried2.set f ((t2:Int)+1),es0,wd,_,_,rfl,?_,λb h=>(g8 b h).keep j1 j2 ε,W3,rfl]));unfold NAP.wm;rw[S9 cdn,S9 cn,dl];have p1:=NAP.xay j1 j2 j3;have p2:([Rc,tried2.set f (t2+1)]+1)*(Bn+3)<=[Rc,ak]*(Bn+3):=vd _ ε;rw[xO] at p2;exact NAG.gl5 p2;rw[<-cT,y6 (by rw[iZ]),En iZ,og (by rwa [<-iZ]),k9];rfl;have hR:=(qU (by rw[p.lp];exact uw)).mp (show Yw N ac e=tj by simpa using cr);refine#[ak,es,way,t6,t7,rfl,eh,hx,W.tr,W.dead,.inr #[?_,es,e,Pt,h0,dJ,hR],by lia];rintro rfl;rw[show es[0]?=se e from dJ] at h0;cases h0;have:=hR.1;exact NAG.gl0 hgG this) #[ai,[g],[],ng,ng,rfl,by rw[rc ht];rfl,λb h=>h,#[T0,D0,λ_=>#[#[rfl,λi k hk=>by simp at hk],rfl],λz=>by simp at z,λi k e hk=>by simp at hk],rfl];refine#[way,ak,[ώ,sA Zu (sA (h1:=h++[TM.ml [],TM.ml ([g].map nD)]) ?_ (sG q1 (sR rfl ?_)))],T1,D1,hx,hw,wl];show[P5,D.at (hn _),_,_]=_;rw[gm,gq,eF,eE];rfl;rw[<-eh,show h.length=(h.set tr (TM.ml MR)).length by rw[eX]];exact pn (c.set jU) ϱ (yZ rfl) tC
end
section
variable {h h' t:TH}{me aS aP i:Nat}{N:NAP.WD}{ad ac sent' aq:xam}{e k b:Nat}
theorem y7:∀b l,xbJ SB b=(NAP.WT b l).map nD| true,[]=>rfl| false,[]=>rfl| true,x::r=>by show nD x::xbJ (r.map nD) fh=nD x::(NAP.WT fh r).map nD;rw[y7 fh r]| false,x::r=>y7 tj r
theorem y8:∀l:xam,T6 xac 'f'=tx:=by intro l;induction l with| nil =>exact rfl| cons x l ih =>exact TW.mpr #[x,l,rfl,ih,rfl]
theorem Ua.putS (p:Ua h me aS aP N ad ac)(hl:sent'.length=ad.length):Ua [Sy,aS,sent'.map .int] me aS aP N sent' ac :=#[by rw[[LX,p.nS]];exact p.mi,pB p.st,by rw[bF p.ne];exact p.sp,p.ne,p.nS,p.nP,p.wf,hl.trans p.ls,p.lp,p.sm,p.sk,p.la]
theorem Ua.putP (p:Ua h me aS aP N ad ac)(hl:aq.length=ac.length):Ua [Sy,aP,aq.map .int] me aS aP N ad aq :=#[by rw[[LX,p.nP]];exact p.mi,by rw[[LX,p.ne]];exact p.st,pB p.sp,p.ne,p.nS,p.nP,p.wf,p.ls,hl.trans p.lp,p.sm,p.sk,p.la]
theorem y9 {b:Bool}(z:fa ρ h=.ok (TQ l) h):Vb (xbp fh b fa) ρ h=.ok (X4 (TQ (NAP.WT b l))) h:=by refine eU ?_;unfold xbp;rw[z];show mk fh (xbJ SB b) h=_;rw[y7];rfl
theorem Ep (p:Ua h me aS aP N ad ac)(hd:∀x,op x a=x+d)(hi:fi [se (.at me),x1,x2,x3,[ϒ,a],x5] h=.ok (X4 (TQ ks)) h)(hl:ks.length<=900)(hk:∀k∈ks,k<ad.length) :On (U8 fi (rN 5) (xaw op [ϙ,0,2] ϡ ύ) [se (.at me),x1,x2,x3,[ϒ,a],x5] h) fun ρ h'=>(∃t,ρ=[se (.at me),x1,x2,x3,[ϒ,a],t])/\[Sy,aS,(NAP.Vh d ad ks).map .int]=h':=by(refine(fG (λi ρ h'=>(∃t,ρ=[se (.at me),x1,x2,x3,[ϒ,a],t])/\[Sy,aS,(NAP.Vh d ad N8).map .int]=h') hi (λi ρ h _=>cY i) (NAG.gl12 hl) #[#[_,rfl],rc p.st] λi k ρ h2 cP I=>?_).imp fun ρ h' I=>by rwa [MM] at I);obtain⟨⟨t,rfl⟩,eh⟩:=I;have P:=p.putS (sent':=NAP.Vh d ad N8) (by rw[NAP.VR]);rw[eh] at P;refine#[_,rfl,nE (qW [Ϗ,P.mi,rfl] rfl P.st (NAM.getD_at (by rw[NAP.VR];exact hk k (aM cP))) rfl) #[#[_,rfl],?_]];rw[<-eh,k9,take_snoc cP,zbY,hd]
theorem zfr (p:Ua h me aS aP N ad ac)(kL:way.length<=900)(hwn:way≠[])(hF:NAP.Flow N a8 ad ac)(Pt:NAP.Xz N aa ad es way)(h0:es[0]?=se g)(h1:es[way.length]?=se f)(hR:NAP.UM N ac f)(hg:g<N.G)(hsg:0<[My,g]) :∃(a:Int) (aq:xam),Vo [.at me,.int g,sV] h=[Kf,[Sy,aS,(NAP.Ws a ad way).map .int].set aP (.ml (aq.map .int))]/\0<a/\NAP.Sent N a8 ad ac way g f a aq/\aq.getD g 0<[My,g]/\∀e,e<N.G->e≠g->aq.getD e 0=[My,e]:=by have jH:=p.wf.gle;have rE:=p.lp;obtain⟨hfG,y,hy,hy0⟩:=hR;have hfl:=(aQ.mp hy).1;(have mG:=by exact NAG.gl37 hg rE jH);have hgs:=NAM.getD_at mG;obtain⟨w0,kl,kG⟩:=(vZ way).resolve_left hwn;obtain⟨a0,b0,ea,eb,tie,_,_⟩:=Pt.link w0.length kl (by rw[kG];simp);rw[show w0.length+1=way.length by rw[kG];simp,h1] at eb;cases eb;obtain⟨pe,hpe,hpq⟩:=tie;have kH:=p.wf.lo kl pe hpe;(have hpf:pe.2=f:=by rcases hpq with ⟨_,z⟩ | ⟨_,z⟩<;>lia);(have kin:∀{b:Bool} {k:Nat},k∈NAP.WT b way->k<ad.length:=λh=>by rw[p.ls];exact Pt.lt (NAP.ZY h));have lao:=vI fh way;have lae:=vI tj way;obtain⟨ml,hml⟩:∃ml,ml=(NAP.WT fh way).map λk=>[KQ,0]:=#[_,rfl];obtain⟨m1,m2,m3⟩:=DK (y::ml) [My,g];obtain⟨a,ha⟩:∃a,xaD [My,g] (y::ml)=a:=#[_,rfl];rw[ha] at m1 m2 m3;(have a3:∀k∈NAP.WT fh way,∀s,ad[k]?=ϫ->a<=s:=λk hk s hs=>by have:=m2 [KQ,0] (a7 _ (hml▸aU.mpr #[k,hk,rfl]));rwa [show[KQ,0]=s by simp[hW,hs]] at this);(have ay:0<a:=by rcases bi.mp m3 with rfl | ha;exact hsg;rcases bi.mp ha with rfl | ha;exact hy0;rw[hml] at ha;obtain⟨k,hk,rfl⟩:=aU.mp ha;obtain⟨s,hs,rB⟩:=Pt.back p.wf h0 hg hk;rwa [show[KQ,0]=s by simp[hW,hs]]);obtain⟨_,h2,q1,⟨t1,rfl⟩,cT⟩:=Ep (x2:=se sV) (fi:=Vb (xbp fh tj ς)) p (λ_=>rfl) (y9 rfl) (by exact cf lae kL) λk hk=>kin hk;obtain⟨S1,hS1⟩:∃S1,NAP.Vh a ad (NAP.WT tj way)=S1:=#[_,rfl];(have S1l:S1.length=ad.length:=by rw[<-hS1,NAP.VR]);rw[hS1] at cT;have P2:=cT▸p.putS S1l;(obtain⟨_,h3,q2,⟨t2,rfl⟩,eh3⟩:=Ep (x2:=se sV) (fi:=Vb (xbp fh fh ς)) P2 (λ_=>Int.sub_eq_add_neg) (y9 rfl) (by exact cf lao kL) λk hk=>by rw[S1l];exact kin hk);obtain⟨S2,jD⟩:∃S2,NAP.Vh (-a) S1 (NAP.WT fh way)=S2:=#[_,rfl];rw[jD] at eh3;have P3:=eh3▸P2.putS (by rw[<-jD,NAP.VR]);(have hgf:f≠g:=by lia);obtain⟨s1,fH⟩:∃s1,ac.set g ([My,g]-a)=s1:=#[_,rfl];(have hy2:s1[f]?=Ϫ:=by rwa [<-fH,NAP.Xi hgf]);have P4:Ua (h3.set aP (.ml (s1.map .int))) me aS aP N S2 s1:=P3.putP (by rw[<-fH,eX]);have S:=hF.ad p.wf Pt h0 h1 hg (by simp[*]) hgs hy (cE ay) m1 (m2 _ aR) a3;refine#[a,s1.set f (y-a),[ώ,sA [η,gH [Ϗ,p.mi,rfl] (DS rfl rfl ?_) hpe,hpf▸rfl] (sA (aK (xs:=[.lst (([My,g]::y::ml).map .int)]) [ν,aH (e:=.lst (ml.map .int)) (je (aI (iJ [Ϗ,p.mi,rfl] p.sp rfl hgs) [ν,iJ [Ϗ,p.mi,rfl] p.sp rfl hy]) rfl) (cA (y9 rfl) cY (NAG.gl115 lao kL) (λk hk=>#[_,rfl,iJ [Ϗ,p.mi,rfl] p.st rfl (NAM.getD_at (kin hk))]) ?_) ?_] ?_) (sG q1 (sG q2 (sG (fH▸qW [Ϗ,P3.mi,rfl] rfl P3.sp hgs rfl) (sE (qW [Ϗ,P4.mi,rfl] rfl P4.sp hy2 rfl) ?_)))))],ay,fH▸S,?_,λe he heg=>?_];rw[kG,dz];exact(DW).trans A9;rw[hml,cD];rfl;(have mll:ml.length=(NAP.WT fh way).length:=by rw[hml,bq]);show Uf [PP,UJ [D.int [My,g],D.int y]+UJ (ml.map D.int)] (mk fh (eap [D.int [My,g],D.int y] (ml.map D.int)) h)=_;rw[aW,aW,bq,dH.mpr (by simp;lia),gj];rfl;show T5 (T6 xac (([My,g]::y::ml).map D.int)) _=_;rw[y8];show R.ok (D.int (xaD [My,g] (y::ml))) h=_;rw[ha];rw[k9,<-eh3,<-cT,k9,<-jD,<-hS1];exact bL (by rw[eX,eX]);(have:(s1.set f (y-a)).getD g 0=[My,g]-a:=by rw[bO,NAP.Xi (Ne.symm hgf),<-fH,fD mG];rfl);lia;rw[bO,NAP.Xi (NAG.gl105 he hfG),<-fH,NAP.Xi heg,<-bO]
end
section
variable {h t:TH}{me aS aP i:Nat}{N:NAP.WD}{ad ac aq:xam}{e:Nat}
noncomputable def hh (h:TH) (aS aP:Nat) (s q:xam):TH:=[Sy,aS,s.map .int].set aP (.ml (q.map .int))
theorem pC:(hh h aS aP s q).length=h.length:=by unfold hh;rw[eX,eX]
theorem Ua.hh (p:Ua h me aS aP N ad ac)(h1:s.length=ad.length)(h2:q.length=ac.length):Ua (NAY.hh h aS aP s q) me aS aP N s q:=(p.putS h1).putP h2
theorem Ua.self (p:Ua h me aS aP N ad ac):NAY.hh h aS aP ad ac=h:=by unfold NAY.hh;rw[rc p.st,rc p.sp]
theorem Es (ne:aS≠aP):hh (hh h aS aP s q) aS aP s' q'=hh h aS aP s' q':=by unfold hh;rw[BF _ _ (Ne.symm ne),k9,k9]
theorem zd3 (l1:aS<h.length)(l2:aP<h.length):hh (h++t) aS aP s q=hh h aS aP s q++t:=by unfold hh;rw[og l1,og (by rw[eX];exact l2)]
theorem v6 (c:Ϭ):Cl (hh h aS aP s q):=NAL.RX.Cl.set (NAL.RX.Cl.set c jU) jU
inductive PhI (h:TH) (me aS aP:Nat) (N:NAP.WD) (a8 aa aB ao:xam) (l:xat) (t3 t4:R5) (P:xam->xam->xam->Prop) (ρ:Ul) (h1:TH):Prop
 | mk (ad ac ai:xam) (er:ρ=[se (.at me),[ϔ,Pe],se (.at h.length),t3,t4]) (eh:hh h aS aP ad ac++[.ml Lb]=h1) (Ph:NAP.YA N a8 aa aB ao l ad ac ai) (p:P ad ac ai)
theorem zem (p:Ua h me aS aP N aB ao)(c:Ϭ)(dE:aa.length=N.nE)(hF:NAP.Flow N a8 aB ao)(hS:NAP.xaH N aB ao aa) :∃ad ac,Vw [.at me,Nc] h=[Kf,hh h aS aP ad ac]/\NAP.Flow N a8 ad ac/\(∀(e:Nat) x y,ao[e]?=ω->ac[e]?=Ϫ->y<=x)/\(∀e,0<=[IM,e]->NAP.UM N ao e->ac.sum<ao.sum):=by have jX:=p.sm;have jH:=p.wf.gle;have rE:=p.lp;obtain⟨l1,l2,l3⟩:=p.ltS;have uu:=Dg (N:=N) (ac:=ao);have P0:=p.app (t:=[.ml ((bh N.nE 0).map .int)]);obtain⟨ρ2,h2,q2,t3,t4,s2,sp2,tr2,rfl,cT,Ph,same2⟩:=fG (f:=V4) (fg:=rN 3) (fi:=Vb [ϖ,0,Us,Tk]) (ρ:=[se (.at me),[ϔ,Pe],se (.at h.length),ng,ng]) (λi ρ h1=>∃t3 t4,PhI h me aS aP N a8 aa aB ao ((rest N ao).take i) t3 t4 (λ_ ac _=>∀e,e<N.G->e∉(rest N ao).take i->[My,e]=ao.getD e 0) ρ h1) (eU (cZ rfl P0.mi rfl (Ej P0))) (λi ρ h _=>cY i) (NAG.gl9 uu jH jX) #[ng,ng,aB,ao,_,rfl,by rw[p.self],#[hF,tr0 p.wf,zb7,λe x y h1 h2=>by rw[h1] at h2;cases h2;exact lT,.inl #[rfl,rfl,λg hg=>ε]],λe _ _=>rfl] (λi g ρ h1 hg I=>by obtain⟨t3,t4,ad,ac,ai,rfl,eh,Ph,same⟩:=I;have jp:=YO.mp (aM hg);have uj:=hS.aJ g _ jp.1 (NAM.getD_at (NAG.gl11 jp rE jH)) jp.2;have uG:∀{ad ac ai:xam} {h1:TH},hh h aS aP ad ac++[.ml Lb]=h1->NAP.Flow N a8 ad ac->Ua h1 me aS aP N ad ac/\Cl h1/\h1[h.length]?=[ϓ,Lb]:=λ{ad ac ai h1} eh F=>#[eh▸(p.hh (by rw[F.ls,hF.ls]) (by rw[F.lp,hF.lp])).app,eh▸NAL.RX.Cl.app (v6 c) jU,eh▸rd (by rw[pC])];obtain⟨P1,C1,T1⟩:=uG eh Ph.flow;obtain⟨way,tried1,qw,TR1,D1,ex1,hway,kL⟩:=Eo P1 C1 (by exact eG l1) (by exact eG l2) (by exact eG l3) T1 dE uj jp.1 Ph.tr Ph.dead;(have eh1:hh h aS aP ad ac++[.ml (tried1.map .int)]=h1.set h.length (.ml (tried1.map .int)):=by rw[<-eh,tB (by rw[pC])]);refine#[_,rfl,nA (cZ rfl P1.mi [Ϣ,[Ϣ,[ν,rfl]]] qw) (n8 (λm ρ h1=>∃way,PhI h me aS aP N a8 aa aB ao ((rest N ao).take i) [ϒ,g] (se sV) (λad ac ai=>way.length<=900/\(∀e,e<N.G->e∉(rest N ao).take i->e≠g->[My,e]=ao.getD e 0)/\((way=[]/\(NAP.Z0 N ac ai g\/ac.sum<ao.sum))\/(way≠[]/\0<[My,g]/\∃es f,NAP.Xz N aa ad es way/\es[0]?=se g/\es[way.length]?=se f/\NAP.UM N ac f))/\m=[My,g].toNat) ρ h1) _ (λm ρ h1 I=>?_) #[way,ad,ac,tried1,rfl,eh1,Ph.walked TR1 D1 ex1,kL,λe he hm _=>same e he hm,hway.imp (λz=>#[z.1,.inl z.2]) (λz=>#[z.1,by rw[same g jp.1 (zb4 zcC hg)];exact jp.2,z.2]),rfl])];obtain⟨way,ad,ac,ai,rfl,eh,Ph,kL,same,hway,rfl⟩:=I;obtain⟨P1,C1,T1⟩:=uG eh Ph.flow;by_cases cw:way=[];refine#[fh,h1,aO [η,aK [ν,rfl] eV,oa (by rw[cw];decide)],λz=>(nomatch z),λ_=>#[_,_,ad,ac,ai,rfl,eh,by rw[take_snoc hg];exact Ph.one (hway.resolve_right (λz=>z.1 cw)).2,λe he hm=>?_]];rw[take_snoc hg] at hm;simp only[dh,cO,not_or] at hm;exact same e he hm.1 hm.2;obtain⟨_,sg,es,f',Pt,p0,p1,pR⟩:=hway.resolve_left (λz=>cw z.1);obtain⟨a,aq,qs,a0,S,hless,oth⟩:=zfr P1 kL cw Ph.flow Pt p0 p1 pR jp.1 sg;have Ph3:=Ph.ad p.wf Pt p0 jp.1 a0 S;have uH:=S.flow.lp;have um:=S.flow.sp g _ (NAM.getD_at (NAG.gl11 jp uH jH));(have ui:aq.sum<ao.sum:=by have:=S.sum;rcases Ph.prog with ⟨_,rfl,_⟩ | z<;>lia);(have oJ:∀e,e<N.G->e∉(rest N ao).take i->e≠g->aq.getD e 0=ao.getD e 0:=λe he hm dB=>by rw[oth e he dB];exact same e he hm dB);obtain⟨h2,cT⟩:∃h2,hh h aS aP (NAP.Ws a ad way) aq++[.ml Lb]=h2:=#[_,rfl];have q2:Vo [.at me,.int g,sV] h1=[ϳ,.non]:=qs.trans (by rw[<-cT,<-eh];show R.ok D.non (hh (hh h aS aP ad ac++_) aS aP _ _)=_;rw[zd3 (by rwa [pC]) (by rwa [pC]),Es p.ne]);obtain⟨P2,C2,T2⟩:=uG cT S.flow;have gs:=NAM.getD_at (show g<aq.length from NAG.gl11 jp uH jH);have lw:=fM.mpr cw;refine#[tj,h1,aO [η,aK [ν,rfl] eV,n9 (by simp[*])],λ_=>nD' (cZ rfl P1.mi [Ϣ,[ν,rfl]] q2) ?_,λz=>(nomatch z)];have T:=iJ (fa:=[ϙ,0,3]) (fb:=ό) (ρ:=[se (.at me),[ϔ,Pe],se (.at h.length),[ϒ,g],se sV]) [Ϗ,P2.mi,rfl] P2.sp rfl gs;by_cases cs:0<aq.getD g 0;obtain⟨way2,tried2,qw2,T3,D3,ex2,hway2,hwl2⟩:=Eo P2 C2 (NAG.gl1 l1) (NAG.gl1 l2) (NAG.gl1 l3) T2 dE uj jp.1 Ph3.tr Ph3.dead;exact nE (jd (Eh (aO [η,T,n9 cs]) (cZ rfl P2.mi [Ϣ,[Ϣ,[ν,rfl]]] qw2)) rfl) #[_,by lia,way2,_,aq,tried2,rfl,by rw[<-cT,tB (by rw[pC])],Ph3.walked T3 D3 ex2,hwl2,oJ,hway2.imp (λz=>#[z.1,.inr ui]) (λz=>#[z.1,cs,z.2]),rfl];exact nE (jd (Ei (aO [η,T,oa cs]) rfl) rfl) #[_,by lia,[],_,aq,ai,rfl,cT,Ph3,by simp,oJ,.inl #[rfl,.inr ui],rfl]);rw[MM] at Ph;refine#[s2,sp2,[ώ,sA (aH rfl (aK [ν,[Ϗ,p.mi,rfl]] (lI p.sp)) ?_) (sE q2 ?_)],Ph.flow,Ph.le,λe he hR=>Ph.less p.wf hS (λg hg=>?_) he hR];rw[bq,p.lp,mul_one (NAG.gl10 jX),yY];show[P5,D.at Id,h,_]=_;rw[gm,gq];rw[<-cT];rw[show h.length=(hh h aS aP s2 sp2).length by rw[pC]];exact n5 (v6 c) trivial;obtain⟨a1,x,a2,a3⟩:=hS.zero g hg;refine YO.mpr #[a1,?_];rwa [show ao.getD g 0=x by simp_all]
end
section
variable {h:TH}{me aS aP i:Nat}{N:NAP.WD}{ad ac:xam}{e:Nat}
theorem zaB {l:xam}(i:Nat):nEn [L7,.int] h i=se ((l.zipIdx.map λp=>D.tup [.int p.2,.int p.1])[i]?):=by rw[D5,bo,bo,oT,oT,bo];cases l[i]?<;>rfl
noncomputable def Zz (aa:xam):xat:=(aa.zipIdx.filter λp=>decide (0<=p.1)).map (·.2)
theorem Zy:e∈Zz aa↔0<=[IM,e]:=by unfold Zz;rw[aU];constructor;rintro⟨⟨x,j⟩,hm,rfl⟩;(have:[IM,j]=x:=by grind[NAP.Lv,bO]);simp_all;intro z;exact#[([IM,e],e),bB.mpr #[List.mem_zipIdx_iff_getElem?.mpr (sx (nW z)),Tc z],rfl]
theorem zdC:(Zz aa).length<=aa.length:=by unfold Zz;rw[bq];refine cf (fK _ _) ?_;simp_all
inductive FiI (h:TH) (me aS aP:Nat) (N:NAP.WD) (ao:xam) (P:xam->xam->xam->Prop) (ρ:Ul) (h1:TH):Prop
 | mk (ad ac aa:xam) (er:ρ=[se (.at me),[ϔ,Pe]]) (eh:hh h aS aP ad ac=h1) (l:aa.length=N.nE) (le:∀(e:Nat) x y,ao[e]?=ω->ac[e]?=Ϫ->y<=x) (p:P ad ac aa)
theorem Ld (p:Ua h me aS aP N aB ao)(c:Ϭ)(hF:NAP.Flow N a8 aB ao) :∃ad ac aa,Y3 [.at me] h=.ok (.lst ('O'.map .bl)) (hh h aS aP ad ac)/\NAP.Wj N a8 ad ac aa/\(∀(e:Nat) x y,ao[e]?=ω->ac[e]?=Ϫ->y<=x)/\aa.length=N.nE:=by have jX:=p.sm;obtain⟨aa,qs,dE,hfd⟩:=Ek p c;obtain⟨ρ2,h2,q2,s2,sp2,st2,rfl,cT,sl2,mR,Dn⟩:=n8 (fT:=Zt) (fs:=Zr) (ρ:=[se (.at me),[ϔ,Pe]]) (λm=>FiI h me aS aP N ao λad ac aa=>NAP.Flow N a8 ad ac/\Found N ad ac aa/\m=ac.sum.toNat) (FiI h me aS aP N ao λad ac aa=>NAP.Wj N a8 ad ac aa) (λm ρ h1 I=>by obtain⟨ad,ac,aa,rfl,eh,dE,le,hF1,⟨d,row,R,jL⟩,rfl⟩:=I;(have a2:ac.length=ao.length:=by rw[hF1.lp,hF.lp]);have P1:=eh▸p.hh (by rw[hF1.ls,hF.ls]) a2;have rl:=zdC (aa:=aa);(have rm:=yX (es:=Zz aa) P1 (by lia) λe he=>by rw[<-dE];exact nW (Zy.mp he));refine#[(Zz aa).any (Yw N ac),h1,aO (cZ rfl P1.mi [ν,cM (sU rfl) zaB (by rw[qI];exact NAG.gl101 dE jX) (λq hq=>#[[[ϒ,q.2],[ϒ,q.1]],by unfold YS;rfl,aO [η,rfl,ge_int],λ_=>rfl]) (by unfold Zz;rw[cD];rfl)] rm),λcr=>?_,λcr=>?_];obtain⟨e,he,hR⟩:=gU.mp cr;have he0:=Zy.mp he;obtain⟨s2,sp2,q2,F2,mR,less⟩:=zem P1 (eh▸v6 c) dE hF1 R.st;have sl:=less e he0 ((qU (by rw[P1.lp,<-dE];exact nW he0)).mp hR);have n0:=NAP.xas λi x hx=>F2.sp i x hx;(have cT:hh h1 aS aP s2 sp2=hh h aS aP s2 sp2:=by rw[<-eh,Es p.ne]);have P2:=cT▸P1.hh (by rw[F2.ls,hF1.ls]) (by rw[F2.lp,hF1.lp]);obtain⟨st2,q3,sl3,f3⟩:=Ek P2 (v6 c);rw[cT] at q2;refine nD' (cZ rfl P1.mi [ν,rfl] q2) (nE (jd (cZ rfl P2.mi rfl q3) rfl) #[_,by lia,s2,sp2,st2,rfl,rfl,sl3,λe x y h1 h2=>?_,F2,f3,rfl]);have hz:ac[e]?=se (ac[e]'(by have:='4'.1;simp_all)):=aV _;exact hK (mR e _ _ hz h2) (le e _ _ h1 hz);(have pX:∀e,0<=[IM,e]->¬NAP.UM N ac e:=λe he hR=>by have:=gU.mpr #[e,Zy.mpr he,(qU (by rw[P1.lp,<-dE];exact nW he)).mpr hR];rw[this] at cr;cases cr);exact#[ad,ac,aa,rfl,eh,dE,le,R.done hF1 jL pX]) #[aB,ao,aa,rfl,p.self,dE,λe x y h1 h2=>by rw[h1] at h2;cases h2;exact lT,hF,hfd,rfl];refine#[s2,sp2,st2,[ώ,sA (cZ rfl p.mi rfl qs) (sG q2 (sR (cA (L:=(U0 st2).map .bl) QM cY (NAG.gl101 sl2 jX) (λs hs=>#[[[ϒ,s]],rfl,[η,rfl,ge_int]]) ?_) ?_))],Dn,mR,sl2];unfold U0;rw[cD];rfl;rw[<-cT];exact bL pC
end
section
variable {h h':TH}{i:Nat}{e k b:Nat}
theorem zcR:∀m i h,h[a]?=[ϓ,l]->i<=l.length->l.length<i+m->rCg (X4 (.at a)) ϝ UB (Un tj Tk) [ng] m i h=.ok ((aT (l.length-i)).map λk=>.at (h.length+k)) (h++bh (l.length-i) (.ml [])):=by intro m;induction m with| zero =>rintro i h _ h1 h2;exact absurd h2 (by simp[*])| succ m ih =>rintro i h ha h1 h2;rw[qV];(have e1:X4 (.at a) h i=se (l[i]?):=by show Wm (eS h (.at a)) _=_;unfold eS;dsimp only;rw[aX,ha];show se (eg l i)=_;rw[aX]);rw[e1];by_cases lt:i<l.length;rw[aV lt];show R.bnd (rCg (X4 (.at a)) (rN 0) UB (Un tj Tk) [ng] m (i+1) (hp h (.ml []))) (λys h'=>.ok (D.at (hn h)::ys) h')=_;rw[gq,ih (i+1) (h ++ [.ml []]) (bv ha) lt (NAG.gl13 h2),gm];show R.ok (D.at h.length::_) _=_;rw[show l.length - i=(l.length - (i+1))+1 from NAG.gl14 lt,oU,qF,bz,cD,eF];simp;lia;(have:=by exact NAG.gl3 h1 lt);subst this;simp
noncomputable def hI (h0:TH) (F:θ) (ss:xam) (E:Nat) (sp:Nat->Int) (af:Nat->xat):TH:=h0++([.mi 0 F,QH,.ml (('b'.map sp).map .int)]++'b'.map λe=>.ml ((af e).map nD))
section
variable {h0:TH}{F:θ}{ss:xam}{E:Nat}{sp sp':Nat->Int}{af af':Nat->xat}
theorem zb:(hI h0 F ss E sp af)[h0.length]?=[ϟ,0,F]:=by unfold hI;rw[hU ϱ,r5];rfl
theorem Lg:(hI h0 F ss E sp af)[h0.length+1]?=[ϓ,QK]:=by unfold hI;simp_all
theorem zaE:(hI h0 F ss E sp af)[h0.length+2]?=[ϓ,('b'.map sp).map .int]:=by unfold hI;simp_all
theorem Et (he:e<E):(hI h0 F ss E sp af)[h0.length+3+e]?=[ϓ,(af e).map nD]:=by unfold hI;rw[hU (by lia),show h0.length+3+e-h0.length=3+e from NAG.gl114,hU (by exact jP ..),show 3+e-([.mi 0 F,QH,.ml (('b'.map sp).map .int)]:TH).length=e by simp,o9 _ he]
theorem Li (he:e<E)(v:Int):(hI h0 F ss E sp af).set (h0.length+2) (.ml ((('b'.map sp).map .int).set e (.int v)))=hI h0 F ss E (λx=>if x=e then v else sp x) af:=by unfold hI;rw[qG _ _ ε,show h0.length+2-h0.length=2 by simp_all,ints_set,yv];rfl
theorem zfb (he:e<E)(l:xat):(hI h0 F ss E sp af).set (h0.length+3+e) (.ml SB)=hI h0 F ss E sp (λx=>if x=e then l else af x):=by unfold hI;rw[qG _ _ (by lia),show h0.length+3+e-h0.length=3+e from NAG.gl114,qG _ _ (by exact jP ..),show 3+e-([.mi 0 F,QH,.ml (('b'.map sp).map .int)]:TH).length=e by simp,yv];grind
theorem Lk (h1:∀e<E,sp e=sp' e)(h2:∀e<E,af e=af' e):hI h0 F ss E sp af=hI h0 F ss E sp' af':=by unfold hI;have a:=cH λx hx=>h1 x MF;(have b:('b'.map λe=>TM.ml ((af e).map nD))='b'.map λe=>TM.ml ((af' e).map nD):=cH λx hx=>by rw[h2 x MF]);rw[a,b]
theorem Eu (hF:F=[G,ed,.at (h0.length+1),.at (h0.length+2),.lst ('b'.map λk=>.at (h0.length+3+k))])(he:e<E)(hk:ss[k]?=ϫ)(hal:(af e).length<=900) :Zq [se (.at h0.length),se gs,se ts,se ti,se sd,[ϒ,k],se tu,[ϒ,e]] (hI h0 F ss E sp af)=.ok (.nx [se (.at h0.length),se gs,se ts,se ti,se sd,[ϒ,k],se tu,[ϒ,e]]) (hI h0 F ss E (λx=>if x=e then sp e-s else sp x) (λx=>if x=e then af e++[k]else af x)):=by subst hF;refine(nY (qW [Ϗ,zb,rfl] rfl zaE (o9 _ he) (iJ [Ϗ,zb,rfl] Lg rfl hk))).trans ?_;rw[<-ints_set,Li he,<-zfb he];refine fQ (d:=D.non) ((lH (DS [Ϗ,zb,rfl] rfl (Xm.trans (o9 (λk=>D.at (h0.length+3+k)) he))) (Et he) rfl (by rw[bq];exact NAG.gl4 hal)).trans ?_);rw[dz];rfl
end
end
section
variable {h h' t:TH}{i:Nat}{N:NAP.WD}{o:TM}{e k b:Nat}
theorem v7 {l:Tm}(i:Nat):nEn (.lst 'N') h i=se ((l.zipIdx.map λp=>D.tup [.int p.2,g p.1])[i]?):=by rw[D5,bo,bo,oT,oT,bo];cases l[i]?<;>rfl
theorem Ew (he:fi ρ h=.ok (X4 (.tup [x,y])) h)(g1:fg x ρ=Yr)(s1:fs ρ1 h=[ϳ,NO])(g2:fg y ρ2=se ρ3)(s2:fs ρ3 h2=.ok (.nx ρ4) h4):U8 fi fg fs ρ h=.ok (.nx ρ4) h4:=by unfold U8;rw[he];show T5 (fg x ρ) _=_;rw[g1];show[mt,fs ρ1 h]=_;rw[s1];show T5 (fg y ρ2) _=_;rw[g2];show[mt,fs ρ3 h2]=_;rw[s2];rfl
theorem Ex {a b:ϐ}(h1:T6 f a=se a')(h2:T6 f b=se b'):T6 f (a++b)=se (a'++b'):=by induction a generalizing a' with| nil=>cases h1;exact h2| cons x a ih =>obtain⟨y,ys,e1,e2,rfl⟩:=TW.mp h1;exact TW.mpr #[y,ys++b',e1,ih e2,rfl]
theorem mj {k:γ->β}:∀{l:List γ},(∀x∈l,f (g x)=se (k x))->T6 f 'N'=se (l.map k):=by intro l;induction l with| nil =>rintro _;exact rfl| cons x l ih =>rintro h;exact TW.mpr #[_,_,h x (.head _),ih λy hy=>h y (.tail _ hy),rfl]
section
variable {h0:TH}{ss:xam}{E:Nat}{sp:Nat->Int}{af:Nat->xat}{G:Int}{ed:xak}
theorem zfa (c:Cl h0):[Si,h0.length+3,hI h0 [.int G,NJ,.at (h0.length+1),.at (h0.length+2),.lst ('b'.map λk=>.at (h0.length+3+k))] ss E sp af]=[Kf,h0++[.mi 0 [.int G,NJ,.at (h0.length+1),.at (h0.length+2),.lst ('b'.map λk=>TQ (af k))],QH,.ml (('b'.map sp).map .int)]]:=by by_cases z:E=0;subst z;rw[bL (by unfold hI;simp)];unfold hI;simp;obtain⟨H,eH⟩:∃H,hI h0 [.int G,NJ,.at (h0.length+1),.at (h0.length+2),.lst ('b'.map λk=>.at (h0.length+3+k))] ss E sp af=H:=#[_,rfl];have uG:∀k,k<E->H[h0.length+3+k]?=[ϓ,(af k).map nD]:=λk hk=>eH▸Et hk;unfold trunc;rw[aW,show bW (hI h0 [.int G,NJ,.at (h0.length+1),.at (h0.length+2),.lst ('b'.map λk=>.at (h0.length+3+k))] ss E sp af).length (h0.length+3)=fh from fJ.mpr λy=>by have:=nJ y;unfold hI at this;simp at this;trivial];rw[eH];show T5 (T6 (fzo H (h0.length+3)) (etk (h0.length+3) H)) _=_;rw[sM];(have tk:H.take (h0.length+3)=h0++[.mi 0 [.int G,NJ,.at (h0.length+1),.at (h0.length+2),.lst ('b'.map λk=>.at (h0.length+3+k))],QH,.ml (('b'.map sp).map .int)]:=by rw[<-eH];unfold hI;rw[<-eF,Bt (by simp)]);rw[tk,Ex (yO λx hx=>sO (pj ε (c x hx)))];rfl;refine TW.mpr #[_,_,?_,TW.mpr #[_,_,sO (n:=h0.length+3) jU,TW.mpr #[_,_,sO (n:=h0.length+3) (o:=.ml (('b'.map sp).map .int)) jU,rfl,rfl],rfl],rfl];(have f2:fz H (h0.length+3) 9 NJ=[ϔ,ed.map ZO]:=iR 9 λd hd=>by obtain⟨x,_,rfl⟩:=PM;intro d hd;simp only[bi,gW,or_false] at hd;rcases hd with rfl | rfl<;>trivial);have f3:fz H (h0.length+3) 9 (.at (h0.length+1))=se (.at (h0.length+1)):=iR 9 (show h0.length+1<h0.length+3 by simp_all);have f4:fz H (h0.length+3) 9 (.at (h0.length+2))=se (.at (h0.length+2)):=iR 9 (show h0.length+2<h0.length+3 by simp_all);(suffices f5:fz H (h0.length+3) 9 (.lst ('b'.map λk=>.at (h0.length+3+k)))=[ϔ,'b'.map λk=>TQ (af k)]by show Wm (T6 (fz H (h0.length+3) 9) _) _=_;have f1:fz H (h0.length+3) 9 (.int G)=[ϒ,G]:=rfl;rw[TW.mpr #[_,_,f1,TW.mpr #[_,_,f2,TW.mpr #[_,_,f3,TW.mpr #[_,_,f4,TW.mpr #[_,_,f5,rfl,rfl],rfl],rfl],rfl],rfl]];rfl);show Wm (T6 (fz H (h0.length+3) 8) ('b'.map λk=>D.at (h0.length+3+k))) D.lst=_;rw[mj λk hk=>?_];rfl;show(bif bI (h0.length+3+k) (h0.length+3)then se (D.at (h0.length+3+k))else match eg H (h0.length+3+k)with| some (.ml ds)=>Wm (T6 (fz H (h0.length+3) 7) ds) .lst| _=>ng)=_;rw[show bI (h0.length+3+k) (h0.length+3)=fh from fJ.mpr λy=>by have:=cF.mp y;lia,aX,uG k (dA.mp hk)];show Wm (T6 (fz H (h0.length+3) 7) ((af k).map nD)) D.lst=_;rw[km λx hx=>iR 7 (tC x hx)];rfl
end
theorem Lm {e:D}(hn:ds.length=n)(z:On (f (Xq ds k) h) λ_ h'=>h.length+m<=h'.length/\[Si,h.length+m,h']=[ϳ,e]):fnK m n k f ds h=[ϳ,e]:=by obtain⟨ρ',h',z,hm,t⟩:=z;unfold fnK;rw[z,aW,hn,show bW n n=tj from gG n];show Uf (bR (Og+m) (UJ h')) [Si,Og+m,h']=_;rwa [aW,aW,dH.mpr hm]
theorem nI {u:TH}(z:v ρ (h++ .mi c F::t)=.ok y (h++ .mi c F::u))(za:fa ρ (h++ .mi c F::u)=.ok (.at h.length) (h++ .mi c F::u))(k:On (g ρ (h++ .mi c (F++[y])::u)) P)(hn:F.length=n:=by rfl):On (Ts (Z4 c n fa v) g ρ (h++ .mi c F::t)) P:=by have e:=Ea z za Um hn;grind[pq,nG]
theorem On.mono (z:On r P)(k:∀ ρ h,P ρ h->Q ρ h):On r Q:=let #[ρ,h,e,p]:=z;#[ρ,h,e,k _ _ p]
theorem apN {u:TH}:(h++o::t)++u=h++o::(t++u):=by simp
theorem lnN:(h++o::t).length=h.length+(t.length+1):=by simp
theorem Lp:ZT tj [Lw] h=.ok (.at h.length) (h++[.ml l]):=by show R.ok (D.at Id) (hp h (.ml l))=_;rw[gm,gq]
theorem zbX {a b:θ}(hl:a.length+b.length<=1000):VD tj (.lst a) (.lst b) h=.ok (.at h.length) (h++[.ml (a++b)]):=by show Uf [PP,UJ a+UJ b] (R.ok (D.at Id) (hp h (.ml (eap a b))))=_;rw[aW,aW,dH.mpr (by lia),gm,gq,gj];rfl
theorem zcB {N:μ}(z:fa ρ h=.ok (.at i) h)(e:h[i]?=[ϓ,l])(hl:l.length<1000):Wv N fh (Vb fa) 1 [] ϝ UB (Un tj Tk) ρ h=.ok (.lst ((aT l.length).map λk=>.at (h.length+k))) (h++bh l.length (.ml [])):=by show Yy fh (Vb fa) 1 [] ϝ UB (Un tj Tk) ρ h=_;unfold Yy Vb;rw[z];show[mt,T5 (eS h (.at i)) _]=_;rw[show eS h (.at i)=tx by grind[eS,aX]];show[mt,rCg (X4 (.at i)) ϝ UB (Un tj Tk) [ng] 1000 0 h]=_;rw[zcR 1000 0 h e (ja _) (by assumption)];rfl
theorem zdU (c:Cl h0)(rz:∀p∈aj,p.1<gs.length/\p.2<ts.length)(p4:ss.length=aj.length)(hl:gs.length+ts.length<=900)(iD:aj.length<=900) :XM [.at h0.length,NW,QP,KD,OF] (h0++[.mi 0 []])=[Kf,h0++[.mi 0 [.int gs.length,.lst ([Pl,aj].map ZO),.at (h0.length+1),.at (h0.length+2),.lst ([CC,ts.length,aj].bG.map TQ)],QH,.ml (((aT (gs.length+ts.length)).map (Zx (gs++ts) [Pl,aj] ss aj.length)).map .int)]]:=by obtain⟨ed,hed⟩:∃ed,[Pl,aj]=ed:=#[_,rfl];(have edl:ed.length=aj.length:=by rw[<-hed];unfold UI;rw[bq]);(have edp:∀(k:Nat) p,ed[k]?=ϕ->p.1<gs.length+ts.length/\p.2<gs.length+ts.length/\p.1≠p.2:=λk p hp=>by rw[<-hed] at hp;unfold UI at hp;rw[bo,kg] at hp;obtain⟨q,hq,rfl⟩:=hp;obtain⟨a,b⟩:=rz q (aM hq);refine#[?_,?_,?_]<;>dsimp only<;>lia);refine Lm rfl (nI [ϋ,eV] rfl (nI (cA QM cY (NAG.gl12 iD) (λp hp=>#[_,by unfold YS;rfl,gY [Ϣ,[ν,[η,[Ϗ,Um,rfl],add_int]]] rfl]) (L:=ed.map ZO) (by rw[<-hed];simp[UI,ZO])) rfl (nI ([ϋ,Lp].trans (by rw[apN (h:=h0),lnN (h:=h0)])) rfl (nI ([η,rfl,zbX (by simp;lia)].trans (by rw[apN (h:=h0),lnN (h:=h0)])) rfl (nI ((zcB [Ϗ,Um,rfl] XY (by simp;lia)).trans (by rw[apN (h:=h0),lnN (h:=h0)])) rfl ?_)))));obtain⟨F,hF⟩:∃F,F=[D.int (gs.length:Int),NJ,.at (h0.length+1),.at (h0.length+2),.lst ((aT (gs.length+ts.length)).map λk=>.at (h0.length+3+k))]:=#[_,rfl];(have a1:(aT (gs.length+ts.length)).map (Zx (gs++ts) ed ss 0)=gs++ts:=by have:=range_getD (gs++ts);rw[eE] at this;refine uN (cH λx _=>?_) this;simp[Zx,NAP.load]);refine On.mono (fG (l:=ed.zipIdx) (λi ρ h1=>∃t5 t6 t7:Option D,ρ=[se (.at h0.length),[ϔ,gs.map .int],[ϔ,ts.map .int],[ϔ,aj.map ZO],[ϔ,QK],t5,t6,t7]/\hI h0 F ss (gs.length+ts.length) (Zx (gs++ts) ed ss i) (Zn ed i)=h1) (sU [Ϗ,Um,rfl]) (λi ρ h _=>v7 i) (by rw[qI];exact NAG.gl101 edl iD) #[_,_,_,rfl,by simp[hI,a1,Zn,hF,Bv]] ?_) ?_;rintro i q ρ h1 hq ⟨t5,t6,t7,rfl,rfl⟩;rw[oT,kg] at hq;obtain⟨p,hp,rfl⟩:=hq;obtain⟨p1,p2,p3⟩:=edp i p hp;have il:i<ed.length:=(aQ.mp hp).1;have hs:ss[i]?=se (ss.getD i 0):=NAM.getD_at ε;(have al:∀j x,(Zn ed j x).length<=j:=λj x=>by unfold Zn;refine cf (fK _ _) ?_;rw[k6];exact ϱ);have s1:=Eu (h0:=h0) (sp:=Zx (gs++ts) ed ss i) (af:=Zn ed i) (gs:=NW) (ts:=QP) (ti:=KD) (sd:=OF) (tu:=ZO p) hF p1 hs (by have:=al i p.1;exact NAG.gl106 this il edl iD);have s2:=Eu (h0:=h0) (sp:=λx=>if x=p.1 then Zx (gs++ts) ed ss i p.1-ss.getD i 0 else Zx (gs++ts) ed ss i x) (af:=λx=>if x=p.1 then Zn ed i p.1++[i]else Zn ed i x) (gs:=NW) (ts:=QP) (ti:=KD) (sd:=OF) (tu:=ZO p) hF p2 hs (by rw[S9 (Ne.symm p3)];have:=al i p.2;exact NAG.gl106 this il edl iD);rw[r4];refine#[_,by unfold YS;rfl,?_];refine nE (Ew (x:=.int (p.1:Int)) (y:=.int (p.2:Int)) rfl rfl s1 rfl s2) #[_,_,_,rfl,Lk (λe he=>?_) λe he=>?_];(have lt1:(ed.take i).length=i:=by rw[jr];lia);(have lt2:(ss.take i).length=i:=by rw[jr];simp_all);(have ld:[NM,ed.take (i+1),ss.take (i+1)]=[NM,ed.take i,ss.take i]+(if NAP.inc p e then ss.getD i 0 else 0):=by rw[take_snoc hp,take_snoc hs,Di (by rw[lt1,lt2])]);unfold Zx;rw[ld];unfold NAP.inc;by_cases c1:e=p.1;subst c1;simp;lia;by_cases c2:e=p.2;subst c2;simp[c1];lia;simp[c1,c2,Ne.symm c1,Ne.symm c2];rw[J5,show ed.getD i (0,0)=p by simp[hW,hp]];unfold NAP.inc;by_cases c1:e=p.1;subst c1;simp[p3];by_cases c2:e=p.2;subst c2;simp[c1];simp[c1,c2,Ne.symm c1,Ne.symm c2];rintro ρ h' ⟨t5,t6,t7,rfl,rfl⟩;rw[qI,edl,hF,eE];refine#[by simp[hI];lia,(zfa c).trans ?_];subst hed;rw[show[CC,ts.length,aj].bG=(aT (gs.length+ts.length)).map (Zn [Pl,aj] aj.length)from rfl];simp only[cD];rfl
end
section
variable {h:TH}{gs ts ss:xam}{aj:xak}
theorem za7 {n:Nat}:cutD l ng (se n)=l.take n:=by unfold cutD NAH.V1;dsimp only;rw[S9 ε,List.drop_zero,Nat.sub_zero,uQ];rcases Nat.le_total n l.length with z | z;rw[BO z];rw[BN z,MM,d8 z]
theorem zam {n:Nat}:cutD l (se n) ng=l.drop n:=by unfold cutD NAH.V1;dsimp only;rw[S9 ε,uQ];rcases Nat.le_total n l.length with z | z;rw[BO z,d8 ε];rw[BN z,A7 z,A7 ϱ,List.take_nil]
noncomputable def xbS (G:Nat) (ad aa:xam):D:=.tup [.lst OA,.tup [.lst (('O'.take G).map .bl),.lst (('O'.drop G).map .bl)]]
theorem re (z:fa ρ h=.ok IC h):rO1 fa ρ h=.ok ω h:=by unfold rO1;rw[z];rfl
theorem Ey (z:fa ρ h=.ok Lw h)(z1:fl ρ h=.ok x h)(z2:fu ρ h=.ok y h):rSl fh fa fl fu ρ h=.ok (.lst (cutD l x y)) h:=by unfold rSl;rw[z];show[mt,fl ρ h]=_;rw[z1];show[mt,fu ρ h]=_;rw[z2];rfl
theorem zbu (c:Ϭ)(rz:∀p∈aj,p.1<gs.length/\p.2<ts.length)(p4:ss.length=aj.length)(hl:gs.length+ts.length<=900)(iD:aj.length<=900)(hn:∀(k:Nat) s,ss[k]?=ϫ->0<=s)(hs:∀e<gs.length+ts.length,0<=Zx (gs++ts) [Pl,aj] ss aj.length e) :∃ad ac aa,YW [NW,QP,KD,OF] h=.ok (xbS gs.length ad aa) h/\NAP.Wj [CC,ts.length,aj] (gs++ts) ad ac aa/\aa.length=gs.length+ts.length/\∀(e:Nat) x y,((aT (gs.length+ts.length)).map (Zx (gs++ts) [Pl,aj] ss aj.length))[e]?=ω->ac[e]?=Ϫ->y<=x:=by obtain⟨um,hsp⟩:∃um,(aT (gs.length+ts.length)).map (Zx (gs++ts) [Pl,aj] ss aj.length)=um:=#[_,rfl];have F0:=ze6 p4 hn hs;have I:=zdU c rz p4 hl iD;rw[hsp] at F0 I;obtain⟨X,hX⟩:∃X:List D,[.int gs.length,.lst ([Pl,aj].map ZO),.at (h.length+1),.at (h.length+2),.lst ([CC,ts.length,aj].bG.map TQ)]=X:=#[_,rfl];rw[hX] at I;obtain⟨h1,e1⟩:∃h1,h++[.mi 0 X,QH,.ml (um.map .int)]=h1:=#[_,rfl];rw[e1] at I;(have g0:h1[h.length]?=[ϟ,0,X]:=by rw[<-e1,hU ϱ,r5];rfl);have P:Ua h1 h.length (h.length+1) (h.length+2) [CC,ts.length,aj] ss um:=#[by rw[g0,<-hX];rfl,by rw[<-e1,hU ε,show h.length+1-h.length=1 by simp_all];rfl,by rw[<-e1,hU ε,show h.length+2-h.length=2 by simp_all];rfl,ε,ε,ε,yw rz,F0.ls,F0.lp,hl,by show(aj.map _).length<=900;rwa [bq],λe l mK=>by have uD:((aT (gs.length+ts.length)).map (Zn [Pl,aj] aj.length))[e]?=tx:=mK;rw[bo,kg] at uD;obtain⟨x,_,rfl⟩:=uD;unfold Zn;refine cf (fK _ _) ?_;rwa [k6]];(have cX:∀d∈X,cd (h.length+3) 9 d:=λd hd=>by rw[<-hX] at hd;simp only[bi,gW,or_false] at hd;rcases hd with rfl | rfl | rfl | rfl | rfl;trivial;intro d hd;obtain⟨x,_,rfl⟩:=PM;intro d hd;simp only[bi,gW,or_false] at hd;rcases hd with rfl | rfl<;>trivial;show h.length+1<h.length+3;simp_all;show h.length+2<h.length+3;simp_all;intro d hd;obtain⟨x,_,rfl⟩:=PM;exact tC);(have C1:Cl h1:=λo ho=>by(have iZ:h1.length=h.length+3:=by rw[<-e1];simp);rw[iZ];rw[<-e1] at ho;rcases dh.mp ho with ho | ho;exact pj ε (c o ho);simp only[bi,gW,or_false] at ho;rcases ho with rfl | rfl | rfl;exact cX;exact jU;exact jU);obtain⟨ad,ac,aa,q,Dn,le,sl⟩:=Ld P C1 F0;obtain⟨h2,e2⟩:∃h2,hh h1 (h.length+1) (h.length+2) ad ac=h2:=#[_,rfl];rw[e2] at q;(have e3:h++[.mi 0 X,.ml OA,.ml (ac.map .int)]=h2:=by rw[<-e2,<-e1];unfold hh;rw[qG _ _ ε,qG _ _ ε,show h.length+1-h.length=1 by simp_all,show h.length+2-h.length=2 by simp_all];rfl);(have m2:h2[h.length]?=[ϟ,0,X]:=by rw[<-e3,hU ϱ,r5];rfl);(have m3:h2[h.length+1]?=[ϓ,OA]:=by rw[<-e3,hU ε,show h.length+1-h.length=1 by simp_all];rfl);rw[hsp];(have t1:cutD ('O'.map D.bl) ng (se gs.length)=('O'.take gs.length).map D.bl:=by rw[za7,BG]);(have t2:cutD ('O'.map D.bl) (se gs.length) ng=('O'.drop gs.length).map D.bl:=by rw[zam,BH]);refine#[ad,ac,aa,[ώ,sA (d:=.at h.length) (h1:=h1) ?_ (sA (cZ rfl g0 rfl q) (sR (d:=.tup [.at (h.length+1),.tup [.lst (('O'.take gs.length).map .bl),.lst (('O'.drop gs.length).map .bl)]]) (h1:=h2) (gY (aI [Ϗ,m2,by rw[<-hX];rfl] [ν,gY (aI ?_ [ν,?_]) rfl]) rfl) ?_))],Dn,sl,le];show ZS 0 XM [NW,QP,KD,OF] h=_;unfold ZS;rw[gm,gq,I];rfl;rw[<-t1];exact Ey rfl rfl (re (aK [ν,rfl] eV));rw[<-t2];exact Ey rfl (re (aK [ν,rfl] eV)) rfl;rw[<-e3];refine vT c ?_ (by simp);rw[e3];(have f1:fz h2 h.length 8 (.at (h.length+1))=[ϔ,OA]:=by show(bif[NE,h.length+1]then se (D.at (h.length+1))else match eg h2 (h.length+1)with| some (.ml ds)=>Wm (T6 [ZK,h2,7] ds) .lst| _=>ng)=_;rw[show[NE,h.length+1]=fh from fJ.mpr λy=>by have:=cF.mp y;lia,aX,m3];show Wm (T6 [ZK,h2,7] OA) D.lst=_;rw[km λx hx=>iR 7 (jU x hx)];rfl);(have f2:fz h2 h.length 8 (.tup [.lst (('O'.take gs.length).map .bl),.lst (('O'.drop gs.length).map .bl)])=se (.tup [.lst (('O'.take gs.length).map .bl),.lst (('O'.drop gs.length).map .bl)]):=iR 8 λd hd=>by simp only[bi,gW,or_false] at hd;rcases hd with rfl | rfl;intro d hd;obtain⟨x,_,rfl⟩:=PM;trivial;intro d hd;obtain⟨x,_,rfl⟩:=PM;trivial);show Wm (T6 [ZK,h2,8] _) D.tup=_;rw[TW.mpr #[_,_,f1,TW.mpr #[_,_,f2,rfl,rfl],rfl]];rfl
theorem Ly (c:Ϭ)(rz:∀p∈aj,p.1<gs.length/\p.2<ts.length)(hl:gs.length+ts.length<=900)(iD:aj.length<=900)(hp:∀g∈gs++ts,0<=g) :∃ad ac aa,ZD [NW,QP,KD] h=.ok (xbS gs.length ad aa) h/\NAP.Wj [CC,ts.length,aj] (gs++ts) ad ac aa/\aa.length=gs.length+ts.length:=by(obtain⟨ad,ac,aa,q,Dn,sl,_⟩:=zbu (ss:=bh aj.length 0) c rz (by rw[oS]) hl iD (λk s hk=>by grind) λe he=>by unfold Zx;rw[List.take_replicate,Dj,Int.sub_zero];have:=NAM.getD_at (by rwa [eE]);exact hp _ (aM this));refine#[ad,ac,aa,[ώ,[ϣ,aK [Ϣ,[Ϣ,[Ϣ,[ν,aH rfl (aK [ν,rfl] eV) ?_]]]] q]],Dn,sl];exact(mul_one (NAG.gl10 iD)).trans (by rw[yY];rfl)
end
section
variable {h:TH}{i:Nat}{ws:xam}{aG:xag}{ah ae:xat}
noncomputable def xad (ah ae:xat):D:=.tup [TQ ah,TQ ae]
noncomputable def Zm (n:Nat):T4:=.inl (n:Int)
theorem zbk:∀{d:T4} {ks:List T4},d∉ks->xaT d ks=fh:=by intro d ks;induction ks generalizing d with| nil =>rintro _;exact rfl| cons k ks ih =>rintro h;show(kEq k d||xaT d ks)=fh;rw[ih λz=>h (.tail _ z),pi,Tf (show ¬k=d from λz=>h (by rw[z];exact .head _))];rfl
theorem zft:∀{ks:List T4},ks.Nodup->kNd ks=tj:=by intro ks;induction ks with| nil =>rintro _;exact rfl| cons k ks ih =>rintro h;show(!xaT k ks&&kNd ks)=tj;obtain⟨h1,h2⟩:=eW.mp h;rw[zbk h1,ih h2];rfl
theorem LB:∀(l:xat) n x,lk (Zm x) (l.map Zm) ((kc n l.length).map nD)=if x∈l then se (nD (n+l.idxOf x))else none:=by intro l;induction l with| nil =>rintro n x;exact rfl| cons y l ih =>rintro n x;show(bif kEq (Zm y) (Zm x) then se (nD n) else lk (Zm x) (l.map Zm) ((kc (n+1) l.length).map nD))=_;rw[pi,ih (n+1) x];by_cases c:y=x;simp_all;rw[Tf (λz=>c (by have:=z;have:=Sum.inl.inj this;exact NAG.gl87 this))];grind
theorem Ez (x:Nat):lk (Zm x) KM ('c'.map nD)=[Kd,x].map nD:=by rw[xk,LB];unfold NAM.placeOf;split;rw[r4];rfl;rfl
theorem EC {ah:xat}{g:Nat}:∀row:xat,(row.filter λx=>[Kd,x].isSome).map (λx=>ZO (g,[Kd,x].getD 0))=(Wz ah g row).map ZO| []=>rfl| x::row=>by have ih:=EC (ah:=ah) (g:=g) row;unfold Wz at ih ⊢;rw[jZ,rO];cases e:NAM.placeOf ah x with| none=>exact ih| some p=>simp only[Option.isSome_some,if_true,bz,r6,e,BR];rw[ih]
theorem LC:∀(l:xat) n,T6 prK ((l.zipIdx n).map λp=>D.tup [nD p.1,nD p.2])=se (l.map Zm)/\T6 prV ((l.zipIdx n).map λp=>D.tup [nD p.1,nD p.2])=se ((kc n l.length).map nD):=by intro l;induction l with| nil =>rintro n;exact#[rfl,rfl]| cons x l ih =>rintro n;obtain⟨h1,h2⟩:=ih (n+1);exact#[TW.mpr #[_,_,rfl,h1,rfl],TW.mpr #[_,_,rfl,h2,rfl]]
theorem LD {l:xat}(h:l.Nodup):(l.map Zm).Nodup:=by refine List.Pairwise.map _ (λa b h z=>h ?_) h;have:=z;have:=Sum.inl.inj this;exact NAG.gl87 this
theorem LG (z1:fa ρ h=.ok (.at i) h)(z2:h[i]?=[ϓ,l])(z3:fA ρ h=.ok [.lst es] h)(hl:l.length+es.length<=16777216):rExt fa fA ρ h=[Kf,[ϭ,.ml (l++es)]]:=by(have e1:XX h (.at i)=se (i,l):=by grind[XX,aX]);unfold rExt;rw[z1];show T5 (XX h (.at i)) _=_;rw[e1];rw[z3];show T5 (XX h (.at i)) _=_;rw[e1];show Uf [PP,UJ l+UJ es] _=_;rw[aW,aW,QD,jc,gj];rfl
theorem zad {l:xak}:∀d∈l.map ZO,cd n (m+2) d:=λd hd=>by obtain⟨x,_,rfl⟩:=PM;intro d hd;simp only[bi,gW,or_false] at hd;rcases hd with rfl | rfl<;>trivial
theorem ED (c:Ϭ)(hd:ah.Nodup)(hl:ah.length<=20)(cl:ae.length<=20)(rl:∀r∈aG,r.length<=20)(ci:∀c∈ae,c<aG.length) :X8 [Nm,xad ah ae] h=.ok (.lst ((Uh aG ah ae).map ZO)) h:=by refine[ώ,sA (aK [ν,cA (sU [η,rfl,rfl]) v7 (by rw[qI];exact NAG.gl59 hl) (λp hp=>#[_,by unfold YS;rfl,rfl]) (show _=ah.zipIdx.map λp=>.tup [nD p.1,nD p.2]from rfl)] ?_) (sA Zu (sL (fG (λi ρ h1=>∃t4 t5:Option D,ρ=[[ϔ,JW],se (xad ah ae),se (.dic KM ('c'.map nD)),se (.at h.length),t4,t5]/\h++[.ml ((VN aG ah ae i).map ZO)]=h1) (sU [η,rfl,rfl]) (λi ρ h _=>v7 i) (by rw[qI];exact NAG.gl59 cl) #[_,_,rfl,rfl] ?_) ?_))];obtain⟨k1,k2⟩:=LC ah 0;show T5 (T6 prK _) _=_;rw[k1];show T5 (T6 prV _) _=_;rw[k2];show Uf (kNd KM) _=_;rw[zft (LD hd),<-xk];rfl;rintro i q ρ h1 hq ⟨t4,t5,rfl,rfl⟩;rw[oT,kg] at hq;obtain⟨x,hx,rfl⟩:=hq;rw[r4];obtain⟨row,hr⟩:∃row,aG[x]?=se row:=#[_,aV (ci x R7)];(have e1:VN aG ah ae (i+1)=VN aG ah ae i++Wz ah i row:=by grind[VN,Wz,hW]);have qv:=rl row (aM hr);have il:='r'.1;have tl:=sC (ah:=ah) (ae:=ae) rl i;have rt:=Du ah i row;refine#[_,by unfold YS;rfl,?_];refine nE (fQ (LG (l:=(VN aG ah ae i).map ZO) (es:=(Wz ah i row).map ZO) rfl (by simp) [ν,cM (eU (gH (g:=TQ) rfl rfl hr)) cY (NAG.gl59 qv) (λy hy=>#[_,rfl,aO [η,rfl,?_],λhp=>?_]) (EC row)] (by simp;lia))) #[_,_,rfl,?_];show(match lk (Zm y) KM ('c'.map nD)with| some _=>[NK,fh^^tj,_]| none=>[NK,fh^^fh,_])=_;rw[Ez];cases[Kd,y]<;>rfl;have lp:=Ez (ah:=ah) y;obtain⟨pp,hpp⟩:=vh.mp hp;rw[hpp] at lp ⊢;show[mt,[mt,[mt,T5 (lk (Zm y) KM ('c'.map nD)) λd=>R.ok d _]]]=_;rw[lp];rfl;simp_all;rintro ρ h1 ⟨t4,t5,rfl,rfl⟩;exact sR rfl (pn c ϱ (by simp;rfl) zad)
theorem zbm (cl:ae.length<=20)(ci:∀c∈ae,c<ws.length):Z7 [Mm,xad ah ae] h=.ok (.int (V8 ws ae)) h:=by refine[ώ,[ϣ,aK [ν,cA QM cY (NAG.gl59 cl) (λx hx=>#[_,rfl,gH rfl rfl (NAM.getD_at (ci x hx))]) rfl] ?_]];have:=y8 (ae.map λx=>[Mg,x]);rw[cD] at this;show T5 (T6 xac (ae.map λx=>.int [Mg,x])) _=_;rw[show(ae.map λx=>D.int [Mg,x])=List.map (D.int∘λx=>[Mg,x]) ae from rfl,this];show R.ok (D.int (iSum _)) h=_;rw[yJ];rfl
end
section
variable {h t:TH}{ws:xam}{aG:xag}{ah ae:xat}
structure xbQ (ws:xam)(aG:xag):Prop where
 len:aG.length=ws.length
 few:ws.length<=20
 row:∀r∈aG,r.length<=20
 pos:∀x∈ws,1<=x
 bd:∀x∈ws,Bd 300 x
theorem ic (hx:[Gl,x])(hy:[Gl,y]):V0 fh IC JZ h=.ok (.int (x*y)) h:=by show Uf (pMul x y) _=_;unfold pMul;rw[cF.mpr hx,cF.mpr hy];rfl
theorem Bd.up (hx:Bd n x)(h:n<=m):Bd m x:=hZ hx (oY (by decide) h)
theorem zcb {n:Nat}(h:n<=1000):[Gl,n]:=by exact ke h (hZ (show 1000<2^10 by decide) (oY (by decide) (by decide)))
theorem EE (c:Ϭ)(A:xbQ ws aG)(nd:ah.Nodup)(hl:ah.length<=20)(cl:ae.length<=20)(ci:∀c∈ae,c<ws.length) :∃ad ac aa,Zd [Mm,Nm,xad ah ae] h=.ok (xbS (TZ ws ah ae).length ad aa) h/\NAP.Wj (UR (TZ ws ah ae).length [Se,ah,ae].length (Uh aG ah ae)) (TZ ws ah ae++[Se,ah,ae]) ad ac aa/\aa.length=(TZ ws ah ae).length+[Se,ah,ae].length:=by(have glen:(TZ ws ah ae).length=ae.length:=by unfold TZ;simp);(have tlen:[Se,ah,ae].length=ah.length:=by unfold takesIn;simp);have tl:=sC (ah:=ah) (ae:=ae) A.row ae.length;have wp:=λc hc=>A.pos _ (aM (NAM.getD_at (ci c hc)));obtain⟨ad,ac,aa,q,Dn,sl⟩:=Ly (ts:=[Se,ah,ae]) (aj:=Uh aG ah ae) c (λp hp=>by obtain⟨g,t⟩:=p;obtain⟨c,hd,g1,g2,_⟩:=(ki nd g t).mp hp;rw[glen,tlen];grind) (by lia) (by unfold Uh;lia) (λg hg=>by rcases dh.mp hg with hg | hg;unfold TZ at hg;obtain⟨c,hc,rfl⟩:=aU.mp hg;have:=wp c hc;exact jq (by exact Mx) ε;unfold takesIn at hg;rw[w7 hg];unfold V8;exact NAP.xas λi x hx=>by grind);have mo:=mul_one (h:=h) (m:=fh) (x:=.int (V8 ws ae)) (n:=ah.length) (NAG.gl15 hl);rw[show[Jq,D.int (V8 ws ae)]=[Se,ah,ae].map D.int by simp[takesIn]] at mo;refine#[ad,ac,aa,[ώ,sA (aK [ν,[η,rfl,rfl]] eV) (sA (cA (eU [η,rfl,rfl]) cY (NAG.gl59 cl) (λx hx=>#[_,rfl,[η,gH rfl rfl (NAM.getD_at (ci x hx)),ic (Bd.up (A.bd _ (aM (NAM.getD_at (ci x hx)))) (by decide)) (zcb (NAG.gl15 hl))]]) (by simp[TZ])) [ϣ,aK [Ϣ,aI [η,(je [ν,[ϋ,zbm cl ci]] rfl).trans rfl,mo] [ν,[ϋ,ED c nd hl cl A.row (λx hx=>by rw[A.len];exact ci x hx)]]] q])],Dn,sl]
theorem zc6:VI neg (.bl a) Qt h=.ok (.bl (neg^^(a==b))) h:=by cases neg<;>cases a<;>cases b<;>rfl
theorem EF (l:ϐ)(m:QX):('>'.zip (m.map g)).map (λp=>D.tup [p.1,p.2])=(l.zip m).map λp=>D.tup [f p.1,g p.2]:=by rw[List.zip_map,cD];rfl
theorem v8 (hl:xs.length<=900):ZU [TQ xs,.lst SZ,.bl w] h=.ok (TQ (Zl xs bs w)) h:=by refine nZ rfl (jw (uN (sP (l:=xs.zip bs) rfl (λi=>by unfold TQ;rw[D6,EF]) (by grind) λp hp=>#[[se (nD p.1),se (.bl p.2),se (.bl w)],by unfold YS;rfl,aO [η,rfl,by rw[zc6,mW]],λ_=>rfl]) ?_)) rfl;unfold TQ Zl;rw[cD];rfl
end
section
variable {h h':TH}{ag:Nat}{ws:xam}{aG:xag}
noncomputable def crC (c:NAP.Cr):D:=xad c.1 c.2
theorem zb8:cd n (m+3) (crC c):=by intro d hd;simp only[bi,gW,or_false] at hd;rcases hd with rfl | rfl<;>exact tC
theorem zc {l:Jc}:∀d∈l.map crC,cd n (m+3) d:=λd hd=>by obtain⟨x,_,rfl⟩:=PM;exact zb8
theorem zap (c:Ϭ)(hx:∀n,ct n x)(hy:∀n,ct n y):Cl (h++[x,y]):=by have:=(c.app (hx _)).app (hy _);simp_all
theorem EG (z:fT ρ h=[χ,tj]):rIf fT fa fb ρ h=fa ρ h':=by unfold rIf;rw[z];rfl
theorem EH (z:fT ρ h=[χ,fh]):rIf fT fa fb ρ h=fb ρ h':=by unfold rIf;rw[z];rfl
inductive CrI (h:TH) (ws:xam) (aG:xag) (ag:Nat) (P:Jc->Jc->Prop) (ρ:Ul) (h1:TH):Prop
 | mk (t5 t6 t7:R5) (Lc U:Jc) (er:ρ=[[ϔ,SK],[ϔ,JW],[ϒ,(ag:Int)],se (.at h.length),se (.at (h.length+1)),t5,t6,t7]) (eh:h++[.ml (Lc.map crC),.ml (U.map crC)]=h1) (p:P Lc U)
theorem zdT (c:Ϭ)(A:xbQ ws aG)(dk:DoOk ws aG ag):∃L:List NAP.Cr,YX [Mm,Nm,Ka] h=.ok (.lst LP) h/\Yc ws aG ag L:=by have few:=A.few;have mI:=dk.few;obtain⟨ρ2,h2,q2,t5,t6,t7,Lc,_,rfl,cT,rfl,ok⟩:=n8 (fT:=Zs) (fs:=Zp) (ρ:=[[ϔ,SK],[ϔ,JW],[ϒ,(ag:Int)],se (.at h.length),se (.at (h.length+1)),ng,ng,ng]) (h:=h++[.ml [],.ml ((if 0<ag then[(('3',Jv):NAP.Cr)]else[]).map crC)]) (λm=>CrI h ws aG ag λLc U=>(ag=0->Lc=[]/\U=[])/\(0<ag->NAP.Xv J4 OU ag ws.length (Lc++U.reverse))/\(∀c∈Lc,sJ ws aG c)/\m=xaB U) (CrI h ws aG ag λLc U=>U=[]/\Yc ws aG ag Lc) (λm ρ h1 I=>by obtain⟨t5,t6,t7,Lc,U,rfl,rfl,z0,cr0,rst,rfl⟩:=I;refine#[_,_,aO [η,[ϋ,lI XY],gt_int],λz=>?_,λz=>?_];rotate_left;cases(show U=[]by simpa using z);exact#[_,_,_,Lc,_,rfl,rfl,rfl,λz=>(z0 z).1,λz=>by simpa using cr0 z,rst];have cu:=List.ne_nil_of_length_pos (by simpa using z);have m0:=Nat.pos_of_ne_zero λz=>cu (z0 z).2;have cr:=cr0 m0;obtain⟨U',c0,rfl⟩:∃U' c0,U=U'++[c0]:=#[_,_,(AX cu).symm];rw[xr,List.reverse_singleton,List.singleton_append] at cr;(have mU:c0∈Lc++c0::U'.reverse:=by simp);have hcr:=cr.hr c0 mU;have hcc:=cr.cr c0 mU;(have fI:∀x∈c0.2,x<ws.length:=λx hx=>by have e:=cr.cs x;have:=xz.mpr hx;simp only[dz,kb,bz,cq] at e;split at e<;>lia);(have hhl:=lD hcr λx hx=>by have e:=cr.hs x;have:=xz.mpr hx;simp only[dz,kb,bz,cq] at e;split at e<;>lia);have qg:=lD hcc fI;have lf:=Dy cr;rw[eE,fO,List.length_reverse] at lf;obtain⟨ad,ac,aa,qp,Dn,dE⟩:=EE (zap c (x:=.ml (Lc.map crC)) (y:=.ml (U'.map crC)) (λ_=>zc) λ_=>zc) A (pb hcr) (by exact cf hhl mI) (by exact cf qg few) fI;obtain⟨nc,nh,C,mc,mh⟩:=zco hcr hcc fI Dn;(have gl:(TZ ws c0.1 c0.2).length=c0.2.length:=by unfold TZ;simp);(have tl:[Se,c0.1,c0.2].length=c0.1.length:=by unfold takesIn;simp);(have l1':('O'.take (TZ ws c0.1 c0.2).length).length=c0.2.length:=by simp[U0];simp[*]);(have l2':('O'.drop (TZ ws c0.1 c0.2).length).length=c0.1.length:=by simp[U0];simp[*]);unfold xbS at qp;generalize 'O'.take (TZ ws c0.1 c0.2).length=b1 at mc qp l1';generalize 'O'.drop (TZ ws c0.1 c0.2).length=b2 at mh qp l2';rw[dz];refine nA (zcm rfl rfl) (nA [η,[ϋ,qp],rfl] ?_);by_cases hany:b2.any id=tj;obtain⟨b,hb1,hb2⟩:=gU.mp hany;obtain⟨ib,hib⟩:=bH hb1;have hibl:=(aQ.mp hib).1;have hx:c0.1[ib]?=se (c0.1[ib]' ε):=aV ε;have oz:∃h∈c0.1,ϥ=tj:=#[_,R7,by have e:=mh ib _ hx;rw[hib] at e;cases e;exact hb2];obtain⟨pt,pf⟩:=Dw ε mh;obtain⟨qt,qf⟩:=Dw ε mc;refine nT (aO [ϋ,Zg.trans (by rw[hany])]) (nE (Ew rfl rfl (fQ (pr rfl rfl [ν,gY (aI [ϋ,v8 (NAG.gl26 hhl mI)] [ν,[ϋ,v8 (NAG.gl26 qg few)]]) rfl] (by simp;lia))) rfl (fQ (pr rfl rfl [ν,gY (aI [ϋ,v8 (NAG.gl26 hhl mI)] [ν,[ϋ,v8 (NAG.gl26 qg few)]]) rfl] (by simp;lia)))) #[xaB (U'++[NAP.aY c0 nc nh,NAP.Vg c0 nc nh]),?_,_,_,_,Lc,U'++[NAP.aY c0 nc nh,NAP.Vg c0 nc nh],rfl,?_,λz=>absurd z ε,λ_=>?_,rst,rfl]);obtain⟨mJ,kD,h3'⟩:=oz;obtain⟨r1',r2',r3'⟩:=C.far #[mJ,kD,h3'];(have lens:(c0.1.filter nh).length+(c0.1.filter λh=>! ϥ).length=c0.1.length:=by have:=List.length_eq_countP_add_countP nh (l:=c0.1);simp only[List.countP_eq_length_filter,AL,decide_eq_true_eq,Bool.decide_eq_false] at this;exact this.symm);have p1:=w8 (bB.mpr #[kD,h3']);have p2:=w8 (bB (p:=λh=>! ϥ).mpr #[r2',by rw[r3'];rfl]);unfold xaB NAP.aY NAP.Vg;simp;exact NAG.gl27 p2 p1 lens;rw[pf,qf,pt,qt];simp[crC,NAP.aY,NAP.Vg,xad];rw[xr];exact NAP.Xv.cut (sH A.pos) cr C oz;(have kO:∀x∈c0.1,nh x=fh:=λx hx=>by obtain⟨ix,hix⟩:=bH hx;have e:=mh ix x hix;cases z:nh x with| false=>rfl| true =>rw[z] at e;exact absurd (gU.mpr #[tj,aM e,rfl]) hany);refine nF (aO [ϋ,Zg.trans (by rw[fJ.mpr hany])]) (nE (fQ (pr (k:=0) rfl rfl rfl (by simp;lia))) #[xaB U',?_,_,_,_,Lc++[c0],U',rfl,?_,λz=>absurd z ε,λ_=>?_,λd hd=>?_,rfl]);have:=fM.mpr (cr.ne c0 mU);unfold xaB;simp;lia;simp;rwa [eF];rcases dh.mp hd with hd | hd;exact rst d hd;rw[cO.mp hd];exact za6 C kO (cr.own c0 mU)) #[ng,ng,ng,[],_,rfl,rfl,λz=>#[rfl,by rw[S9 ε]],λz=>by rw[LN];exact zaZ dk z,λc hc=>(by cases hc),rfl];refine#[Lc,[ώ,sA Zu (sA (d:=.at (h.length+1)) (h1:=h++[.ml [],.ml ((if 0<ag then[(('3',Jv):NAP.Cr)]else[]).map crC)]) ?_ ?_)],ok];by_cases z:0<ag;rw[LN];refine(EG (aO [η,rfl,by rw[gt_int,Tc ε]])).trans ((je [ν,gY (aI (Ec (NAG.gl15 mI) rfl) [ν,Ec (NAG.gl15 few) [ϋ,eV]]) rfl] rfl).trans ?_);show R.ok (D.at (hn _)) (hp _ _)=_;rw[gm,gq,eF,eE];rfl;rw[Sg];refine(EH (aO [η,rfl,by rw[gt_int,Tf (by simp[*])]])).trans (Zu.trans ?_);rw[eF,eE];rfl;exact sG q2 (sR rfl (cT▸pn c ϱ (yZ rfl) zc))
end
end NAY
namespace NAM
open PySem NAL NAL.EX
noncomputable def WS (M:Int) (L:List (Nat×(xaE))) (h:Nat):Int:=(L.map λx=>if x.1=h then vl M x.2 else 0).sum
noncomputable def Uv (aG:xag) (mM:xab):List (Nat×(xaE)):=(aG.zip mM).flatMap λx=>x.1.zip x.2
def LdB (M:Int)(L:List (Nat×(xaE)))(qs:xaj):Prop:=∀(h:Nat) q,qs[h]?=Ϡ->ZI q/\q.1*M=q.2*WS M L h
theorem EI {aG:xag}{mM:xab}(hr:aG[i]?=ϊ)(hs:mM[i]?=ϫ):[PX,i+1,mM.take (i+1)]=[PX,i,mM.take i]++'i':=by unfold Uv;have hi:=(aQ.mp hr).1;have hi2:=(aQ.mp hs).1;rw[take_snoc hr,take_snoc hs,nH (by rw[jr,jr];exact NAG.gl34 hi hi2),xt];simp
structure ShOk (M:Int)(aG:xag)(ag:Nat)(mM:xab):Prop where
 len:mM.length=aG.length
 few:aG.length<=20
 row:∀(i:Nat) r s,aG[i]?=ϊ->mM[i]?=ϫ->s.length=r.length/\r.length<=12/\∀h∈r,h<ag
 ok:∀s∈mM,∀p∈s,LY/\p.2∣M/\Bd 600 p.1
 hM:0<M
 bM:Bd 600 M
def FV (M:Int)(p:xaE)(X:Int):Prop:=LY/\p.1*M=p.2*X
section
variable {M:Int}{p q:xaE}{X Y:Int}
theorem FV.uniq (hM:0<M)(a:FV M p X)(b:FV M q X):p=q:=by refine zbq a.1 b.1 ?_;refine lW (by exact dF hM) ?_;have e1:=a.2;have e2:=b.2;grind
theorem FV.lt (hM:0<M)(a:FV M p X)(b:FV M q Y):p.1*q.2<q.1*p.2↔X<Y:=by have e1:=a.2;have e2:=b.2;have p1:=a.1.1;have q1:=b.1.1;have pos:0<p.2*q.2:=kX (by assumption) (by assumption);(have c1:p.1*q.2*M=X*(p.2*q.2):=by grind);(have c2:q.1*p.2*M=Y*(p.2*q.2):=by grind);constructor;intro h;have:=qz h hM;simp_all;intro h;have:=qz h pos;rw[<-c1,<-c2] at this;exact uP this (by exact cE hM)
theorem FV.plus (a:FV M p X)(b:FV M q Y)(he:1<=e)(hg:bQ n e=1)(h:n*(p.2*q.2)=(p.1*q.2+q.1*p.2)*e):FV M (n,e) (X+Y):=by refine#[#[he,hg],?_];have p1:=a.1.1;have q1:=b.1.1;have pos:=Int.mul_ne_zero (by exact dF p1) (by exact dF q1);refine lW pos ?_;(have:n*M*(p.2*q.2)=n*(p.2*q.2)*M:=by grind);rw[this,h];(have:(p.1*q.2+q.1*p.2)*e*M=(p.1*M)*q.2*e+(q.1*M)*p.2*e:=by exact NAG.gl50);rw[this,a.2,b.2];grind
theorem FV.zero:FV M (0,1) 0:=#[#[lT,by decide],by simp]
theorem FV.bd (hM:0<M)(bM:Bd 600 M)(bX:Bd 1300 X)(a:FV M p X):Bd 1300 p.1/\Bd 600 p.2:=by have e:=a.2;rw[hO p.2] at e;obtain⟨l1,l2⟩:=C9 a.1.2 (by exact dF hM) e;exact#[bX.of_le l1,bM.of_le l2]
theorem FV.whole (hM:0<M)(a:FV M p (w*M)):p=(w,1):=by refine FV.uniq hM a #[#[lT,by simp],by simp]
end
structure FVs (M:Int)(ps:xaj)(Xs:xam):Prop where
 len:ps.length=Xs.length
 at_:∀(i:Nat) p X,ps[i]?=ϕ->Xs[i]?=se X->FV M p X
 hM:0<M
 bM:Bd 600 M
 bX:∀X∈Xs,Bd 1220 X
 few:Xs.length<=30
theorem FVs.get (f:FVs M ps Xs){i:Nat}(h:ps[i]?=ϕ):∃X,Xs[i]?=se X/\FV M p X/\Bd 1220 X:=by have hx:Xs[i]?=se (Xs[i]'(by rw[<-f.len];exact 'l'.1)):=aV _;exact#[_,hx,f.at_ i p _ h hx,f.bX _ R7]
theorem zdE {k:Nat}:∀(l:xam),(∀x∈l,Bd k x)->l.sum.natAbs<=l.length*2^k:=by intro r;induction r with| nil =>rintro _;simp| cons x r ih =>rintro h;have a:=h x aR;have b:=ih λy hy=>h y (a7 _ hy);rw[cq,fO,xO,xM];have:=AS x r.sum;have a':x.natAbs<2^k:=a;lia
theorem za1 (h:x.natAbs<=n*2^k)(hn:n<=64):Bd (k+7) x:=by show x.natAbs<2^(k+7);have:n*2^k<=64*2^k:=vd _ hn;grind
theorem zed {l:xam}(h:∀x∈l,Bd k x)(hl:l.length<=64):Bd (k+7) l.sum:=za1 (zdE l h) hl
theorem zff (l:xam)(x:Int):(l++[x]).sum=l.sum+x:=ε
theorem LU {l:xam}(h:∀x∈l,Bd k x)(hl:l.length<=64)(i:Nat):Bd (k+7) (l.take i).sum:=zed (λx hx=>h x (List.mem_of_mem_take hx)) (by grind)
theorem zdu {q:Int}(h1:1<=q)(h2:q<=20):q∣232792560:=by obtain⟨n,rfl⟩:=kT (show 0<=q by exact cE h1);(have k:∀n:Fin 21,1<=n.val->(n.val:Int)∣232792560:=by decide);exact k #[n,by lia] (by lia)
end NAM
namespace NAY
open PySem NAL NAL.EX NAL.RX NAM
section
variable {h:TH}{a b:Int}{p q:xaE}
noncomputable def UO (p:xaE):D:=.tup [.int p.1,.int p.2]
theorem ie (h0:y≠0)(hl:y.natAbs.log2<9000):Xk IC JZ h=.ok (.int (x.fdiv y)) h:=by show Uf (pDiv x y) _=_;unfold pDiv;rw[lF,Tf h0,cF.mpr hl];rfl
theorem tD:xbs [IC] h=.ok (.int (if x<0 then-x else x)) h:=by show R.ok (D.int (bif iLt x 0 then-x else x)) h=_;rw[gX];simp_all
theorem zd:Wd [.int a,.int b] h=.ok (.int (bQ a b)) h:=by obtain⟨ρ2,h2,q2,rfl,l,r,rfl⟩:=n8 (fT:=YK) (fs:=YH) (λm ρ h1=>h=h1/\∃(g l:Int) (r:Option D),ρ=[[ϒ,a],[ϒ,b],[ϒ,g],[ϒ,l],r]/\0<=g/\0<=l/\bQ g l=bQ a b/\m=l.toNat) (fun ρ h1=>h=h1/\∃(l:Int) (r:Option D),ρ=[[ϒ,a],[ϒ,b],[ϒ,bQ a b],[ϒ,l],r]) (λm ρ h1 I=>by obtain⟨rfl,g,l,r,rfl,hg,hl,e,rfl⟩:=I;by_cases c:0<l;have:=mZ g c;exact#[tj,h,aO [η,rfl,n9 c],λ_=>nA [η,rfl,mod_int c] (nA rfl (nE (jd rfl rfl) #[(g%l).toNat,NAG.gl24 c this,rfl,l,g%l,_,rfl,hl,kU _ (by exact dF c),by rw[Db hg c,e],rfl])),λz=>(nomatch z)];(have e0:=by exact NAG.gl23 hl c);subst e0;exact#[fh,h,aO [η,rfl,oa c],λz=>(nomatch z),λ_=>#[rfl,0,r,by rw[<-e,De hg]]]) #[rfl,_,_,ng,rfl,vH a,vH b,Dc a b,rfl];exact[ώ,sA (aK [ν,rfl] tD) (sA (aK [ν,rfl] tD) (sG q2 [ϣ,rfl]))]
theorem zdm:Xo [.int a] h=.ok ϻ h:=nZ rfl rfl rfl
theorem zcM (hb:b≠0)(hB:Bd 9000 b):∃p,Ze [.int a,.int b] h=.ok LH h/\LY/\p.1*b=a*p.2:=by obtain⟨j,hj⟩:∃j,j=if b<0 then-((bQ a b):Int)else(bQ a b):=#[_,rfl];obtain⟨h1,h2,h3,h4,h5⟩:=yo hb hj;have W:∀{x:Int} {fT:RT} {ρ:Ul} {fa:RE},fa ρ h=.ok IC h->rOr (WV (TJ (Ui Xo (Tg fa Tk)))) fT ρ h=fT ρ h:=λz=>v3 (tw (aO (aK [ν,z] zdm)));refine#[(K9,Nl),[ώ,sF ((W rfl).trans ((W rfl).trans (aO [η,rfl,qX hb]))) (sA (aK [Ϣ,[ν,rfl]] zd) (sG (ρ1:=[[ϒ,a],[ϒ,b],[ϒ,j]]) ?_ [ϣ,gY (aI [η,rfl,ie h1 (qT hB h2 h1)] [ν,[η,rfl,ie h1 (qT hB h2 h1)]]) rfl]))],#[h3,h4],h5];by_cases c:b<0;rw['-'] at hj;exact(iI (aO [η,rfl,qY c])).trans (hj▸rfl);rw[Cx] at hj;exact(lG (aO [η,rfl,qZ c])).trans (hj▸rfl)
theorem zar (hp:LY)(hq:ZI q)(ba:Bd 4000 p.1)(bb:Bd 4000 p.2)(bc:Bd 4000 q.1)(bd:Bd 4000 q.2):∃r,Wx [LH,UO q] h=.ok (UO r) h/\ZI r/\r.1*(p.2*q.2)=(p.1*q.2+q.1*p.2)*r.2:=by obtain⟨a,b⟩:=p;obtain⟨c,d⟩:=q;obtain⟨m1,m2,m3,m4,m5,m6,m7,m8⟩:=JX hp.1 hq.1 hp.2 hq.2 rfl rfl rfl;have gp:=sw (a:=b) (b:=d) (by lia);have dv1:=zd (h:=h) (a:=b) (b:=d);generalize hg:(bQ b d)=g at *;have lg:=qT (bd.le (by decide)) m2 m1;have bg:=bd.of_le m2;have b1:=bd.of_le (yq gp);have b2:=bb.of_le (yq gp);have ep:=sw (a:=a*Pj+c*Jj) (b:=g) (by assumption);have dv2:=zd (h:=h) (a:=a*Pj+c*Jj) (b:=g);have q1:=ie (h:=h) (x:=d) m1 lg;have q2:=ie (h:=h) (x:=b) m1 lg;have x1:=ic (h:=h) (ba.le (show 4000<=4096 by decide)) (b1.le (show 4000<=4096 by decide));have x2:=ic (h:=h) (bc.le (show 4000<=4096 by decide)) (b2.le (show 4000<=4096 by decide));generalize he:(bQ (a*Pj+c*Jj) g)=e at *;have le:=qT (bg.le (by decide)) m5 m4;have b3:=bd.of_le (yq ep);have q3:=ie (h:=h) (x:=a*Pj+c*Jj) m4 le;have q4:=ie (h:=h) (x:=d) m4 le;have x3:=ic (h:=h) (b2.le (show 4000<=4096 by decide)) (b3.le (show 4000<=4096 by decide));exact#[((a*Pj+c*Jj).fdiv e,Jj*PW),[ώ,sA (aK [Ϣ,[ν,rfl]] dv1) (sA (aH (aH rfl [η,rfl,q1] x1) (aH rfl [η,rfl,q2] x2) rfl) (sA (aK [Ϣ,[ν,rfl]] dv2) [ϣ,gY (aI [η,rfl,q3] [ν,aH [η,rfl,q2] [η,rfl,q4] x3]) rfl]))],#[m6,m7],m8]
end
end NAY
namespace NAM
open PySem NAL NAL.EX
theorem nV (h:∀e<n,f e<=g e)(k:[Jg,g]<=[Jg,f]):∀e<n,f e=g e:=by rw[vP,vP] at k;intro e he;exact NAP.sum_eqI (λx hx=>h x MF) k e (dA.mpr he)
section
variable {gs ts ad ac aa:xam}{aj:xak}
theorem tE:(UR G T aj).ends=aj.map λp=>(p.1,G+p.2):=rfl
theorem EJ (W:[CC,ts.length,aj].WF)(F:NAP.Flow [CC,ts.length,aj] (gs++ts) ad ac)(b:Bool):NAP.upTo (λe=>if decide (e<gs.length)=b then[NM,[CC,ts.length,aj].ends,ad]else 0) (gs.length+ts.length)=ad.sum:=by have lo:=NAP.Zb (S:=λe=>decide (decide (e<gs.length)=b)) W.two F.ls;(have e1:NAP.upTo (λe=>if decide (e<gs.length)=b then[NM,[CC,ts.length,aj].ends,ad]else 0) (gs.length+ts.length)=NAP.upTo (λe=>if decide (decide (e<gs.length)=b)=tj then[NM,[CC,ts.length,aj].ends,ad]else 0) (gs.length+ts.length):=NAP.Tx λe he=>by by_cases c:decide (e<gs.length)=b;rw['-',Ta (Tc c)];rw[Cx,S9 (λz=>c (Td z))]);rw[e1];refine lo.trans ?_;rw[<-NAP.ZJ F.ls];congr 1;refine cH λq hq=>?_;obtain⟨k,hk⟩:=bH (cg hq).1;have:=W.lo k q.1 hk;have g1:q.1.1<gs.length:=this.1;(have g2:¬q.1.2<gs.length:=by have:=this.2.1;exact xP.mpr this);rw[Tc g1,Tf g2];cases b<;>simp
theorem LZ (W:[CC,ts.length,aj].WF)(F:NAP.Flow [CC,ts.length,aj] (gs++ts) ad ac)(h:gs.sum<=ad.sum):∀g<gs.length,NAP.load [CC,ts.length,aj].ends ad g=gs.getD g 0:=by have s:=EJ W F tj;have k:=nV (f:=λe=>if decide (e<gs.length)=tj then[NM,[CC,ts.length,aj].ends,ad]else 0) (g:=λe=>if decide (e<gs.length)=tj then(gs++ts).getD e 0 else 0) (n:=gs.length+ts.length) (λe he=>by split;exact(F.load_le he).1;exact lT) (by rw[s,NAP.Xe];(have z:NAP.upTo (λe=>if decide (gs.length+e<gs.length)=tj then(gs++ts).getD (gs.length+e) 0 else 0) ts.length=0:=by rw[NAP.Tx (g:=λ_=>0) λe _=>S9 (by simp),NAP.UD]);(have y:NAP.upTo (λe=>if decide (e<gs.length)=tj then(gs++ts).getD e 0 else 0) gs.length=gs.sum:=by rw[NAP.Tx (g:=λe=>gs.getD e 0) λe he=>by rw[Ta (Tc he),yx he],vP];have:=yF (λx:Int=>x) 0 gs;rw[this,vc]);rw[z,y];simp_all);intro g hg;have:=k g (by lia);rw[Tc hg,Nk,Nk,yx hg] at this;exact this
theorem zbh (W:[CC,ts.length,aj].WF)(F:NAP.Flow [CC,ts.length,aj] (gs++ts) ad ac)(h:ts.sum<=ad.sum):∀t<ts.length,NAP.load [CC,ts.length,aj].ends ad (gs.length+t)=ts.getD t 0:=by have k:=nV (f:=λe=>if decide (e<gs.length)=fh then[NM,[CC,ts.length,aj].ends,ad]else 0) (g:=λe=>if decide (e<gs.length)=fh then(gs++ts).getD e 0 else 0) (n:=gs.length+ts.length) (λe he=>by split;exact(F.load_le he).1;exact lT) (by rw[EJ W F fh,NAP.Xe];(have z:NAP.upTo (λe=>if decide (e<gs.length)=fh then(gs++ts).getD e 0 else 0) gs.length=0:=by rw[NAP.Tx (g:=λ_=>0) λe he=>S9 ε,NAP.UD]);(have y:NAP.upTo (λe=>if decide (gs.length+e<gs.length)=fh then(gs++ts).getD (gs.length+e) 0 else 0) ts.length=ts.sum:=by rw[NAP.Tx (g:=λe=>ts.getD e 0) λe he=>by rw[Ta (by simp),yz],vP];have:=yF (λx:Int=>x) 0 ts;rw[this,vc]);simp_all);intro t ht;have:=k (gs.length+t) ε;rwa [Tf ε,Nk,Nk,yz] at this
theorem zbs (hn:c.1.Nodup)(cn:c.2.Nodup)(rst:sJ ws aG c)(wp:∀x∈ws,1<=x)(lg:gs.length=c.2.length)(D:NAP.Wj [CC,ts.length,Uh aG c.1 c.2] (gs++ts) ad ac aa) :∃nh:Nat->Bool,c.1.length*NAP.upTo (λg=>if[MS,g]then UG ws (c.2.getD g 0)else 0) c.2.length<=[tv,c]*NAP.cnt c nh/\NAP.cnt c nh<=c.1.length/\0<=NAP.cnt c nh/\∀v:Int,NAP.upTo (λj=>if[MS,gs.length+j]then v else 0) c.1.length=v*NAP.cnt c nh:=by refine#[λh=>[MS,gs.length+c.1.idxOf h],?_,?_,?_,λv=>?_];refine hK (uO ?_ ε) (rst λh=>[MS,gs.length+c.1.idxOf h]);(have e:NAP.upTo (λg=>if[MS,g]then UG ws (c.2.getD g 0)else 0) c.2.length=(c.2.map λx=>if[MS,c.2.idxOf x]then UG ws x else 0).sum:=by grind[NAP.W9,NAP.Tx,kj,NAP.VW]);rw[e];unfold NAP.Yk;refine NAP.Za λx hx=>?_;have wpx:=sH wp x;by_cases z:[MS,c.2.idxOf x]=tj;(have all:(c.1.all λh=>(!(UP aG x).contains h||[MS,gs.length+c.1.idxOf h]))=tj:=iO.mpr λh hh=>by cases q:(UP aG x).contains h with| false=>rfl| true =>have lx:=gF hx;(have gx:c.2[c.2.idxOf x]?=ω:=ε);(have gh:c.1[c.1.idxOf h]?=se h:=by grind);obtain⟨k,hk⟩:=bH ((ki hn _ _).mpr #[x,h,gx,gh,kY.mp q]);have:=D.aj _ _ _ #[(c.2.idxOf x,gs.length+c.1.idxOf h),by rw[tE,bo,hk];rfl,.inl #[rfl,rfl]] (show c.2.idxOf x<gs.length by simp_all) z;rw[this];rfl);lia;lia;(have:∀l:xat,(l.map λh=>if[MS,gs.length+c.1.idxOf h]=tj then(1:Int)else 0).sum<=l.length:=λl=>by induction l with| nil=>simp| cons x r ih =>grind);exact this c.1;refine zcX λx hx=>?_;grind;unfold NAP.cnt;rw[NAP.Yi,<-NAP.W9];refine NAP.Tx λg hg=>?_;grind
theorem zc4:NAP.upTo (λg=>wk (c.2.getD g 0)) c.2.length=NAP.WE wk c:=NAP.W9 _
theorem zdS (S:Nat->Bool)(f:Nat->Int)(n:Nat):[Jg,λg=>if S g then 0 else f g]=[Jg,f]-[Jg,λg=>if S g then f g else 0]:=by induction n with| zero=>rfl| succ n ih =>show NAP.upTo (λg=>if S g then 0 else f g) n+(if S n then 0 else f n)=(NAP.upTo f n+f n) - (NAP.upTo (λg=>if S g then f g else 0) n+(if S n then f n else 0));rw[ih];split<;>lia
theorem EK (f:Nat->Int)(k:Int)(n:Nat):[Jg,λg=>f g*k]=[Jg,f]*k:=by induction n with| zero=>show 0=0*k;rw[lX]| succ n ih =>show _+_=(_+_)*k;rw[ih,oP]
theorem EL {v:Int}(h:j<n):(bh n v).getD j 0=v:=ε
end
noncomputable def WH (H:Hp) (S:LM):Hp:=λb=>if b∈S then ng else H b
section
end
noncomputable def Wi {α:Type} (aG:xag) (c:NAP.Cr) (ss:ϐ):List (Nat×Nat×α):=((Uh aG c.1 c.2).zip ss).map λt=>(c.2.getD t.1.1 0,(UP aG (c.2.getD t.1.1 0)).idxOf (c.1.getD t.1.2 0),t.2)
noncomputable def Vd {α:Type} (aG:xag) (no:α):Nv:=aG.map λr=>bh r.length no
noncomputable def Ve {α:Type} (aG:xag) (L:Jc) (bP:Nv) (no:α):Nv:=(':'.flatMap λx=>Wi aG x.1 x.2).foldl NAP.VY (Vd aG no)
section
end
inductive TripAt {α:Type} (aG:xag) (c:NAP.Cr) (ss:ϐ) (t:Nat×Nat×α):Prop
 | mk (g p x hd:Nat) (h1:((g,p),t.2.2)∈(Uh aG c.1 c.2).zip ss) (h2:c.2[g]?=ω) (h3:c.1[p]?=se hd) (h4:hd∈UP aG x) (h5:t.1=x) (h6:t.2.1=(UP aG x).idxOf hd)
theorem oh (hn:c.1.Nodup)(h:t∈Wi aG c ss):TripAt aG c ss t:=by obtain⟨u,hu,rfl⟩:=Qm;obtain⟨x,hd,h1,h2,h3⟩:=(ki hn u.1.1 u.1.2).mp (cg hu).1;refine#[u.1.1,u.1.2,x,hd,hu,h1,h2,h3,KR,?_];rw[KR,NAP.UE h2]
theorem ze (aG:xag)(no:α):[OG,λx=>(UP aG x).length,Vd aG no]:=by unfold Vd;refine#[bq ..,λx hx=>?_];show _=(aG.getD x []).length;simp_all
structure xbh (ws:xam)(aG:xag)(c:NAP.Cr):Prop where
 nd:c.1.Nodup
 cn:c.2.Nodup
 hl:c.1.length<=20
 cl:c.2.length<=20
 ci:∀x∈c.2,x<ws.length
 n0:0<c.1.length
 rst:sJ ws aG c
noncomputable def Xh {α:Type} (f:α->Int) (aj:xak) (ss:ϐ) (P:Nat×Nat->Bool):Int:=((aj.zip ss).map λq=>if P q.1 then f q.2 else 0).sum
theorem L9 (hg:g<G):NAP.load (aj.map λp=>(p.1,G+p.2)) ss g=Xh id aj ss (λp=>p.1==g):=by rw[NAP.xaA];rw[rR,cD];congr 1;refine cH λq _=>?_;show(if NAP.inc (q.1.1,G+q.1.2) g then q.2 else 0)=if(q.1.1==g)=tj then q.2 else 0;(have:NAP.inc (q.1.1,G+q.1.2) g=(q.1.1==g):=by unfold NAP.inc;lia);rw[this]
theorem Ma (hp:∀p∈aj,p.1<G):NAP.load (aj.map λp=>(p.1,G+p.2)) ss (G+t)=Xh id aj ss (λp=>p.2==t):=by rw[NAP.xaA];rw[rR,cD];congr 1;refine cH λq hq=>?_;have:=hp q.1 (cg hq).1;show(if NAP.inc (q.1.1,G+q.1.2) (G+t)then q.2 else 0)=if(q.1.2==t)=tj then q.2 else 0;(have:NAP.inc (q.1.1,G+q.1.2) (G+t)=(q.1.2==t):=by unfold NAP.inc;lia);rw[this]
theorem Yc.crowdP (C:Yc ws aG ag L)(hm:ag<=20)(hw:ws.length<=20)(hc:c∈L):xbh ws aG c:=by obtain⟨a,b,d,e,f⟩:=C.lt hc;exact#[pb e,pb f,cf (lD e a) hm,cf (lD f b) hw,b,fM.mpr d,C.rst c hc]
theorem zf {L:Jc}(nd:(L.flatMap f).Nodup){i j x:Nat}(hi:L[i]?=ϛ)(hj:L[j]?=ϩ)(hx:x∈f c)(hy:x∈f d):i=j:=by have pw:=(xg.mp nd).2;rw[rL] at pw;obtain⟨li,rfl⟩:='U';obtain⟨lj,rfl⟩:='Z';rcases oZ i j with h | h | h;exact[Oq,pw i j li lj h x hx x hy];exact h;exact[Oq,pw j i lj li h x hy x hx]
theorem Mb (g:Nat)(nr:row.Nodup):(Wz ah g row).Nodup:=by refine List.Pairwise.filterMap _ (λa b qy p hp q hq=>?_) nr;cases ha:[Kd,a]with| none=>simp_all| some u =>cases hb:[Kd,b]with| none=>simp_all| some v =>rw[ha] at hp;rw[hb] at hq;cases hp;cases hq;have h1:=yB ha;have h2:=yB hb;lia
theorem zcf (hn:ah.Nodup)(nr:∀r∈aG,r.Nodup):∀i:Nat,(VN aG ah ae i).Nodup:=by intro i;induction i with| zero =>simp[VN]| succ i ih =>rw[VN,k7];refine#[ih,Mb i ?_,λa ha b hb e=>?_];all_goals grind[bO,aV,ka,gf,Dt,Ds]
theorem zg:∀{l:List α} {m:List β},l.Pairwise R->(l.zip m).Pairwise λx y=>R x.1 y.1| [],_,_=>by simp| _::_,[],_=>by simp| a::l,b::m,h=>by have h':=u5.mp h;exact u5.mpr #[λy hy=>h'.1 y.1 (cg hy).1,zg h'.2]
section
variable {α:Type}{aG:xag}{L:Jc}{bP:Nv}
structure xbY (aG:xag)(L:Jc):Prop where
 nr:∀r∈aG,r.Nodup
 nd:∀c∈L,c.1.Nodup/\c.2.Nodup/\∀x∈c.2,x<aG.length
 cd:(L.flatMap (·.2)).Nodup
 hd:(L.flatMap (·.1)).Nodup
theorem zbS {ss:ϐ}(nr:∀r∈aG,r.Nodup)(hn:c.1.Nodup)(cn:c.2.Nodup):(Wi aG c ss).Pairwise λt u=>¬(t.1=u.1/\t.2.1=u.2.1):=by unfold Wi;rw[Bk];refine BI (λ{a b} ha hb qy=>?_) (zg (m:=ss) (zcf (ae:=c.2) hn nr c.2.length));rintro⟨e1,e2⟩;obtain⟨x,h,h1,h2,h3⟩:=(ki hn a.1.1 a.1.2).mp (cg ha).1;obtain⟨y,k,k1,k2,k3⟩:=(ki hn b.1.1 b.1.2).mp (cg hb).1;dsimp only at e1 e2;rw[KR,NAP.UE k1] at e1;subst e1;rw[KR,NAP.UE k1,NAP.UE h2,NAP.UE k2] at e2;(have ek:h=k:=by rw[<-u6 (gF h3),<-u6 (gF k3)];congr 1);subst ek;exact qy (Prod.ext (by rw[<-kj cn h1,<-kj cn k1]) (by rw[<-kj hn h2,<-kj hn k2]))
theorem zh (h:xbY aG L)(hl:bP.length=L.length)(w0:∀x k,W x k no=0) :[OG,λx=>(UP aG x).length,Ve aG L bP no]/\NAP.S2 no aG.length (λx=>(UP aG x).length) W (Ve aG L bP no)=(':'.map λx=>((Wi aG x.1 x.2).map λt=>W t.1 t.2.1 t.2.2).sum).sum:=by(have at0:∀x k,NAP.at2 no (Vd aG no) x k=no:=λx k=>by simp only[NAP.at2,Vd,bO,bo];cases aG[x]? with| none=>rfl| some r=>simp only[r6,BR,nq];split<;>rfl);(have bnd:∀t∈':'.flatMap λx=>Wi aG x.1 x.2,t.1<aG.length/\t.2.1<(UP aG t.1).length:=λt ht=>by obtain⟨u,hu,hu2⟩:=jO.mp ht;have hc:=h.nd u.1 (cg hu).1;obtain⟨_,_,x,hd,_,z1,_,z3,z4,z5⟩:=oh hc.1 hu2;rw[z4,z5];exact#[hc.2.2 x QC,gF z3]);(have pw:(':'.flatMap λx=>Wi aG x.1 x.2).Pairwise λt u=>¬(t.1=u.1/\t.2.1=u.2.1):=by rw[xg];refine#[λu hu=>?_,?_];have hc:=h.nd u.1 (cg hu).1;exact zbS h.nr hc.1 hc.2.1;refine BI (λ{a b} ha hb qy t ht u hu=>?_) (zg (xg.mp h.cd).2);have ca:=h.nd a.1 (cg ha).1;have cb:=h.nd b.1 (cg hb).1;obtain⟨_,_,x,_,_,z1,_,_,z4,_⟩:=oh ca.1 ht;obtain⟨_,_,y,_,_,y1,_,_,y4,_⟩:=oh cb.1 hu;rintro⟨e,_⟩;rw[z4,y4] at e;exact qy x QC y (aM y1) e);obtain⟨s1,s2⟩:=NAP.fold_S2 w0 _ _ (ze aG no) bnd pw λt _=>at0 t.1 t.2.1;refine#[s1,?_];(have z0:NAP.S2 no aG.length (λx=>(UP aG x).length) W (Vd aG no)=0:=by unfold NAP.S2;simp only[at0,w0,NAP.Xa]);unfold Ve;rw[s2,z0,m9];(have fl:∀l:List (NAP.Cr× ϐ),((l.flatMap λx=>Wi aG x.1 x.2).map λt=>W t.1 t.2.1 t.2.2).sum=(l.map λx=>((Wi aG x.1 x.2).map λt=>W t.1 t.2.1 t.2.2).sum).sum:=λl=>by induction l with| nil=>rfl| cons a r ih=>simp_all);exact fl _
theorem zd1 (h:xbY aG L)(hl:bP.length=L.length)(f0:f no=0){i g x:Nat}(hc:L[i]?=ϛ)(hs:bP[i]?=se ss)(hg:c.2[g]?=ω):(((Ve aG L bP no).getD x []).map f).sum=Xh f (Uh aG c.1 c.2) ss λp=>p.1==g:=by(obtain⟨sh,e⟩:=zh h hl (W:=λy k a=>if y=x then f a else 0) λy k=>by rw[f0];split<;>rfl);have xl:=(h.nd c JS).2.2 x (aM hg);(have lhs:NAP.S2 no aG.length (λx=>(UP aG x).length) (λy k a=>if y=x then f a else 0) (Ve aG L bP no)=(((Ve aG L bP no).getD x []).map f).sum:=by unfold NAP.S2;have o:=NAP.xar (λ_=>0) (λy=>((aT (UP aG y).length).map λk=>if y=x then f (NAP.at2 no (Ve aG L bP no) y k)else 0).sum) x (λy hy=>by rw[cH (λk _=>S9 hy),NAP.Xa]) aG.length xl;rw[NAP.Xa,m9,Int.sub_zero] at o;rw[o];simp only[if_true];have ln:((Ve aG L bP no).getD x []).length=(UP aG x).length:=sh.2 x xl;rw[<-ln];have:=yF f no ((Ve aG L bP no).getD x []);rw[<-this];rfl);rw[lhs] at e;rw[e];rw[NAP.xaq ((bU (z:=(c,ss))).mpr #[hc,hs]) λj z hz hj=>?_];unfold Wi Xh;rw[cD];congr 1;refine cH λq hq=>?_;obtain⟨y,hd,h1,h2,h3⟩:=(ki (h.nd c JS).1 q.1.1 q.1.2).mp (cg hq).1;show(if c.2.getD q.1.1 0=x then f q.2 else 0)=if(q.1.1==g)=tj then f q.2 else 0;rw[KR];have cn:=(h.nd c JS).2.1;by_cases z:q.1.1=g;simp_all;have:¬y=x:=λe=>z (by rw[<-kj cn h1,<-kj cn hg,e]);simp_all;obtain⟨z1,z2⟩:=(bU).mp hz;(have:∀t∈Wi aG z.1 z.2,(λt=>if t.1=x then f t.2.2 else 0) t=0:=λt ht=>by obtain⟨_,_,y,_,_,y1,_,_,y4,_⟩:=oh (h.nd z.1 QC).1 ht;refine S9 λe=>hj ?_;rw[y4] at e;subst e;exact zf h.cd z1 hc (aM y1) (aM hg));rw[cH this,NAP.Xa]
theorem v9 (F:β×γ->Int)(d:β)(e:γ):∀{r:List β} {s:List γ},s.length=r.length->('i'.map F).sum=((aT r.length).map λk=>F (r.getD k d,s.getD k e)).sum:=λ{r s} hl=>by congr 1;refine xF (by simp[hl]) λk h1 h2=>?_;(have h1:=by simpa using h2);simp[bO,h1,hl▸h1]
noncomputable def bagF (f:α->Int) (l:List (Nat×α)) (h:Nat):Int:=(l.map λx=>if x.1=h then f x.2 else 0).sum
noncomputable def xbV (aG:xag) (R:Nv):List (Nat×α):=(aG.zip R).flatMap λx=>x.1.zip x.2
theorem Mf (h:xbY aG L)(hl:bP.length=L.length)(f0:f no=0){i p h0:Nat}(hc:L[i]?=ϛ)(hs:bP[i]?=se ss)(hp:c.1[p]?=se h0):bagF f (xbV aG (Ve aG L bP no)) h0=Xh f (Uh aG c.1 c.2) ss λq=>q.2==p:=by(obtain⟨sh,e⟩:=zh h hl (W:=λx k a=>if(UP aG x).getD k 0=h0 then f a else 0) λy k=>by rw[f0];split<;>rfl);(have lhs:NAP.S2 no aG.length (λx=>(UP aG x).length) (λx k a=>if(UP aG x).getD k 0=h0 then f a else 0) (Ve aG L bP no)=bagF f (xbV aG (Ve aG L bP no)) h0:=by unfold NAP.S2 bagF xbV;(have fl:∀l:List (List Nat× ϐ),((l.flatMap λx=>x.1.zip x.2).map λx=>if x.1=h0 then f x.2 else 0).sum=(l.map λx=>((x.1.zip x.2).map λx=>if x.1=h0 then f x.2 else 0).sum).sum:=λl=>by induction l with| nil=>rfl| cons a r ih=>simp_all);rw[fl,v9 _ [] [] sh.1];congr 1;refine cH λx hx=>?_;rw[v9 _ 0 no (show((Ve aG L bP no).getD x []).length=(aG.getD x []).length from sh.2 x MF)];rfl);rw[lhs] at e;rw[e];(have val:∀{x hd:Nat},hd∈UP aG x->(UP aG x).getD ((UP aG x).idxOf hd) 0=hd:=λ{x hd} hm=>by grind);rw[NAP.xaq ((bU (z:=(c,ss))).mpr #[hc,hs]) λj z hz hj=>?_];unfold Wi Xh;rw[cD];congr 1;refine cH λq hq=>?_;have hn:=(h.nd c JS).1;obtain⟨y,hd,h1,h2,h3⟩:=(ki hn q.1.1 q.1.2).mp (cg hq).1;show(if(UP aG (c.2.getD q.1.1 0)).getD ((UP aG (c.2.getD q.1.1 0)).idxOf (c.1.getD q.1.2 0)) 0=h0 then f q.2 else 0)=if(q.1.2==p)=tj then f q.2 else 0;rw[KR,NAP.UE h2,val h3];by_cases z:q.1.2=p;simp_all;have:¬hd=h0:=λe=>z (by rw[<-kj hn h2,<-kj hn hp,e]);simp_all;obtain⟨z1,z2⟩:=(bU).mp hz;(have:∀t∈Wi aG z.1 z.2,(λt=>if(UP aG t.1).getD t.2.1 0=h0 then f t.2.2 else 0) t=0:=λt ht=>by obtain⟨_,_,y,hd,_,y1,y2,y3,y4,y5⟩:=oh (h.nd z.1 QC).1 ht;refine S9 λe=>hj ?_;rw[y4,y5,val y3] at e;subst e;exact zf h.hd z1 hc (aM y2) (aM hp));rw[cH this,NAP.Xa]
end
theorem Yc.rowsH (C:Yc ws aG ag L)(h0:0<ag)(hl:aG.length=ws.length)(nr:∀r∈aG,r.Nodup):xbY aG L:=by refine#[nr,λc hc=>?_,?_,?_];obtain⟨a,b,d,e,f⟩:=C.lt hc;exact#[pb e,pb f,λx hx=>by rw[hl];exact b x hx];have:=yC C h0;unfold Y5 at this;rw[pd] at this;exact this.nodup_iff.mpr u9;have:=vL C h0;unfold Zc at this;rw[pd] at this;exact this.nodup_iff.mpr u9
theorem zaf (C:Yc ws aG ag L)(h0:0<ag):∃ps qs,Zw ws L ps/\Yv ag L ps qs:=by(have gz:∀c∈L,∃p:xaE,LY/\p.1*c.1.length=[tv,c]*p.2:=λc hc=>by have n0:0<c.1.length:=fM.mpr (C.lt hc).2.2.1;obtain⟨_,_,h3,h4,h5⟩:=yo (NAG.gl28 n0) rfl;exact#[(_,_),#[h3,h4],h5]);(have pf:∃pf:NAP.Cr->xaE,∀c∈L,ZI (pf c)/\(pf c).1*c.1.length=[tv,c]*(pf c).2:=by refine#[λc=>if h:c∈L then Classical.choose (gz c h)else(0,1),λc hc=>?_];simp only[hc,dif_pos];exact Classical.choose_spec (gz c hc));obtain⟨pf,hpf⟩:=pf;have hp:=vL C h0;unfold Zc at hp;rw[pd] at hp;(have ex:∀h<ag,∃c,c∈L/\h∈c.1:=λh hh=>by obtain⟨c,hc,iL⟩:=jO.mp (hp.mem_iff.mpr (dA.mpr hh));exact#[c,hc,iL]);refine#[L.map pf,'3'.map λh=>if hh:h<ag then pf (Classical.choose (ex h hh))else(0,1),#[bq ..,λi c p hc d5=>?_],#[by rw[bq,k6],λi c p hc d5 h hh=>?_]];rw[bo,hc] at d5;cases d5;exact hpf c JS;rw[bo,hc] at d5;cases d5;have fI:=(C.lt JS).1 h hh;rw[bo,kZ fI];simp only[r6,fI,dif_pos];obtain⟨z1,z2⟩:=Classical.choose_spec (ex h fI);obtain⟨j,hj⟩:=bH z1;have:=zf (hp.nodup_iff.mpr u9) hj hc z2 hh;subst this;rw[hc] at hj;cases hj;rfl
theorem Mh (pc:xbh ws aG c)(wp:∀x∈ws,1<=x) (D:NAP.Wj (UR (TZ ws c.1 c.2).length [Se,c.1,c.2].length (Uh aG c.1 c.2)) (TZ ws c.1 c.2++[Se,c.1,c.2]) ad ac aa) :ad.length=(Uh aG c.1 c.2).length/\(∀s∈ad,0<=s)/\(∀g<c.2.length,Xh id (Uh aG c.1 c.2) ad (λp=>p.1==g)=[Mg,c.2.getD g 0]*c.1.length)/\∀t<c.1.length,Xh id (Uh aG c.1 c.2) ad (λp=>p.2==t)=[tv,c]:=by(have gl:(TZ ws c.1 c.2).length=c.2.length:=by unfold TZ;rw[bq]);(have lt:[Se,c.1,c.2].length=c.1.length:=by unfold takesIn;rw[oS]);(have ewt:V8 ws c.2=[tv,c]:=by unfold V8 NAP.WE;rw[cH λx hx=>(vQ (pc.ci x hx)).symm]);(have tie:∀p∈Uh aG c.1 c.2,p.1<c.2.length/\p.2<c.1.length:=λp hp=>by obtain⟨x,h,h1,h2,_⟩:=(ki pc.nd p.1 p.2).mp hp;exact#['4'.1,(aQ.mp h2).1]);(have W:=yw (G:=(TZ ws c.1 c.2).length) (T:=[Se,c.1,c.2].length) λp hp=>by rw[gl,lt];exact tie p hp);obtain⟨nh,k1,k2,k3,k4⟩:=zbs pc.nd pc.cn pc.rst wp gl D;have b:=D.bnd W;rw[zch,gl,lt] at b;(have gat:∀g<c.2.length,(TZ ws c.1 c.2).getD g 0=UG ws (c.2.getD g 0)*c.1.length:=λg hg=>by unfold TZ;rw[bO,bo,NAP.VW hg];show[Mg,c.2.getD g 0]*_=_;rw[vQ (pc.ci _ (aM (NAP.VW hg)))]);(have e1:NAP.upTo (λe=>if[MS,e]=tj then 0 else(TZ ws c.1 c.2).getD e 0) c.2.length=[tv,c]*c.1.length-NAP.upTo (λg=>if[MS,g]=tj then UG ws (c.2.getD g 0)else 0) c.2.length*c.1.length:=by rw[<-zc4,<-EK,<-EK];(have z:NAP.upTo (λg=>(if[MS,g]=tj then UG ws (c.2.getD g 0)else 0)*c.1.length) c.2.length=NAP.upTo (λg=>if[MS,g]=tj then UG ws (c.2.getD g 0)*c.1.length else 0) c.2.length:=NAP.Tx λg _=>by split;rfl;exact lX _);rw[z,<-zdS];refine NAP.Tx λg hg=>?_;rw[gat g hg]);(have e2:NAP.upTo (λj=>if[MS,c.2.length+j]=tj then[Se,c.1,c.2].getD j 0 else 0) c.1.length=[tv,c]*NAP.cnt c nh:=by rw[<-k4,gl];refine NAP.Tx λj hj=>?_;unfold takesIn;rw[EL hj,ewt]);rw[e1,e2] at b;(have big:[tv,c]*c.1.length<=ad.sum:=by lia);(have gsum:(TZ ws c.1 c.2).sum=[tv,c]*c.1.length:=by unfold TZ NAP.WE;rw[NAP.YM];congr 1;refine cH λx hx=>?_;rw[vQ (pc.ci x hx)]);(have tsum:[Se,c.1,c.2].sum=[tv,c]*c.1.length:=by unfold takesIn;rw[ewt];generalize c.1.length=m;induction m with| zero=>simp| succ m ih =>grind);have gv:=LZ W D.flow (by rwa [gsum]);have tk:=zbh W D.flow (by rwa [tsum]);rw[gl] at gv;rw[lt,gl] at tk;refine#[by have:=D.flow.ls;rwa [tE,bq] at this,λs hs=>?_,λg hg=>?_,λt ht=>?_];obtain⟨k,hk⟩:=bH hs;exact D.flow.nn k s hk;have:=gv g hg;rwa [tE,L9 hg,gat g hg,vQ (pc.ci _ (aM (NAP.VW hg)))] at this;have:=tk t ht;rw[tE,Ma (λp hp=>(tie p hp).1)] at this;rw[this];unfold takesIn;rw[EL ht,ewt]
structure xbX (ws:xam)(aG:xag)(c:NAP.Cr)(ss:xaj):Prop where
 len:ss.length=(Uh aG c.1 c.2).length
 ok:∀p∈ss,LY/\0<=p.1/\p.2∣(c.1.length:Int)/\Bd 330 p.1
 gv:∀M:Int,(c.1.length:Int)∣M->0<M->∀g<c.2.length,Xh (vl M) (Uh aG c.1 c.2) ss (λp=>p.1==g)=[Mg,c.2.getD g 0]*M
 tk:∀M:Int,(c.1.length:Int)∣M->0<M->∀t<c.1.length,Xh (vl M) (Uh aG c.1 c.2) ss (λp=>p.2==t)*c.1.length=[tv,c]*M
theorem zeX (pc:xbh ws aG c)(hb:∀s∈ad,Bd 330 s) (h1:ad.length=(Uh aG c.1 c.2).length) (h2:∀s∈ad,0<=s) (h3:∀g<c.2.length,Xh id (Uh aG c.1 c.2) ad (λp=>p.1==g)=[Mg,c.2.getD g 0]*c.1.length) (h4:∀t<c.1.length,Xh id (Uh aG c.1 c.2) ad (λp=>p.2==t)=[tv,c]) (sl:ss.length=ad.length) (sp:∀(k:Nat) p s,ss[k]?=ϕ->ad[k]?=ϫ->LY/\p.1*c.1.length=s*p.2):xbX ws aG c ss:=by(have n0:(0:Int)<c.1.length:=by have:=pc.n0;simp_all);(have one:∀k p s,ss[k]?=ϕ->ad[k]?=ϫ->p.2∣(c.1.length:Int)/\∀M,(c.1.length:Int)∣M->vl M p*c.1.length=s*M:=λk p s hp hs=>by obtain⟨l,e⟩:=sp k p s hp hs;have d:=(vE l.2 e).1;refine#[d,λM hM=>?_];have p1:=l.1;refine lW (a:=p.2) (by exact dF p1) ?_;(have a1:vl M p*(c.1.length:Int)*p.2=vl M p*p.2*c.1.length:=by grind);rw[a1,yE (qD d hM)];(have a2:p.1*M*(c.1.length:Int)=p.1*c.1.length*M:=by grind);rw[a2,e];grind);(have tl:∀M,(c.1.length:Int)∣M->∀P:Nat×Nat->Bool,Xh (vl M) (Uh aG c.1 c.2) ss P*c.1.length=Xh id (Uh aG c.1 c.2) ad P*M:=λM hM P=>by unfold Xh;rw[NAP.YM,NAP.YM];have z:(0,1)=((0:Int),1):=rfl;rw[v9 _ (0,0) (0,1) (by rwa [sl]),v9 _ (0,0) 0 (by assumption)];congr 1;refine cH λk hk=>?_;grind);refine#[by rwa [sl],λp hp=>?_,λM hM m0 g hg=>?_,λM hM m0 t ht=>?_];obtain⟨k,hk⟩:=bH hp;have kG:=(aQ.mp hk).1;have hs:ad[k]?=se [KQ,0]:=getD_at (by rwa [<-sl]);obtain⟨l,e⟩:=sp k p _ hk hs;have p1:=l.1;refine#[l,?_,(one k p _ hk hs).1,(hb _ (aM hs)).of_le (C9 l.2 (by exact dF n0) e).1];refine wZ (a:=(c.1.length:Int)) ?_ n0;rw[lX,e];exact jq (h2 _ (aM hs)) (by exact cE p1);refine lW (a:=(c.1.length:Int)) (by exact dF n0) ?_;rw[tl M hM,h3 g hg];grind;rw[tl M hM,h4 t ht]
theorem Mj:∀(T:List (Nat×Nat × α)) R,NAP.Shp n ln R->(∀t∈T,t.1<n/\t.2.1<ln t.1)->∀x k,NAP.at2 no (T.foldl NAP.VY R) x k=NAP.at2 no R x k\/∃t∈T,t.1=x/\t.2.1=k/\NAP.at2 no (T.foldl NAP.VY R) x k=t.2.2:=by intro T;induction T with| nil =>rintro R _ _ x k;exact .inl rfl| cons t T ih =>rintro R s hb x k;obtain⟨b1,b2⟩:=hb t aR;rw[qJ];rcases ih (NAP.VY R t) (s.put b1) (λu hu=>hb u (a7 _ hu)) x k with h | ⟨u,hu,h1,h2,h3⟩;rw[h,NAP.ZX s b1 b2 x k];grind;grind
structure EvenR (ws:xam)(aG:xag)(ag:Nat)(R:xab)(qs:xaj):Prop where
 len:R.length=aG.length
 row:∀(i:Nat) r s,aG[i]?=ϊ->R[i]?=ϫ->s.length=r.length
 sum:∀M:Int,0<M->232792560∣M->∀(i:Nat) s,R[i]?=ϫ->(s.map (vl M)).sum=[Mg,i]*M
 ok:∀s∈R,∀p∈s,LY/\0<=p.1/\p.2∣232792560/\Bd 330 p.1
 load:∀M:Int,0<M->232792560∣M->∀(h:Nat) q,qs[h]?=Ϡ->FV M q (WS M (Uv aG R) h)
 even:∀(i:Nat) r s,aG[i]?=ϊ->R[i]?=ϫ->∀(k:Nat) p h,s[k]?=ϕ->r[k]?=se h->0<p.1->∀h'∈r,∀q q',qs[h]?=Ϡ->qs[h']?=se q'->q.1*q'.2<=q'.1*q.2
theorem zdz {ps qs:xaj}(C:Yc ws aG ag L)(h0:0<ag)(hm:ag<=20)(hw:ws.length<=20)(hl:aG.length=ws.length)(nr:∀r∈aG,r.Nodup)(wp:∀x∈ws,1<=x)(sl:bP.length=L.length)(pk:∀(i:Nat) c ss,L[i]?=ϛ->bP[i]?=se ss->xbX ws aG c ss) (lo:Zw ws L ps) (lk:Yv ag L ps qs):EvenR ws aG ag (Ve aG L bP (0,1)) qs:=by have rh:=C.rowsH h0 hl nr;have sh:=(zh rh sl (no:=(0,1)) (W:=λ_ _ _=>0) λ_ _=>rfl).1;(have c20:∀c∈L,(c.1.length:Int)∣232792560:=λc hc=>by have p:=C.crowdP hm hw hc;exact zdu (by have:=p.n0;lia) (by have:=p.hl;lia));have v0:∀M,vl M (0,1)=0:=λM=>lX _;(have Zl:∀i c,L[i]?=ϛ->∃ss,bP[i]?=se ss/\xbX ws aG c ss:=λi c hc=>by have hi:=(aQ.mp hc).1;have hs:bP[i]?=se (bP[i]' ε):=aV _;exact#[_,hs,pk i c _ hc hs]);(have qv:∀(i:Nat) r s,aG[i]?=ϊ->(Ve aG L bP (0,1))[i]?=ϫ->s.length=r.length:=λi r s hr hs=>by(have es:(Ve aG L bP (0,1)).getD i []=s:=by rw[bO,hs];rfl);(have er:UP aG i=r:=by unfold UP;rw[bO,hr];rfl);have:((Ve aG L bP (0,1)).getD i []).length=(UP aG i).length:=sh.2 i (aQ.mp hr).1;rwa [es,er] at this);refine#[sh.1,qv,λM hM hd i s hs=>?_,?_,λM hM hd h q hq=>?_,λi r s hr hs k p h hp hh pos h' iL q q' hq iy=>?_];(have es:(Ve aG L bP (0,1)).getD i []=s:=by rw[bO,hs];rfl);have cp:=yC C h0;unfold Y5 at cp;rw[pd] at cp;obtain⟨c,hc,iL⟩:=jO.mp (cp.mem_iff.mpr (dA.mpr (by rw[<-hl,<-sh.1];exact(aQ.mp hs).1)));obtain⟨j,hj⟩:=bH hc;obtain⟨g,hg⟩:=bH iL;obtain⟨ss,p4,pk1⟩:=Zl j c hj;have rs:=zd1 rh sl (f:=vl M) (no:=(0,1)) (v0 M) hj p4 hg;rwa [es,pk1.gv M (qD (c20 c hc) hd) hM g (aQ.mp hg).1,NAP.UE hg] at rs;refine NAP.fold_all (P:=λp=>LY/\0<=p.1/\p.2∣232792560/\Bd 330 p.1) (no:=(0,1)) #[#[by decide,by decide],by decide,by decide,by show(0:Int).natAbs<_;exact Nat.pow_pos (by decide)] (':'.flatMap λx=>Wi aG x.1 x.2) (Vd aG (0,1)) (λt ht=>?_) (λr hr a ha=>?_);obtain⟨u,hu,hu2⟩:=jO.mp ht;obtain⟨i,hi⟩:=bH hu;obtain⟨z1,z2⟩:=(bU (z:=u)).mp hi;obtain⟨_,_,_,_,z3,_⟩:=oh (rh.nd u.1 QC).1 hu2;obtain⟨a,b,d,e⟩:=(pk i u.1 u.2 z1 z2).ok _ (cg z3).2;exact#[a,b,qD d (c20 u.1 QC),e];unfold Vd at hr;obtain⟨x,_,rfl⟩:=aU.mp hr;rw[w7 ha];exact#[#[by decide,by decide],by decide,by decide,by show(0:Int).natAbs<_;exact Nat.pow_pos (by decide)];obtain⟨i,c,p,hc,hp,iL,iy⟩:=lk.of_hand lo C h0 (by rw[<-lk.len];exact '7'.1);rw[hq] at iy;cases iy;obtain⟨t,ht⟩:=bH iL;obtain⟨ss,p4,pk1⟩:=Zl i c hc;have tk:=pk1.tk M (qD (c20 c JS) hd) hM t (aQ.mp ht).1;rw[<-Mf rh sl (no:=(0,1)) (v0 M) hc p4 ht] at tk;obtain⟨l1,l2⟩:=lo.at_ i c q hc hp;refine#[l1,?_];(have n0:0<c.1.length:=by have:=(C.crowdP hm hw JS).n0;assumption);refine lW (a:=c.1.length) (NAG.gl28 n0) ?_;have eb:WS M (Uv aG (Ve aG L bP (0,1))) h=bagF (vl M) (xbV aG (Ve aG L bP (0,1))) h:=rfl;rw[eb,i6 q.2,tk];(have:q.1*M*c.1.length=q.1*c.1.length*M:=by grind);rw[this,l2];grind;(have bnd:∀t∈':'.flatMap λx=>Wi aG x.1 x.2,t.1<aG.length/\t.2.1<(UP aG t.1).length:=λt ht=>by obtain⟨u,hu,hu2⟩:=jO.mp ht;have hc:=rh.nd u.1 (cg hu).1;obtain⟨_,_,x,hd,_,z1,_,z3,z4,z5⟩:=oh hc.1 hu2;rw[z4,z5];exact#[hc.2.2 x QC,gF z3]);(have er:UP aG i=r:=by unfold UP;rw[bO,hr];rfl);(have ep:NAP.at2 (0,1) (Ve aG L bP (0,1)) i k=p:=by unfold NAP.at2;rw[show(Ve aG L bP (0,1)).getD i []=s by rw[bO,hs];rfl,bO,hp];rfl);rcases Mj (no:=(0,1)) _ (Vd aG (0,1)) (ze aG (0,1)) bnd i k with z | ⟨t,ht,t1,t2,t3⟩;(have:NAP.at2 ((0:Int),(1:Int)) (Vd aG (0,1)) i k=(0,1):=by unfold NAP.at2 Vd;rw[bO (l:=aG.map _),bo,hr];show(bh r.length ((0:Int),(1:Int))).getD k (0,1)=_;rw[bO,nq];split<;>rfl);unfold Ve at ep;rw[z,this] at ep;rw[<-ep] at pos;exact absurd pos (by decide);obtain⟨u,hu,hu2⟩:=jO.mp ht;obtain⟨j,hj⟩:=bH hu;obtain⟨z1,z2⟩:=(bU (z:=u)).mp hj;obtain⟨g,pp,x,hd,_,y1,y2,y3,y4,y5⟩:=oh (rh.nd u.1 QC).1 hu2;rw[t1] at y4;subst y4;(have ek:hd=h:=by rw[t2,er] at y5;rw[er] at y3;(have q1:r[r.idxOf hd]?=se hd:=by rw[aV (gF y3)];simp);rw[<-y5,hh] at q1;exact(dU q1).symm);subst ek;(have M0:0<xax ps:=Dz λp d5=>by obtain⟨a,ha⟩:=bH d5;have hal:=(aQ.mp ha).1;rw[lo.len] at hal;exact(lo.at_ a _ p (aV hal) ha).1.1);have S:=lk.sol lo C h0 wp M0 λp d5=>sK d5;obtain⟨j2,d,jle,hd2,hin2⟩:=S.up j u.1 z1 i (aM y1) h' (by rwa [er]);(have dv:∀g q,qs[g]?=Ϡ->ZI q/\q.2∣xax ps:=λg q hg=>by obtain⟨a,c,p,b1,b2,b3,b4⟩:=lk.of_hand lo C h0 (by rw[<-lk.len];exact(aQ.mp hg).1);rw[hg] at b4;cases b4;exact#[(lo.at_ a c q b1 b2).1,sK (aM b2)]);obtain⟨q1,q2⟩:=dv hd q hq;obtain⟨q3,q4⟩:=dv h' q' iy;exact zcL M0 q1.1 q3.1 (yD hq q2) (yD iy q4) (S.falls (j-j2) j2 hd2 (by rwa [show j2+(j-j2)=j by simp_all]) h' hin2 hd (aM y2))
end NAM
namespace NAY
open PySem NAL NAL.EX NAL.RX NAM
section
variable {h h':TH}{i:Nat}{ws:xam}{aG:xag}{c:NAP.Cr}
theorem EM {γ δ:Type}{emb:δ->D}{P:γ->δ->Prop}{l:Tm}{g:γ->D}{nx:Nx}{fi:RI}{fg:RG}{fa:RE}{ρ:Ul}{N:μ}{n:Nat}{fr:xat}{b:Bool}(he:fi ρ h=[χ,nx])(hx:∀i,nx h' i=se ('N'[i]?))(hl:l.length<1000)(hs:∀a∈l,∃ ρ1 x,fg (g a) (bh n ng++eFr ρ fr)=Yr/\fa ρ1 h'=[χ,emb x]/\P a x) :∃xs:List δ,Wv N b fi n fr fg UB fa ρ h=mk b (xs.map emb) h'/\xs.length=l.length/\∀(i:Nat) a x,l[i]?=Ϸ->xs[i]?=ω->P a x:=by cases l with| nil=>exact#[[],vU (v:=λ_=>.non) he hx hl λa ha=>(by cases ha),rfl,λi a x z=>by simp at z]| cons a0 l =>obtain⟨_,x0,_⟩:=hs a0 (.head _);(have:∃v:γ->δ,∀a∈a0::l,∃ ρ1,fg (g a) (bh n ng++eFr ρ fr)=Yr/\fa ρ1 h'=[χ,emb (v a)]/\P a (v a):=by(have K:∀a,∃x,a∈a0::l->∃ ρ1,fg (g a) (bh n ng++eFr ρ fr)=Yr/\fa ρ1 h'=[χ,emb x]/\P a x:=λa=>by by_cases m:a∈a0::l;obtain⟨ρ1,x,q⟩:=hs a m;exact#[x,λ_=>#[ρ1,q]];exact#[x0,λz=>absurd z m]);exact#[λa=>Classical.choose (K a),λa ha=>Classical.choose_spec (K a) ha]);obtain⟨v,hv⟩:=this;refine#[(a0::l).map v,?_,by rw[bq],λi a x h1 h2=>?_];rw[cD];exact vU he hx hl λa ha=>let #[ρ1,e1,e2,_]:=hv a ha;#[ρ1,e1,e2];rw[bo,h1] at h2;cases h2;obtain⟨_,_,_,z⟩:=hv a (aM h1);exact z
theorem zdh (cl:Ϭ)(A:xbQ ws aG)(pc:xbh ws aG c):∃ss:xaj,XG [Mm,Nm,crC c] h=.ok (.lst (ss.map UO)) h/\xbX ws aG c ss:=by have hl:=pc.hl;have jx:=pc.cl;have n0:=pc.n0;obtain⟨ad,ac,aa,q,D,dE⟩:=EE cl A pc.nd hl jx pc.ci;obtain⟨e1,e2,e3,e4⟩:=Mh pc A.pos D;(have sb:∀s∈ad,Bd 330 s:=λs hs=>by obtain⟨k,hk⟩:=bH hs;have kG:=(aQ.mp hk).1;have ht:(Uh aG c.1 c.2)[k]?=se ((Uh aG c.1 c.2)[k]' ε):=aV _;generalize(Uh aG c.1 c.2)[k]'(by rwa [<-e1])=tp at ht;obtain⟨x,hd,z1,z2,_⟩:=(ki pc.nd tp.1 tp.2).mp (aM ht);(have gl:(TZ ws c.1 c.2).length=c.2.length:=by unfold TZ;rw[bq]);(have tl:[Se,c.1,c.2].length=c.1.length:=by unfold takesIn;rw[oS]);have l1:=(aQ.mp z1).1;have lU:=DC D.flow.nn (show(UR (TZ ws c.1 c.2).length [Se,c.1,c.2].length (Uh aG c.1 c.2)).ends[k]?=se (tp.1,(TZ ws c.1 c.2).length+tp.2)by rw[tE,bo,ht];rfl) hk;have mR:=(D.flow.load_le (by show tp.1<_+_;rw[gl,tl];exact NAG.gl91 l1)).1;rw[yx (by rwa [gl])] at mR;(have gv:(TZ ws c.1 c.2).getD tp.1 0=[Mg,x]*c.1.length:=by unfold TZ;rw[bO,bo,z1];rfl);have s0:=e2 s hs;refine(((A.bd _ (aM (NAM.getD_at (pc.ci x QC)))).mul (show Bd 6 c.1.length by show _<_;lia)).le (by decide)).of_le ?_;rw[gv] at mR;dsimp only at lU;lia);have tl:=sC (ah:=c.1) (ae:=c.2) A.row c.2.length;(have sl:ad.length<=400:=by rw[e1];unfold Uh;lia);(obtain⟨ss,qc,ssl,sp⟩:=EM (h:=h) (P:=λs p=>LY/\p.1*c.1.length=s*p.2) (fi:=J8) (fg:=ϝ) (fa:=Ui Ze [lP,Tg (Ui Ur (Tg [σ,[΢,0]] Tk)) Tk]) (ρ:=[[ϔ,SK],[ϔ,JW],se (crC c),[ϔ,OA]]) (n:=1) (fr:=[2]) rfl cY (by lia) λs hs=>by obtain⟨p,qp,lp,ep⟩:=zcM (NAG.gl28 n0) ((show Bd 6 c.1.length by show _<_;lia).le (by decide));exact#[[[ϒ,s],se (crC c)],p,rfl,aK [Ϣ,[ν,aK [ν,rfl] eV]] qp,lp,ep]);exact#[ss,[ώ,sA [η,aK [Ϣ,[Ϣ,[ν,rfl]]] q,rfl] [ϣ,qc]],zeX pc sb e1 e2 e3 e4 (by assumption) λk p s hp hs=>sp k s p hs hp]
end
section
variable {h:TH}{i:Nat}{aG:xag}{c:NAP.Cr}{α:Type}{emb:α->D}{R:Nv}
noncomputable def ssD (emb:α->D) (ss:ϐ):D:=.lst (ss.map emb)
noncomputable def hR (emb:α->D) (h:TH) (R:Nv):TH:=h++R.map λrow=>.ml (row.map emb)
theorem wa (e:R[x]?=se row):(hR emb h R)[h.length+x]?=[ϓ,row.map emb]:=by unfold hR;rw[hU ε,show h.length+x-h.length=x by simp_all,bo,e];rfl
theorem EN:(hR emb h R).set (h.length+x) (.ml (row.map emb))=hR emb h (R.set x row):=by grind[hR,qG,qL]
theorem Mn (c:Ϭ)(he:∀n a,cd n 8 (emb a)):Cl (hR emb h R):=λo ho=>by unfold hR at ho ⊢;rw[eE];rcases dh.mp ho with ho | ho;exact pj (by exact jP ..) (c o ho);obtain⟨row,_,rfl⟩:=aU.mp ho;intro d hd;obtain⟨a,_,rfl⟩:=PM;exact DX (k:=1) 8 (he _ a)
theorem EO:∀m i h,(∀r∈aG,r.length<=20)->i<=aG.length->aG.length<i+m->rCg (X4 Nm) ϝ UB (TP (V0 tj) (Un fh (Tg ο Tk)) (Ui Ur (Tg ξ Tk))) [ng,se no] m i h=.ok ((aT (aG.length-i)).map λk=>.at (h.length+k)) (h++(aG.drop i).map λr=>.ml (bh r.length no))| 0,i,h,_,h1,h2=>absurd h2 (by simp[*])| m+1,i,h,rl,h1,h2=>by rw[qV,cY,bo];by_cases lt:i<aG.length;have e0:=aV lt;rw[e0];have rl0:=rl _ (aM e0);have ih:=EO (no:=no) m (i+1) (h++[.ml (bh aG[i].length no)]) rl lt Pm;have mo:=mul_one (h:=h) (m:=tj) (x:=no) (NAG.gl15 rl0);have e1:TP (V0 tj) (Un fh (Tg ο Tk)) (Ui Ur (Tg ξ Tk)) [se (TQ aG[i]),se no] h=.ok (.at h.length) (h++[.ml (bh aG[i].length no)]):=aH (je [ν,rfl] rfl) (aK [ν,rfl] eV) (mo.trans (by show[P5,D.at Id,h,_]=_;rw[gm,gq]));show[mt,R.nox (TP (V0 tj) (Un fh (Tg ο Tk)) (Ui Ur (Tg ξ Tk)) [se (TQ aG[i]),se no] h)]=_;rw[e1];show[mt,rCg (X4 Nm) ϝ UB (TP (V0 tj) (Un fh (Tg ο Tk)) (Ui Ur (Tg ξ Tk))) [ng,se no] m (i+1) (h++[.ml (bh aG[i].length no)])]=_;rw[ih];show R.ok (D.at h.length::_) _=_;rw[show aG.length-i=(aG.length-(i+1))+1 from NAG.gl14 lt,qF,bz,cD,eF,uV lt,bz];simp[Function.comp_def,xL,BL];simp_all
theorem zcH:∀{l:xat} {x:Nat},x∈l->xaF (x:Int) (l.map λn:Nat=>(n:Int))=se (l.idxOf x):=by intro l;induction l with| nil =>rintro x h;cases h| cons y l ih =>rintro x h;show(bif iEq y x then se 0 else Wm (xaF x (l.map λn:Nat=>n)) jb)=_;rw[lF,List.idxOf_cons];by_cases c:y=x;simp_all;(have hx:x∈l:=by grind);rw[Tf (show ¬(y:Int)=x by lia),ih hx,show(y==x)=fh from beq_eq_false_iff_ne.mpr c];rfl
theorem Mp {x:Nat}(z1:fa ρ h=.ok (TQ l) h)(z2:fA ρ h=.ok [IC] h)(m:x∈l):rIdx fa fA ρ h=.ok (.int (l.idxOf x)) h:=by unfold rIdx;rw[z1];show[mt,fA ρ h]=_;rw[z2];show T5 (T6 xac SB) _=_;rw[show SB=(l.map λn:Nat=>(n:Int)).map D.int by rw[cD];rfl,y8];grind[T5,xaF,zcH]
theorem Mq (c:Ϭ)(he:∀n a,cd n 7 (emb a)):[Ms,.lst ((aT R.length).map λk=>.at (h.length+k)),hR emb h R]=.ok (.lst [Mu,emb]) h:=by by_cases z:R=[];subst z;unfold hR;rw[oX,k8];exact Lf;(have e1:fz (hR emb h R) h.length 9 (.lst ((aT R.length).map λk=>.at (h.length+k)))=[ϔ,[Mu,emb]]:=by show Wm (T6 [ZK,hR emb h R,8] _) D.lst=_;rw[show[Mu,emb]=(aT R.length).map λk=>ssD emb (R.getD k [])from by apply jY;intro i;rw[bo,bo];by_cases hi:i<R.length;rw[kZ hi,aV hi];simp[hW,aV hi];rw[gf ε,gf ε];rfl];rw[mj λk hk=>?_];rfl;have hk:=dA.mp hk;(have hr:R[k]?=se (R.getD k []):=by rw[bO,aV hk];rfl);show(bif[NE,h.length+k]then se (D.at (h.length+k))else match eg (hR emb h R) (h.length+k)with| some (.ml ds)=>Wm (T6 [ZK,hR emb h R,7] ds) .lst| _=>ng)=_;rw[show[NE,h.length+k]=fh from fJ.mpr λy=>by have:=cF.mp y;lia,aX,wa hr];show Wm (T6 [ZK,hR emb h R,7] ((R.getD k []).map emb)) D.lst=_;rw[km λx hx=>by obtain⟨a,_,rfl⟩:=NB;exact iR 7 (he _ a)];rfl);exact vT c e1 ε
theorem pD {g:γ->D}{l:QX}(i:Nat):nZp [.lst '>',.lst (m.map g)] h i=se (((l.zip m).map λp=>D.tup [f p.1,g p.2])[i]?):=by rw[D6,EF]
theorem Mr (cl:Ϭ)(he:∀n a,cd n 7 (emb a))(dfew:aG.length<=20)(pU:∀r∈aG,r.length<=20)(mO:L.length<=20)(lok:∀c∈L,c.1.Nodup/\c.1.length<=20/\c.2.length<=20/\∀x∈c.2,x<aG.length)(sl:bP.length=L.length)(sok:∀(i:Nat) c ss,L[i]?=ϛ->bP[i]?=se ss->ss.length=(Uh aG c.1 c.2).length) :YV [Nm,.lst LP,.lst JB,emb no] h=.ok (.lst ((Ve aG L bP no).map (ssD emb))) h:=by refine[ώ,sA (d:=.lst ('D'.map λk=>.at (h.length+k))) ?_ (sL (fG (λi ρ h1=>∃t5 t6 t7 t8 t9,ρ=[[ϔ,JW],[ϔ,LP],[ϔ,JB],se (emb no),[ϔ,'D'.map λk=>.at (h.length+k)],t5,t6,t7,t8,t9]/\[OG,λx=>(UP aG x).length,((':'.take i).flatMap λx=>Wi aG x.1 x.2).foldl NAP.VY (Vd aG no)]/\hR emb h (((':'.take i).flatMap λx=>Wi aG x.1 x.2).foldl NAP.VY (Vd aG no))=h1) (pA rfl rfl) (λi ρ h _=>pD i) (by rw[lZ];exact NAG.gl17 mO) #[_,_,_,_,_,rfl,ze aG no,rfl] ?_) ?_)];show[mt,rCg (X4 Nm) ϝ UB _ [ng,se (emb no)] 1000 0 h]=_;rw[EO 1000 0 h pU (ja _) (NAG.gl18 dfew)];show R.ok _ _=R.ok _ _;simp[hR,Vd];rintro i ⟨c,ss⟩ ρ h1 hp ⟨t5,t6,t7,t8,t9,rfl,sh,rfl⟩;obtain⟨hc,hs⟩:=bU.mp hp;obtain⟨hnd,hl20,cl20,cin⟩:=lok c JS;have tl:=sC (ah:=c.1) (ae:=c.2) pU c.2.length;(have ef:((':'.take (i+1)).flatMap λx=>Wi aG x.1 x.2).foldl NAP.VY (Vd aG no)=(Wi aG c ss).foldl NAP.VY (((':'.take i).flatMap λx=>Wi aG x.1 x.2).foldl NAP.VY (Vd aG no)):=by rw[take_snoc hp,xt,xC];simp);rw[ef];generalize((':'.take i).flatMap λx=>Wi aG x.1 x.2).foldl NAP.VY (Vd aG no)=R0 at sh ⊢;refine#[_,by unfold YS;rfl,?_];(have tln:((Uh aG c.1 c.2).zip ss).length=(Wi aG c ss).length:=by unfold Wi;rw[bq]);obtain⟨ρ2,h2,q2,t7',t8',t9',rfl,sh2,cT⟩:=fG (f:=Zo) (ρ:=[[ϔ,JW],[ϔ,LP],[ϔ,JB],se (emb no),[ϔ,'D'.map λk=>.at (h.length+k)],se (crC c),se (ssD emb ss),t7,t8,t9]) (λj ρ h2=>∃t7 t8 t9,ρ=[[ϔ,JW],[ϔ,LP],[ϔ,JB],se (emb no),[ϔ,'D'.map λk=>.at (h.length+k)],se (crC c),se (ssD emb ss),t7,t8,t9]/\[OG,λx=>(UP aG x).length,((Wi aG c ss).take j).foldl NAP.VY R0]/\hR emb h (((Wi aG c ss).take j).foldl NAP.VY R0)=h2) (fg:=YS 7 8) (fi:=rIz (Ui X8 [lP,Tg ϡ Tk]) ϸ) (pA [ϋ,ED (Mn cl λn a=>DX (k:=1) 7 (he n a)) hnd hl20 cl20 pU cin] rfl) (λi ρ h _=>pD i) (by rw[lZ];unfold Uh;lia) #[t7,t8,t9,rfl,sh,rfl] (by rintro j ⟨tp,am⟩ ρ h2 hq ⟨t7,t8,t9,rfl,sh1,rfl⟩;obtain⟨ht1,ha1⟩:=bU.mp hq;obtain⟨x0,h0,hx0,hh0,iL⟩:=(ki hnd tp.1 tp.2).mp (aM ht1);have xlt:=cin x0 (aM hx0);(have htr:(Wi aG c ss)[j]?=se (x0,(UP aG x0).idxOf h0,am):=by unfold Wi;rw[bo,hq];show se (c.2.getD tp.1 0,(UP aG (c.2.getD tp.1 0)).idxOf (c.1.getD tp.2 0),am)=_;rw[NAP.UE hx0,NAP.UE hh0]);rw[take_snoc htr,xC];generalize((Wi aG c ss).take j).foldl NAP.VY R0=R1 at sh1 ⊢;(have r1:R1[x0]?=se (R1.getD x0 []):=by simp[bO,sh1.1,xlt]);refine#[_,by unfold YS;rfl,nA (gH [η,rfl,rfl] [η,rfl,rfl] hx0) (nE (tz rfl (gH (g:=λk=>.at (h.length+k)) rfl rfl (kZ xlt)) (Mp (gH rfl rfl (by simp[*])) [ν,gH (g:=nD) [η,rfl,rfl] [η,rfl,rfl] hh0] iL) (wa r1) (by rw[bq,sh1.2 x0 xlt];exact gF iL)) #[_,_,_,rfl,sh1.put xlt,?_])];rw[<-qL,EN];rfl);rw[tln,MM] at sh2 cT;exact nE q2 #[_,_,_,_,_,rfl,sh2,cT];rintro ρ h1 ⟨t5,t6,t7,t8,t9,rfl,sh,rfl⟩;rw[MM] at sh ⊢;rw[<-sh.1];exact Mq cl he
end
end NAY
namespace NAL.EX
open PySem PyProof.Rows
section
end
section
end
section
end
end NAL.EX
namespace NAM
open PySem NAL NAL.EX
noncomputable def M0:Int:=232792560
theorem eY:0<M0:=by decide
theorem zi:Bd 600 M0:=by(have:Bd 28 M0:=by show _<_;decide);exact this.le (by decide)
structure xaI (aG:xag)(ag:Nat)(R:xab):Prop where
 sh:ShOk M0 aG ag R
 nn:∀s∈R,∀p∈s,0<=p.1
 nd:∀r∈aG,r.Nodup
 m20:ag<=20
noncomputable def Uj (L:List (Nat×(xaE))) (h:Nat):xaj:=(L.filter λx=>x.1==h).map (·.2)
theorem zc2 (L:List (Nat×(xaE)))(g:Nat)(p:xaE)(h:Nat):Uj (L++[(g,p)]) h=Uj L h++(if g=h then[p]else[]):=by unfold Uj;by_cases c:g=h<;>simp[c]
theorem Mt (M:Int)(L:List (Nat×(xaE)))(h:Nat):((Uj L h).map (vl M)).sum=WS M L h:=by unfold Uj WS;induction L with| nil=>rfl| cons x r ih =>rw[bz,cq,<-ih,jZ];by_cases c:x.1=h;rw[Ta c,Ta (by simpa using c),bz,bz,cq];rw[S9 c,S9 (by simp_all),m9]
theorem zcP (hp:p∈Uj L h):(h,p)∈L:=by unfold Uj at hp;simp_all
theorem EP (L L':List (Nat×(xaE)))(h:Nat):Uj (L++L') h=Uj L h++Uj L' h:=by unfold Uj;simp_all
theorem EQ (h:Nat):∀(r:xat) s,h∉r->Uj 'i' h=[]| [],s,_=>rfl| x::r,[],_=>rfl| x::r,p::s,hn=>by have ne:x≠h:=λz=>hn (z▸aR);unfold Uj at *;rw[i8,jZ,S9 ε];exact EQ h r s (λz=>hn (a7 _ z))
theorem ES (h:Nat):∀(r:xat) s,r.Nodup->(Uj 'i' h).length<=1| [],s,_=>by show 0<=1;simp_all| x::r,[],_=>by show 0<=1;simp_all| x::r,p::s,nd=>by obtain⟨n1,n2⟩:='V';have ih:=ES h r s n2;by_cases c:x=h;have e:=EQ h r s (c▸n1);unfold Uj at *;rw[i8,jZ,Ta (by simpa using c),bz,e];exact Nat.succ_pos _;unfold Uj at *;simp_all
theorem ET (ok:xaI aG ag R)(h:Nat):∀i:Nat,i<=aG.length->(Uj [PX,i,KT] h).length<=i:=by intro i;induction i with| zero =>rintro _;exact ja _| succ i ih =>rintro hi;have hr:aG[i]?=se (aG[i]'(by assumption)):=aV _;have hs:R[i]?=se (R[i]'(by rw[ok.sh.len];assumption)):=aV _;rw[EI hr hs,EP,eE];have:=ih (by exact fF hi);have:=ES h _ (R[i]'(by grind)) (ok.nd _ (aM hr));lia
theorem zd9 (ok:xaI aG ag R)(h:Nat):FVs M0 (Uj (Uv aG R) h) ((Uj (Uv aG R) h).map (vl M0)):=by have fw:=ET ok h aG.length ϱ;rw[MM,d8 (by rw[ok.sh.len];exact ϱ)] at fw;have few:=ok.sh.few;(have mem:∀p∈Uj (Uv aG R) h,LY/\p.2∣M0/\Bd 600 p.1:=λp hp=>by have m:=zcP hp;obtain⟨x,hx,hm⟩:=jO.mp m;exact ok.sh.ok x.2 'y'.2 p (cg hm).2);refine#[by rw[bq],λi p X hp hX=>?_,eY,zi,λX hX=>?_,by rw[bq];lia];rw[bo,hp] at hX;cases hX;obtain⟨lo,d,b⟩:=mem p (aM hp);refine#[lo,?_];rw[<-yE d,hO];obtain⟨p,hp,rfl⟩:=aU.mp hX;obtain⟨lo,d,b⟩:=mem p hp;unfold vl Bd;rw[kW];have b1:=b;(have b2:(M0/p.2).natAbs<=2^28:=by have:=Int.natAbs_ediv_le_natAbs M0 p.2;exact cf this (by decide));have h3:=Nat.mul_le_mul (fF b1) b2;exact ke h3 (by rw[<-Nat.pow_add];exact Nat.pow_lt_pow_right (by decide) (by decide))
theorem xaI.of_even {qs:xaj}(e:EvenR ws aG ag R qs)(ro:Y7 ws.length ag aG)(h12:ag<=12)(few:aG.length<=20):xaI aG ag R:=by refine#[#[e.len,few,λi r s hr hs=>?_,λs hs p hp=>?_,eY,zi],λs hs p hp=>(e.ok s hs p hp).2.1,λr hr=>(ro.2 r hr).2.1.imp λh=>cG h,SJ];obtain⟨_,rise,lt⟩:=ro.2 r (aM hr);exact#[e.row i r s hr hs,cf (lD rise lt) h12,lt];obtain⟨a,b,c,d⟩:=e.ok s hs p hp;exact#[a,c,d.le (by decide)]
theorem LdB.uniq {qs rs:xaj}(hM:0<M)(a:LdB M L qs)(b:LdB M L rs)(hl:qs.length=rs.length):qs=rs:=by refine jY λi=>?_;cases h:qs[i]? with| none =>simp_all| some q =>have hi:='l'.1;have h2:rs[i]?=se (rs[i]' ε):=aV _;rw[h2];obtain⟨a1,a2⟩:=a i q h;obtain⟨b1,b2⟩:=b i _ h2;have fa:FV M q (WS M L i):=#[a1,a2];rw[fa.uniq hM #[b1,b2]]
end NAM
namespace NAY
open PySem NAL NAL.EX NAL.RX NAM
section
variable {h h' t:TH}{i ag:Nat}{aG:xag}{c:NAP.Cr}{R:xab}
theorem EU:∀m i h,i<=n->n<i+m->rCg (nRg n) ϝ UB (Un tj Tk) [ng] m i h=.ok ((aT (n-i)).map λk=>.at (h.length+k)) (h++bh (n-i) (.ml []))| 0,i,h,h1,h2=>absurd h2 (by simp[*])| m+1,i,h,h1,h2=>by rw[qV,sQ,bo];by_cases lt:i<n;rw[kZ lt];have ih:=EU m (i+1) (h++[.ml []]) lt Pm;show R.bnd (rCg (nRg n) ϝ UB (Un tj Tk) [ng] m (i+1) (hp h (.ml []))) (λys h'=>[χ,D.at Id::ys])=_;rw[gq,ih,gm];show R.ok (D.at h.length::_) _=_;rw[show n-i=(n-(i+1))+1 from NAG.gl14 lt,oU,qF,bz,cD,eF];simp[Function.comp_def,xL,BL];simp_all
theorem zcj (f:FVs M ps Xs)(ha:h[a]?=[ϓ,ps.map UO]):∃p,Xn [.at a] h=.ok LH h/\FV M p Xs.sum:=by have few:=f.few;have fl:=f.len;(have nx:∀i,X4 (.at a) h i=se ((ps.map UO)[i]?):=λi=>by show Wm (eS h (.at a)) _=_;unfold eS;dsimp only;rw[aX,ha];show se (eg _ i)=_;rw[aX]);obtain⟨ρ2,h2,q2,r,t,rfl,rfl,fv⟩:=fG (f:=X0) (fg:=rN 2) (fi:=LO) (λi ρ h1=>∃(r:xaE) (t:Option D),ρ=[se (.at a),se (UO r),t]/\h=h1/\FV M r (Xs.take i).sum) (zal rfl ha) (λi ρ h2 I=>by obtain⟨_,_,_,e,_⟩:=I;rw[<-e];exact nx i) (NAG.gl25 fl few) #[(0,1),ng,rfl,rfl,FV.zero] (λi pp ρ h1 hpp I=>by obtain⟨r,t,rfl,rfl,fv⟩:=I;obtain⟨X,hX,fX,bX⟩:=f.get hpp;obtain⟨b1,b2⟩:=fv.bd f.hM f.bM ((LU f.bX (NAG.gl7 few) i).le (by decide));obtain⟨b3,b4⟩:=fX.bd f.hM f.bM (bX.le (by decide));obtain⟨s,qs,ls,es⟩:=zar fv.1 fX.1 (b1.le (by decide)) (b2.le (by decide)) (b3.le (by decide)) (b4.le (by decide));refine#[_,rfl,nE (jd (aK [Ϣ,[ν,rfl]] qs) rfl) #[s,_,rfl,rfl,?_]];rw[take_snoc hX,zff];exact fv.plus fX ls.1 ls.2 es);rw[d8 ε] at fv;exact#[r,[ώ,sA rfl (sG q2 [ϣ,rfl])],fv]
theorem lJ:cd n (m+2) LH:=by intro d hd;simp only[bi,gW,or_false] at hd;rcases hd with rfl | rfl<;>trivial
theorem zdO (d:α){P:Nat->α->Prop}(n:Nat)(H:∀x,x<n->∃q,P x q):∃qs:List α,qs.length=n/\∀x,x<n->P x (qs.getD x d):=by induction n with| zero=>exact#[[],rfl,λx hx=>absurd hx (l6 _)]| succ n ih =>obtain⟨qs,l,p⟩:=ih λx hx=>H x (by exact fE hx);obtain⟨q,hq⟩:=H n (by simp_all);refine#[qs ++ [q],by simp[l],λx hx=>?_];by_cases e:x=n;subst e l;simpa [bO] using hq;have:=p x (NAG.gl67 hx e);rw[bO] at this ⊢;rwa [iN (by lia)]
theorem EV (cl:Ϭ)(ok:xaI aG ag R):∃qs:xaj,Vn [Nm,Ka,.lst [Mu,UO]] h=.ok (.lst (qs.map UO)) h/\qs.length=ag/\LdB M0 (Uv aG R) qs:=by have len:=ok.sh.len;have few:=ok.sh.few;have m20:=ok.m20;obtain⟨qs,ql,qp⟩:=zdO (0,1) ag λx hx=>zcj (zd9 ok x) (wa (o9 (λx=>Uj (Uv aG R) x) hx));refine#[qs,[ώ,sA ?_ (sL (fG (λi ρ h1=>∃t4 t5 t6 t7:Option D,ρ=[[ϔ,JW],[ϒ,ag],[ϔ,[Mu,UO]],[ϔ,'3'.map λk=>.at (h.length+k)],t4,t5,t6,t7]/\hR UO h ('3'.map λx=>Uj [PX,i,KT] x)=h1) (pA rfl rfl) (λi ρ h _=>pD i) (by rw[lZ];exact NAG.gl17 few) #[_,_,_,_,rfl,rfl] ?_) ?_)],ql,λx q hq=>?_];show Yy fh (rIr (Tg ο Tk)) 1 [] ϝ UB (Un tj Tk) _ h=_;unfold Yy;rw[sX rfl (NAG.gl59 m20)];show[Kk,rCg (nRg ag) ϝ UB (Un tj Tk) [ng] 1000 0 h]=_;rw[EU 1000 0 h (ja _) (NAG.gl18 m20)];show RX.R.ok _ _=RX.R.ok _ _;simp[hR,Uv,Uj,Function.comp_def,Bv];rintro i ⟨r,s⟩ ρ h1 hp ⟨t4,t5,t6,t7,rfl,rfl⟩;obtain⟨oI,fH⟩:=bU.mp hp;dsimp only at oI fH;obtain⟨sr,rlen,rlt⟩:=ok.sh.row i r s oI fH;have il:=(aQ.mp oI).1;(have ef:[PX,i+1,R.take (i+1)]=[PX,i,KT]++'i':=by unfold Uv;rw[take_snoc oI,take_snoc fH,nH (by rw[jr,jr];simp_all),xt];simp);refine#[_,by unfold YS;rfl,?_];obtain⟨ρ2,h2,q2,t6',t7',rfl,cT⟩:=fG (f:=WP) (h:=hR UO h ('3'.map λx=>Uj [PX,i,KT] x)) (fg:=YS 6 7) (fi:=rIz ύ ϡ) (λj ρ h2=>∃t6 t7:Option D,ρ=[[ϔ,JW],[ϒ,ag],[ϔ,[Mu,UO]],[ϔ,'3'.map λk=>.at (h.length+k)],se (TQ r),se (ssD UO s),t6,t7]/\hR UO h ('3'.map λx=>Uj ([PX,i,KT]++'i'.take j) x)=h2) (pA rfl rfl) (λi ρ h _=>pD i) (by rw[lZ];lia) #[t6,t7,rfl,by simp] (by rintro j ⟨g,p⟩ ρ h2 hq ⟨t6,t7,rfl,rfl⟩;obtain⟨hg,d5⟩:=bU.mp hq;dsimp only at hg d5;have gl:=rlt g (aM hg);(have pl:(Uj ([PX,i,KT]++'i'.take j) g).length<=1000:=by grind[EP,eE,ET,Uj,bq,cf,fK,jr,lZ]);refine#[_,by unfold YS;rfl,nE (fQ (lH (gH (g:=λk=>.at (h.length+k)) rfl rfl (kZ gl)) (wa (o9 _ gl)) rfl (by rw[bq];exact NAG.gl63 pl))) #[_,_,rfl,?_]];rw[show∀l,l.map UO++[LH]=(l++[p]).map UO fromλl=>by simp,EN,yv];congr 1;refine cH λx _=>?_;rw[take_snoc hq,<-eF,zc2];by_cases c:x=g;subst c;simp;rw[Cx,S9 (Ne.symm c),k8]);rw[MM] at cT;exact nE q2 #[_,_,_,_,rfl,by rwa [ef]];rintro ρ h1 ⟨t4,t5,t6,t7,rfl,rfl⟩;rw[lZ,len,Nat.min_self,MM,d8 ε];exact sR (cA QM cY (by rw[k6];exact NAG.gl59 m20) (λx hx=>#[_,rfl,[ϋ,(qp x MF).1]]) (Eb ql.symm)) (n5 cl λd hd=>by obtain⟨p,_,rfl⟩:=PM;exact lJ);have hxl:='7'.1;have:=(qp x ε).2;rwa [Mt,show qs.getD x (0,1)=q by simp[bO,hq]] at this
end
end NAY
namespace NAL.EX
open PySem PySem.Spec PyProof.Rows
section
end
section
end
end NAL.EX
namespace PySem
section
end
end PySem
namespace NAL.EX
open PySem PySem.Spec PyProof.Rows
section
end
section
end
end NAL.EX
namespace NAM
open PySem NAL NAL.EX
structure VE (ws:xam)(aG:xag)(ag:Nat)(R:xab)(qs:xaj):Prop where
 ev:EvenR ws aG ag R qs
 len:qs.length=ag
 ok:∀q∈qs,ph q
 rows:Y7 ws.length ag aG
 few:ws.length<=20
 h12:ag<=12
theorem VE.rat {qs:xaj}(d:VE ws aG ag R qs):xaI aG ag R:=xaI.of_even d.ev d.rows d.h12 (by have:=d.rows.1;have:=d.few;simp_all)
theorem VE.ldb {qs:xaj}(d:VE ws aG ag R qs):LdB M0 (Uv aG R) qs:=λh q hq=>d.ev.load M0 eY (i7 _) h q hq
theorem zcW (M:Int)(L L':List (Nat×(xaE)))(h:Nat):WS M (L++L') h=WS M L h+WS M L' h:=by unfold WS;simp_all
theorem EW (nn:∀x∈L,0<=vl M0 x.2)(h:Nat):0<=WS M0 L h:=by induction L with| nil=>exact de _| cons x L ih =>show 0<=((x::L).map λx=>if x.1=h then vl M0 x.2 else 0).sum;rw[bz,cq];have h1:=ih λy hy=>nn y (a7 _ hy);have h2:=nn x aR;unfold WS at h1;split<;>lia
theorem zj {L:List (Nat×(xaE))}{h:Nat}(z:0<WS M0 L h):∃x∈L,x.1=h/\0<vl M0 x.2:=by induction L with| nil=>exact absurd z (AW _)| cons x L ih =>(have e:WS M0 (x::L) h=(if x.1=h then vl M0 x.2 else 0)+WS M0 L h:=by unfold WS;rw[bz,cq]);rw[e] at z;by_cases c:0<WS M0 L h;obtain⟨y,hy,r⟩:=ih c;exact#[y,a7 _ hy,r];by_cases d:x.1=h;rw[Ta d] at z;exact#[x,aR,d,by lia];rw[S9 d] at z;simp_all
theorem EY (nn:∀x∈L,0<=vl M0 x.2)(hx:x∈L):vl M0 x.2<=WS M0 L x.1:=by induction L with| nil=>cases hx| cons y L ih =>(have e:WS M0 (y::L) x.1=(if y.1=x.1 then vl M0 y.2 else 0)+WS M0 L x.1:=by rfl);have h0:=EW (λz hz=>nn z (a7 _ hz)) x.1;rw[e];rcases bi.mp hx with rfl | hx;rw[Ta rfl];exact Int.le_add_of_nonneg_right h0;have:=ih (λz hz=>nn z (a7 _ hz)) hx;split;exact hK this (Int.le_add_of_nonneg_left (nn y aR));rw[m9];exact this
theorem zk:∀{L:List (Nat×(xaE))},(∀x∈L,x.1<ag)->NAP.upTo (λh=>WS M0 L h) ag=(L.map λx=>vl M0 x.2).sum| [],_=>NAP.UD ag| x::L,hl=>by have ih:=zk λy hy=>hl y (a7 _ hy);rw[bz,cq,<-ih];have e1:=NAP.Xf x.1 (vl M0 x.2) ag;rw[Ta (hl x aR)] at e1;rw[<-e1,<-NAP.Xg];refine NAP.Tx λh hh=>?_;unfold WS;rw[bz,cq];by_cases c:x.1=h;rw['-',Ta c.symm];rw[Cx,S9 λz=>c z.symm]
noncomputable def shF (aG:xag) (R:xab) (i h:Nat):Int:=WS M0 ([Rn,[]].zip (R.getD i [])) h
theorem EZ (hl:R.length=aG.length)(h:Nat):WS M0 (Uv aG R) h=NAP.upTo (λi=>shF aG R i h) aG.length:=by(have bE:∀n,n<=aG.length->WS M0 [PX,n,R.take n] h=[Jg,λi=>shF aG R i h]:=by intro n;induction n with| zero=>intro _;rfl| succ n ih =>intro hn;have hr:aG[n]?=se (aG[n]'(by assumption)):=aV _;have hs:R[n]?=se (R[n]'(by rwa [hl])):=aV _;rw[EI hr hs,zcW,ih (by exact fF hn)];show _=NAP.upTo (λi=>shF aG R i h) n+shF aG R n h;unfold shF;rw[bO,bO,hr,hs];rfl);have:=bE aG.length ϱ;rwa [MM,d8 ε] at this
def ZZ (p:xaE):Prop:=LY/\0<=p.1/\p.2∣M0/\Bd 330 p.1
theorem ZZ.vn (h:ZZ p):0<=vl M0 p:=jq h.2.1 (AU (by decide) (by have:=h.1.1;exact Mx))
theorem ZZ.vp (h:ZZ p):0<vl M0 p↔0<p.1:=by have h2:=h.2.1;constructor;intro z;by_cases c:0<p.1;exact c;unfold vl at z;lia;intro z;(have z2:0<vl M0 p*p.2:=by rw[yE h.2.2.1];exact kX z eY);by_cases c:0<vl M0 p;exact c;(have:=by have:=h.vn;exact NAG.gl23 this c);simp_all
theorem FV.le (a:FV M0 p X)(b:FV M0 q Y)(h:p.1*q.2<=q.1*p.2):X<=Y:=by rcases g9 Y X with z | z;have:=(b.lt eY a).mpr z;exact NAG.gl120 this h;exact z
theorem FV.el (a:FV M0 p X)(b:FV M0 q Y)(h:X<=Y):p.1*q.2<=q.1*p.2:=by rcases g9 (q.1*p.2) (p.1*q.2)with z | z;have:=(b.lt eY a).mp z;exact NAG.gl120 this h;exact z
theorem tG {qs:xaj}(d:VE ws aG ag R qs):NAP.Dl ag aG.length (λi h=>h∈[Rn,[]]) (λi=>[Mg,i]*M0) (shF aG R) (λh=>WS M0 (Uv aG R) h):=by have len:=d.ev.len;(have at_:∀i<aG.length,∃r s,aG[i]?=ϊ/\R[i]?=ϫ/\[Rn,[]]=r/\R.getD i []=s:=λi hi=>ε);(have ok:∀i<aG.length,∀x∈[Rn,[]].zip (R.getD i []),ZZ x.2:=λi hi x hx=>by obtain⟨r,s,hr,hs,e1,e2⟩:=at_ i hi;rw[e1,e2] at hx;exact d.ev.ok s (aM hs) x.2 'y'.2);refine#[λi hi h hh=>EW (λx hx=>(ok i hi x hx).vn) h,λi hi h hh z=>?_,λi hi=>?_,λh hh=>EZ len h,λi hi h hh z g hg dg=>?_];obtain⟨x,hx,e,_⟩:=zj z;rw[<-e];exact 'y'.1;obtain⟨r,s,hr,hs,e1,e2⟩:=at_ i hi;have sl:=d.ev.row i r s hr hs;(have:=zk (L:=[Rn,[]].zip (R.getD i [])) λx hx=>by rw[e1,e2] at hx;exact(d.rows.2 r (aM hr)).2.2 x.1 'y'.1);show NAP.upTo (λh=>WS M0 ([Rn,[]].zip (R.getD i [])) h) ag=_;rw[this,<-d.ev.sum M0 eY (i7 _) i s hs,e1,e2];rw[show(λx=>vl M0 x.2)=(vl M0)∘Prod.snd from rfl,<-cD,va ε];obtain⟨x,hx,e,pv⟩:=zj z;have px:=(ok i hi x hx).vp.mp pv;obtain⟨r,s,hr,hs,e1,e2⟩:=at_ i hi;rw[e1,e2] at hx;rw[e1] at dg;obtain⟨k,hk⟩:=bH hx;obtain⟨k1,k2⟩:=(bU).mp hk;have ql:=d.len;have q1:qs[h]?=se (qs[h]' ε):=aV _;have q2:qs[g]?=se (qs[g]' ε):=aV _;exact FV.le (d.ev.load M0 eY (i7 _) h _ q1) (d.ev.load M0 eY (i7 _) g _ q2) (d.ev.even i r s hr hs k x.2 x.1 k2 k1 px g dg _ _ (by rwa [e]) q2)
noncomputable def YU (r:xat) (o:Qs) (qs ys:xaj):Bool:=match o with| none=>fh| some row=>'I'.any λx=>decide (0<x.2.1)&&decide (qs.getD x.1 (0,1)=ys.getD x.1 (0,1))
noncomputable def Z5 (r:xat) (o:Qs) (n:xaj) (qs ys:xaj):xaj:=if YU r o qs ys then o.getD []else n
noncomputable def X5 (aG:xag) (av:Kg) (R:xab) (qs ys:xaj):xab:='D'.map λi=>Z5 [Rn,[]] [L2,i] (R.getD i []) qs ys
structure MixOk (ws:xam)(aG:xag)(ag:Nat)(R:xab)(qs:xaj):Prop where
 len:R.length=aG.length
 row:∀(i:Nat) r s,aG[i]?=ϊ->R[i]?=ϫ->s.length=r.length
 sum:∀(i:Nat) s,R[i]?=ϫ->'K'.sum=[Mg,i]*M0
 ok:∀s∈R,∀p∈s,ZZ p
 ld:LdB M0 (Uv aG R) qs
 even:∀(i:Nat) r s,aG[i]?=ϊ->R[i]?=ϫ->∀(k:Nat) p h,s[k]?=ϕ->r[k]?=se h->0<p.1->∀h'∈r,∀q q',qs[h]?=Ϡ->qs[h']?=se q'->q.1*q'.2<=q'.1*q.2
structure xbw (aG:xag)(ag:Nat)(av:Kg)(ys:xaj):Prop where
 len:av.length=aG.length
 row:∀(i:Nat) r o,aG[i]?=ϊ->av[i]?=se ζ->o.length=r.length
 ok:∀o,ζ∈av->∀p∈o,ZZ p
 yl:ys.length=ag
 S7:∀y∈ys,ph y
structure Fit (ws:xam)(aG:xag)(ag:Nat)(av:Kg)(ys:xaj):Prop where
 old:xbw aG ag av ys
 mix:∀R qs,VE ws aG ag R qs->MixOk ws aG ag (X5 aG av R qs ys) qs
noncomputable def osF (aG:xag) (av:Kg) (i h:Nat):Int:=WS M0 ([Rn,[]].zip ([L2,i].getD [])) h
theorem getD_at' {l:ϐ}(hi:i<l.length)(d:α):l[i]?=se (l.getD i d):=ε
theorem E0 {qs ys:xaj}(d:VE ws aG ag R qs)(O:xbw aG ag av ys) (X:NAP.xai ag aG.length (λi h=>h∈[Rn,[]]) (λi=>[Mg,i]*M0) (shF aG R) (osF aG av) (λh=>WS M0 (Uv aG R) h) (λi=>YU [Rn,[]] [L2,i] qs ys)):MixOk ws aG ag (X5 aG av R qs ys) qs:=by have len:=d.ev.len;have oln:=O.len;(have ml:(X5 aG av R qs ys).length=aG.length:=by unfold X5;rw[bq,k6]);(have mg:∀i<aG.length,(X5 aG av R qs ys)[i]?=se (Z5 [Rn,[]] [L2,i] (R.getD i []) qs ys):=λi hi=>by unfold X5;rw[bo,kZ hi];rfl);(have mlt:∀i s,(X5 aG av R qs ys)[i]?=ϫ->i<aG.length:=λi s hs=>by have:=(aQ.mp hs).1;simp_all);(have kept:∀i<aG.length,YU [Rn,[]] [L2,i] qs ys=tj->∃o,av[i]?=se ζ/\[L2,i].getD []=o:=λi hi z=>by have e:=getD_at' (show i<av.length by rwa [oln]) ng;cases ho:[L2,i]with| none=>rw[ho] at z;cases z| some o=>rw[ho] at e;exact#[o,e,rfl]);(have mT:∀(i:Nat) r s,aG[i]?=ϊ->(X5 aG av R qs ys)[i]?=ϫ->s.length=r.length/\∀p∈s,ZZ p:=λi r s hr hs=>by have hi:=mlt i s hs;rw[mg i hi] at hs;cases hs;unfold Z5;by_cases c:YU [Rn,[]] [L2,i] qs ys=tj;rw['-'];obtain⟨o,ho,e⟩:=kept i hi c;rw[e];exact#[O.row i _ o hr ho,O.ok o (aM ho)];rw[Cx];have es:=getD_at' (l:=R) (show i<R.length by rwa [len]) [];exact#[d.ev.row i _ _ hr es,λp hp=>d.ev.ok _ (aM es) p hp]);(have mQ:∀i<aG.length,∀h,shF aG (X5 aG av R qs ys) i h=if YU [Rn,[]] [L2,i] qs ys then osF aG av i h else shF aG R i h:=λi hi h=>by unfold shF osF;rw[bO (l:=X5 aG av R qs ys),mg i hi];unfold Z5;split<;>rfl);(have mall:∀i r s,aG[i]?=ϊ->(X5 aG av R qs ys)[i]?=ϫ->NAP.upTo (λh=>shF aG (X5 aG av R qs ys) i h) ag='K'.sum:=λi r s hr hs=>by(have er:[Rn,[]]=r:=by rw[bO,hr];rfl);(have es:(X5 aG av R qs ys).getD i []=s:=by rw[bO,hs];rfl);unfold shF;rw[er,es,zk λx hx=>(d.rows.2 r (aM hr)).2.2 x.1 'y'.1];rw[show(λx=>vl M0 x.2)=(vl M0)∘Prod.snd from rfl,<-cD,va (by rw[(mT i r s hr hs).1];exact ϱ)]);have D:=tG d;refine#[ml,λi r s hr hs=>(mT i r s hr hs).1,λi s hs=>?_,λs hs p hp=>?_,λh q hq=>?_,λi r s hr hs k p h hk hh pp h' kJ q q' hq iy=>?_];have hi:=mlt i s hs;rw[<-mall i _ s (getD_at' hi ([])) hs];by_cases c:YU [Rn,[]] [L2,i] qs ys=tj;rw[<-X.sum i hi c];(exact NAP.Tx λh hh=>by rw[mQ i hi h,'-']);rw[<-D.sum i hi];(exact NAP.Tx λh hh=>by rw[mQ i hi h,Cx]);obtain⟨i,hi⟩:=bH hs;exact(mT i _ s (getD_at' (mlt i s hi) []) hi).2 p hp;have hl:='7'.1;rw[d.len] at hl;(have e:WS M0 (Uv aG (X5 aG av R qs ys)) h=WS M0 (Uv aG R) h:=by rw[EZ ml,<-X.load h hl];exact NAP.Tx λi hi=>mQ i hi h);rw[e];exact d.ev.load M0 eY (i7 _) h q hq;have hi:=mlt i s hs;(have er:[Rn,[]]=r:=by rw[bO,hr];rfl);have lt:=(d.rows.2 r (aM hr)).2.2;have hl:=lt h (aM hh);have mK:=lt h' kJ;(have es:(X5 aG av R qs ys).getD i []=s:=by rw[bO,hs];rfl);have MA:(h,p)∈'i':=aM ((bU).mpr #[hh,hk]);(have pos:0<shF aG (X5 aG av R qs ys) i h:=by unfold shF;rw[er,es];have fo:=(mT i r s hr hs).2;have:=EY (λx hx=>(fo x.2 'y'.2).vn) MA;have:=(fo p (aM hk)).vp.mpr pp;exact NAG.gl97 this (by assumption));rw[mQ i hi h] at pos;refine FV.el (d.ev.load M0 eY (i7 _) h q hq) (d.ev.load M0 eY (i7 _) h' q' iy) ?_;by_cases c:YU [Rn,[]] [L2,i] qs ys=tj;rw['-'] at pos;exact X.even i hi c h hl pos h' mK (by rwa [er]);rw[Cx] at pos;exact D.even i hi h hl pos h' mK (by rwa [er])
section
theorem E2 (h:a*M0=b*M0):a=b:=lW (by have:=eY;lia) h
end
noncomputable def ins {α:Type} (a:Nat) (x:α) (l:ϐ):ϐ:=l.take a++x::l.drop a
section
end
section
end
end NAM
namespace NAL.EX
open PySem
end NAL.EX
namespace NAM
open PySem NAL NAL.EX
noncomputable def keptS (r:xat) (o:Qs) (bs:L5):Bool:=match o with| none=>fh| some row=>'I'.any λx=>decide (0<x.2.1)&&[PB,x.1]
end NAM
namespace NAY
open PySem NAL NAL.EX NAL.RX NAM
section
variable {h:TH}{i ag:Nat}{ws:xam}{aG:xag}{c:NAP.Cr}{av:Kg}{ys:xaj}
theorem zeZ (cl:Ϭ)(A:xbQ ws aG)(h12:ag<=12)(rows:Y7 ws.length ag aG):∃(R:xab) (qs:xaj),WA [Mm,Nm,Ka] h=.ok (.lst [Mu,UO]) h/\VE ws aG ag R qs:=by have dk:=rows.doOk rfl SJ;have few:=A.few;obtain⟨L,q1,co⟩:=zdT cl A dk;have mO:=co.few dk.few;(obtain⟨bP,q2,sl,sp⟩:=EM (fi:=J8) (fg:=ϝ) (fa:=Ui XG [϶,[Zk,Tg ξ Tk]]) (ρ:=[[ϔ,SK],[ϔ,JW],[ϒ,ag],[ϔ,LP],ng]) (n:=1) (fr:=[0,1]) rfl cY (NAG.gl59 mO) λc hc=>by obtain⟨ss,qs,ok⟩:=zdh cl A (co.crowdP dk.few few hc);exact#[[se (crC c),[ϔ,SK],[ϔ,JW]],ss,rfl,[ϋ,qs],ok]);have q3:=Mr (emb:=UO) (no:=((0,1))) cl (λn a=>lJ) (by rwa [A.len]) A.row mO (λc hc=>by have p:=co.crowdP dk.few few hc;exact#[p.nd,p.hl,p.cl,λx hx=>by rw[A.len];exact p.ci x hx]) sl λi c ss h1 h2=>(sp i c ss h1 h2).len;have run:WA [Mm,Nm,Ka] h=.ok (.lst ((Ve aG L bP ((0,1))).map (ssD UO))) h:=sS rfl ((nY (jd [ϋ,q1] rfl)).trans ((nY (jd q2 rfl)).trans (jw [ϋ,q3]))) Lf;rcases qM ag with h0 | h0;subst h0;(have dn:aG=[]:=by cases aG with| nil=>rfl| cons r aG =>obtain⟨a,_,b⟩:=rows.2 r (.head _);cases r with| nil=>trivial| cons x r=>exact absurd (b x (.head _)) (l6 _));subst dn;have Ln:=co.none rfl;subst Ln;exact#[[],[],run,#[rfl,λi r s z=>(by simp at z),λM _ _ i s z=>(by simp at z),λs z=>(by cases z),λM _ _ g q z=>(by simp at z),λi r s z=>(by simp at z)],rfl,λq z=>(by cases z),rows,few,h12];obtain⟨ps,qs,lo,lk⟩:=zaf co h0;have B:=Kn co lo lk h0 SJ A.pos A.bd few;exact#[Ve aG L bP (0,1),qs,run,zdz co h0 SJ few A.len (λr hr=>(rows.2 r hr).2.1.imp λh=>cG h) A.pos sl sp lo lk,B.len,B.ok,rows,few,h12]
noncomputable def optR:Qs->D| none=>.non| some r=>ssD UO r
theorem E3:VI fh LH (UO u) h=.ok [M2,p=u] h:=by(have e:dEq 60 LH (UO u)=se (decide (p=u)):=by show(match se (iEq p.1 u.1)with| some tj=>(match se (iEq p.2 u.2)with| some tj=>BT| some fh=>Ty| none=>ng)| some fh=>Ty| none=>ng)=_;rw[lF,lF];obtain⟨a,b⟩:=p;obtain⟨x,y⟩:=u;by_cases c1:a=x;(.by_cases c2:b=y;all_goals simp_all);simp[c1]);show Uf (WG 60 LH&&WG 60 (UO u)) (T5 (dEq 60 LH (UO u)) _)=_;rw[e];show R.ok (RX.D.bl (fh^^decide (p=u))) h=_;rw[mW]
theorem zba (rl:r.length<=20)(rb:∀h∈r,h<bs.length)(ro:∀row,o=se row->row.length=r.length):Z9 [TQ r,optR o,.lst SZ] h=.ok (.bl (keptS r o bs)) h:=by cases o with| none=>exact nZ rfl rfl rfl| some row =>have an:=Zg (h:=h) (bs:='I'.map λx=>decide (0<x.2.1)&&[PB,x.1]);rw[show('I'.map λx=>decide (0<x.2.1)&&[PB,x.1]).any id=keptS r (se row) bs from xI] at an;refine[ώ,[ϣ,aK [ν,cA (pA rfl rfl) pD (by grind) (λx hx=>#[_,by unfold YS;rfl,?_]) (cD).symm] an]];have bg:=getD_at' (rb x.1 'y'.1) fh;show Wa _ _ [[ϒ,x.1],se (.tup [.int x.2.1,.int x.2.2]),[ϔ,SZ]] h=.ok (.bl (decide (0<x.2.1)&&[PB,x.1])) h;by_cases c:0<x.2.1;exact(yT [η,rfl,n9 c] (gH rfl rfl bg)).trans (by rw[Tc c];rfl);exact(yU [η,rfl,oa c]).trans (by rw[Tf c];rfl)
theorem MD (cl:Ϭ)(A:xbQ ws aG)(h12:ag<=12)(rows:Y7 ws.length ag aG)(O:xbw aG ag av ys):∃R qs,Z8 [Mm,Nm,Ka,.lst (av.map optR),.lst (ys.map UO)] h=.ok (.lst ((X5 aG av R qs ys).map (ssD UO))) h/\VE ws aG ag R qs:=by obtain⟨R,qs,q1,Dk⟩:=zeZ cl A h12 rows;obtain⟨db,q2,ql,ld⟩:=EV cl Dk.rat;cases LdB.uniq eY ld Dk.ldb (ql.trans Dk.len.symm);have few:=A.few;have dl:=A.len;have Rl:=Dk.ev.len;have Ol:=O.len;obtain⟨bs,hbs⟩:∃bs,bs=(qs.zip ys).map λx=>decide (x.1=x.2):=#[_,rfl];(have ebs:((qs.zip ys).map λx=>D.bl (decide (x.1=x.2)))=bs.map D.bl:=by rw[hbs,cD];rfl);(have bsl:bs.length=ag:=by rw[hbs,bq,lZ,ql,O.yl,Nat.min_self]);(have bsg:∀x<ag,[PB,x]=decide (qs.getD x (0,1)=ys.getD x (0,1)):=λx hx=>by grind);refine#[R,qs,[ώ,sA [ϋ,q1] (sA [ϋ,q2] (sA (cA (pA rfl rfl) pD (by rw[lZ];lia) (λx hx=>#[_,by unfold YS;rfl,[η,rfl,E3]]) ebs) [ϣ,cA (v:=λj=>ssD UO (Z5 (aG.getD j []) [L2,j] (R.getD j []) qs ys)) (Ed rfl rfl rfl) (λi=>by rw[D7];congr 2;apply jY;intro j;rw[bo,bo];by_cases hj:j<aG.length;rw[kZ hj];rw[(bU (z:=(TQ (aG.getD j []),optR [L2,j],ssD UO (R.getD j [])))).mpr #[by rw[bo,getD_at' hj ([])];rfl,bU.mpr #[by rw[bo,getD_at' (show j<av.length by rwa [Ol]) ng];rfl,by rw[bo,getD_at' (show j<R.length by rwa [Rl]) []];rfl]]];rfl;rw[gf ε,gf (by rw[k6];exact qN hj)];rfl) (by rw[k6];lia) (λj hj=>?_) ?_]))],Dk];have hj:=dA.mp hj;have oI:=getD_at' hj ([]);have lt:=(rows.2 _ (aM oI)).2.2;(have ek:keptS (aG.getD j []) [L2,j] bs=YU (aG.getD j []) [L2,j] qs ys:=by cases ho:[L2,j]with| none=>rfl| some row =>show List.any _ _=List.any _ _;rw[gb,gU,gU];have bE:∀x∈(aG.getD j []).zip row,[PB,x.1]=decide (qs.getD x.1 (0,1)=ys.getD x.1 (0,1)):=λx hx=>bsg x.1 (lt x.1 'y'.1);exact#[λ#[x,hx,z]=>#[x,hx,by rwa [bE x hx] at z],λ#[x,hx,z]=>#[x,hx,by rwa [bE x hx]]]);have ik:=zba (h:=h) (o:=[L2,j]) (cf (lD (rows.2 _ (aM oI)).2.1 lt) SJ) (λx hx=>by rw[bsl];exact lt x hx) λrow e=>O.row j _ row oI (by rw[getD_at' (show j<av.length by rwa [Ol]) ng,e]);rw[ek] at ik;refine#[_,by unfold rN3;rfl,?_];unfold Z5;by_cases c:YU (aG.getD j []) [L2,j] qs ys=tj;rw[c] at ik;rw['-'];refine(EG (aO [ϋ,ik])).trans ?_;(cases ho:[L2,j]with| none=>rw[ho] at c;cases c| some row=>rfl);rw[fJ.mpr c] at ik;rw[Cx];exact(EH (aO [ϋ,ik])).trans rfl;unfold X5;rw[cD];rfl
end
end NAY
namespace NAM
open PySem PySem.Spec PyProof.Rows NAL NAL.EX NAL.RX
def lb:Nat->Option (Nat×RE)| 0=>se (1,TP gGt [qo,[΢,0]] [΢,0])| _=>ng
def Zf:=UL fh 1 0 (TN (Wa (ZN 3 ξ) (Wa (xav gLe gLe [΢,1] (Ui Ur (Tg ξ Tk)) [΢,12]) (Ui (xal xbM) (Tg (Wv ["sign"] fh LO 1 [] ϝ UB (xav gLe gLe [Ϲ,"a"] ξ [Ϲ,"z"])) Tk)))))
def XH:=UL fh 1 0 (Uc (WV (TJ (Ui Zf (Tg ξ Tk)))) Wu TY)
abbrev xaP:RS:=(Ts [π,Wv ["hand","number_of"] fh (Vb (TK [NR,ύ] [΢,1])) 1 [3] ϝ [τ,Rv,ξ,ο] [σ,ξ],5] (Uc [τ,gGt,Ui Ur (Tg ϡ Tk),[΢,0]] [υ,Xx (Yg [ϙ,1,1] (Tg ύ Tk)),Xx (Yg [ϙ,1,2] (Tg (TK [NR,ύ] [΢,0]) Tk)),Xx (Yg [ϙ,1,3] (Tg ϡ Tk))] TY))
def Y2:=UL fh 3 3 [υ,Z4 1 0 (ξ) (Wv ["hand","crew"] fh M1 1 [1] ϝ (TJ [σ,ξ]) ξ),Z4 1 1 (ξ) (Un tj Tk),[υ,Z4 1 2 (ξ) (Un tj Tk),Z4 1 3 (ξ) (Un tj Tk),Ts [π,Ui (X7 fh) (Tg (Wv ["number","hand"] fh (rIe [ϙ,1,0]) 2 [] (YS 0 1) UB (VF [϶,Tg ξ Tk])) Tk),3] (U8 (Vb ς) (rN 4) xaP)]]
def U2:=UL fh 2 0 (TN (Wv ["number","self"] fh M1 1 [0] ϝ UB (TK (Ub 1 0 ο) ξ)))
def VM:=UL fh 4 2 [υ,[π,TK (Ub 1 1 ο) ς,4],Uc (rOr [τ,ϯ,ύ,ό] [τ,Lu,ύ,[ϙ,2,2]]) (TN Ss) TY,[υ,[π,TL 1 U2 ο (Tg (TK (Ub 1 3 ο) ς) Tk),5],Uc (TJ (Ui Ji (Tg (Wv ["hand","doers"] fh (Vb (TK [ϙ,2,2] ύ)) 1 [5] ϝ UB (TP Lu (ξ) ο)) Tk))) (TN Ss) TY,TN (Wv ["hand","self","chore"] fh (Vb ϡ) 1 [0,4] ϝ UB (xau (TK (Ub 2 2 ο) ς) ξ (rC (.tup [M4,LJ]))))]]
def VQ:=UL fh 2 1 (Ts [π,Wv ["hand","self","burdens"] fh M1 1 [0,1] ϝ UB (VF [lP,Tg (xau (Ub 2 3 ο) ξ (rC (.tup [M4,LJ]))) (Tg [NR,ξ] Tk)]),2] (TN (Wv ["change"] fh (Vb ς) 1 [] ϝ [τ,VI tj,[qo,[΢,1]],[qo,[΢,2]]] ξ)))
abbrev zdt:RS:=(YQ (Ui (X7 fh) (Tg (Wv ["pair","is_above"] fh (rIz [ϖ,1,U2,Tg ϡ Tk] ϸ) 1 [2] ϝ (TJ (xa7 lb ο (Tg [qo,[΢,1]] Tk))) ξ) Tk)) ό ύ)
def WM:=UL fh 3 4 [υ,[π,YR tj,3],U8 (rIz3 [ϙ,1,1] [ϙ,1,3] ο) (rN3 4 5 6) zdt,TN (rFz ό)]
def UT:=UL fh 4 7 [υ,[π,Ui (ZS 1 Y2) [϶,Tg ς Tk],4],[π,Ui Ur (Tg (Ub 1 0 ύ) Tk),5],[υ,[π,Wv ["place","self","roll","touched"] fh (rIr (Tg (Ui Ur (Tg (Ub 1 1 ύ) Tk)) Tk)) 1 [0,4,3] ϝ UB (TL 2 VM ο [Zk,[lP,Tg ό Tk]]),6],[π,Wv ["hand","self"] fh (Vb (Ub 1 0 ύ)) 1 [0] ϝ UB (xau (Ub 2 3 ο) ξ (rC (.tup [M4,LJ]))),7],[υ,[π,Ui Z8 (Tg (Ub 1 2 ύ) (Tg (Ub 1 3 ύ) (Tg ϡ (Tg ϸ (Tg (rV 7) Tk))))),8],[π,Ui (X7 tj) (Tg (Wv ["hand"] fh M1 1 [] ϝ UB (VF [lP,Tg (rC (.tup [M4,LJ])) Tk])) Tk),9],[υ,xbA 9 (Xx (rUpd (rV 9) (rDz tj (Ub 1 0 ύ) (Ui Vn (Tg (Ub 1 3 ύ) (Tg ϡ (Tg (rV 8) Tk))))))),[π,[ϖ,2,VQ,Tg (rV 9) Tk],10],[υ,Z4 2 0 (ξ) ο,Z4 2 1 (ξ) ς,[υ,Z4 2 2 (ξ) (TL 1 WM ύ (Tg (rV 8) (Tg (rLam 0) Tk))),Z4 2 3 (ξ) (rV 9),Ts (Z4 2 4 (ξ) Ss) (TN (rV 10))]]]]]]
def Vq:=UL fh 3 1 [υ,[π,Ui (X7 tj) (Tg [ϙ,2,0] Tk),3],xbA 3 (YQ ς ό ο),TN [ϖ,2,UT,Tg ό (Tg [ϙ,2,1] (Tg Ss Tk))]]
def WZ:=UL fh 2 0 [υ,Xx (Ui XH (Tg ο Tk)),Uc [τ,Rv,ο,[ϙ,2,0]] Wu TY,Ts (Uc [τ,gGe,Ui Ur (Tg [ϙ,2,0] Tk),[΢,40]] Wu TY) (TN [ϖ,2,Vq,[϶,Tg (rC ϻ) Tk]])]
def Ut:=UL fh 2 0 (Uc [τ,Lu,ο,[ϙ,2,0]] (rRaise 4 (Tg [Ϲ,"there is no hand of this name"] Tk)) TY)
def Vp:=UL fh 4 1 [υ,[π,Ui (X7 tj) (Tg [ϙ,2,1] Tk),4],xbA 4 (YQ (VF [Zk,Tg ό Tk]) ύ ο),TN [ϖ,2,UT,Tg [ϙ,2,0] (Tg ύ (Tg ο Tk))]]
abbrev xaR:RS:=(Xx [ϖ,2,Ut,Tg ύ Tk])
def Y4:=UL fh 4 1 [υ,Xx (Ui XH (Tg ο Tk)),Uc [τ,Rv,ο,[ϙ,2,1]] Wu TY,[υ,Uc [τ,gLt,ς,[΢,1]] Wu TY,Uc [τ,ϯ,Ui Ur (Tg ό Tk),[΢,0]] Wu TY,[υ,U8 J8 (rN 4) xaR,Uc [τ,gLt,rLs ό,Ui Ur (Tg ό Tk)] Wu TY,Ts (Uc [τ,gGe,Ui Ur (Tg [ϙ,2,1] Tk),[΢,40]] Wu TY) (TN [ϖ,2,Vp,[϶,[Zk,Tg (Wv ["hand","names"] fh (Vb [ϙ,2,0]) 1 [3] ϝ [τ,Rv,ξ,ο] ξ) Tk]]])]]]
def UU:=UL fh 2 0 (Uc [τ,Lu,ο,[ϙ,2,1]] Wu TY)
def Ys:=UL fh 2 1 [υ,Xx [ϖ,2,UU,Tg ο Tk],[π,Ui (X7 tj) (Tg [ϙ,2,1] Tk),2],Ts (xbA 2 (Xx (xaY ς ο))) (TN [ϖ,2,UT,Tg [ϙ,2,0] [Zk,Tg ο Tk]])]
def W1:=UL fh 4 2 [υ,Xx [ϖ,2,UU,Tg ο Tk],[π,TK [ϙ,2,1] ο,4],[υ,[π,[Hb,TK ύ [΢,0],[OQ,ό,ς]],5],Uc (rOr [τ,gLt,ς,[΢,1]] [τ,gLt,ϡ,[΢,1]]) Wu TY,TN [ϖ,2,Vp,[϶,Tg ϡ (Tg (TK ύ [΢,1]) Tk)]]]]
def Yq:=UL fh 3 0 (TN [ϖ,2,W1,[϶,[Zk,Tg [΢,1] Tk]]])
def XW:=UL fh 3 0 (TN [ϖ,2,W1,[϶,[Zk,Tg (rUn xaG [΢,1]) Tk]]])
def WY:=UL fh 3 0 [υ,Xx [ϖ,2,Ut,Tg ο Tk],Uc [τ,ϯ,TK [ϙ,2,0] ο,ς] Wu TY,TN [ϖ,2,Vq,[϶,Tg ς Tk]]]
def Yu:=UL fh 2 0 (TN [ϖ,2,WY,[϶,Tg (rC (SY)) Tk]])
def Yt:=UL fh 2 0 (TN [ϖ,2,WY,[϶,Tg (rC ϻ) Tk]])
def Uu:=UL fh 2 0 (Ts (Xx [ϖ,2,Ut,Tg ο Tk]) (TN (TK [ϙ,2,3] ο)))
def Wg:=UL fh 2 0 (Ts (Xx [ϖ,2,UU,Tg ο Tk]) (TN (xa8 fh (xau [ϙ,2,2] ο (YR fh)))))
def XV:=UL fh 1 0 (TN (Ui (ZT fh) (Tg [ϙ,2,0] Tk)))
def U9:=UL fh 1 0 (TN (Ui (ZT fh) (Tg [ϙ,2,1] Tk)))
def ZE:=UL fh 2 0 (TN (TP gLt [OQ,[qo,[΢,0]],[σ,[΢,1]]] [OQ,[σ,[΢,0]],[qo,[΢,1]]]))
def YZ:=UL tj 2 0 (TN (Wv ["chore","house","names"] tj (Vb [ϖ,2,U9,Tk]) 1 [0,1] ϝ (TJ (Ui Ji (Tg (Wv ["pair","names"] fh (Vb (TL 2 Wg ο (Tg ξ Tk))) 1 [2] ϝ UB (TP Rv [qo,[΢,0]] ο)) Tk))) ξ))
end NAM
namespace NAY
open PySem NAL NAL.EX NAL.RX NAM
section
variable {α:Type}{h h':TH}{f:α->D}{l:List (To×α)}{k:To}{a:α}{i n m:Nat}
noncomputable def UH (l:List (To×α)):Ϟ:=l.map λp=>.inr p.1
noncomputable def Vt (f:α->D) (l:List (To×α)):θ:=l.map λp=>f p.2
noncomputable def Ya (f:α->D) (l:List (To×α)):D:=.dic '/' (Vt f l)
noncomputable def Uw (k:To):List (To×α)->Sw| []=>ng| p::l=>if p.1=k then se p.2 else Uw k l
noncomputable def putS (k:To) (a:α):List (To×α)->List (To×α)| []=>[(k,a)]| p::l=>if p.1=k then(p.1,a)::l else p::putS k a l
theorem dW:Uw k (p::l)=if p.1=k then se p.2 else Uw k l:=rfl
theorem rf:putS k a (p::l)=if p.1=k then(p.1,a)::l else p::putS k a l:=rfl
theorem tH:kEq (.inr x) (.inr y)=decide (x=y):=nX x y
theorem tI:lk JU '/' (Vt f l)=(Uw k l).map f:=by induction l with| nil=>rfl| cons p l ih =>show(bif kEq (.inr p.1) (.inr k) then se (f p.2) else lk (.inr k) (UH l) (Vt f l))=_;rw[tH,ih];rw[dW];by_cases c:p.1=k;rw[Tc c,Ta c];rfl;rw[Tf c,S9 c];rfl
theorem E4:WR JU '/'=UH (putS k a l):=by induction l with| nil=>rfl| cons p l ih =>show(bif kEq (.inr p.1) (.inr k) then Sum.inr p.1::UH l else Sum.inr p.1::WR (.inr k) (UH l))=_;rw[tH,ih];rw[rf];by_cases c:p.1=k;rw[Tc c,Ta c];rfl;rw[Tf c,S9 c];rfl
theorem E5:Yz JU (f a) '/' (Vt f l)=Vt f (putS k a l):=by induction l with| nil=>rfl| cons p l ih =>show(bif kEq (.inr p.1) (.inr k) then f a::Vt f l else f p.2::Yz (.inr k) (f a) (UH l) (Vt f l))=_;rw[tH,ih];rw[rf];by_cases c:p.1=k;rw[Tc c,Ta c];rfl;rw[Tf c,S9 c];rfl
noncomputable def WH (k:To) (l:List (To×α)):List (To×α):=l.filter λp=>decide (p.1≠k)
theorem zeB:Xr JU '/'=UH (WH k l):=by induction l with| nil=>rfl| cons p l ih =>show(bif kEq (.inr p.1) (.inr k) then Xr (.inr k) (UH l) else Sum.inr p.1::Xr (.inr k) (UH l))=_;rw[tH,ih];unfold WH;by_cases c:p.1=k;rw[Tc c,uX (by simp_all)];rfl;rw[Tf c,uY (by simp_all)];rfl
theorem zdf:WO JU '/' (Vt f l)=Vt f (WH k l):=by induction l with| nil=>rfl| cons p l ih =>show(bif kEq (.inr p.1) (.inr k) then WO (.inr k) (UH l) (Vt f l) else f p.2::WO (.inr k) (UH l) (Vt f l))=_;rw[tH,ih];unfold WH;by_cases c:p.1=k;rw[Tc c,uX (by simp_all)];rfl;rw[Tf c,uY (by simp_all)];rfl
noncomputable def Tu (l:List (To×α)):μ:=l.map (·.1)
theorem cW (h:Uw k l=Ϸ):(k,a)∈l:=by induction l with| nil=>cases h| cons p l ih =>rw[dW] at h;grind
theorem US:Uw k l=ng↔k∉'a':=by induction l with| nil=>exact#[λ_ z=>(by cases z),λ_=>rfl]| cons p l ih =>rw[dW];by_cases c:p.1=k;grind[absurd,Tu];rw[S9 c,ih];unfold Tu;grind
theorem zaS:(Uw k l).isSome=decide (k∈'a'):=by cases e:Uw k l with| none=>rw[Tf (US.mp e)];rfl| some a=>rw[Tc (show k∈'a' from aU.mpr #[_,fP,rfl])];rfl
theorem d9 (nd:'a'.Nodup)(h:(k,a)∈l):Uw k l=Ϸ:=by induction l with| nil=>cases h| cons p l ih =>rw[dW];have ij:=eW.mp nd;rcases bi.mp h with z | z;rw[<-z,Ta rfl];rw[S9 λc=>ij.1 (aU.mpr #[(k,a),z,c.symm])];exact ih ij.2 z
theorem wc (nd:'a'.Nodup):kNd '/'=tj:=by induction l with| nil=>rfl| cons p l ih =>have ij:=eW.mp nd;show(!xaT (.inr p.1) (UH l)&&kNd (UH l))=tj;rw[ih ij.2,wW,kR];refine fJ.mpr λz=>ij.1 ?_;obtain⟨q,hq,e⟩:=aU.mp ((DI _ _).mp z);exact aU.mpr #[q,hq,Sum.inr.inj e]
theorem tJ:'/'.length=l.length:=bq _
theorem mn (h:k∈'a'):Tu (putS k a l)='a':=by induction l with| nil=>cases h| cons p l ih =>rw[rf];by_cases c:p.1=k;rw[Ta c];rfl;grind[Tu,putS]
theorem rg (h:k∉'a'):putS k a l=l++[(k,a)]:=by induction l with| nil=>rfl| cons p l ih =>rw[rf];rw[S9 λc:p.1=k=>h (c▸List.Mem.head _),ih λz=>h (.tail _ z)];rfl
theorem zcE:nKs ks h i=se ((ks.map kd)[i]?):=by show se (Wm (eg ks i) kd)=_;rw[aX,bo];cases ks[i]?<;>rfl
theorem rj (i:Nat):nKs '/' h i=se ((l.map λp=>D.str p.1)[i]?):=by rw[zcE];unfold UH;rw[cD];rfl
theorem xbr:Ym neg OK (Ya f l) h=.ok (.bl (neg^^decide (k∈'a'))) h:=by show(match lk JU '/' (Vt f l)with| some _=>[NK,neg^^tj,h]| none=>[NK,neg^^fh,h])=_;rw[tI,<-zaS];cases Uw k l<;>rfl
theorem ko (z1:fa ρ h=[χ,Ya f l])(z2:fb ρ h'=[χ,OK])(z3:Uw k l=Ϸ):TK fa fb ρ h=[χ,f a]:=aH z1 z2 (by show T5 (lk JU '/' (Vt f l)) _=_;rw[tI,z3];rfl)
theorem we (z1:fa ρ h=[χ,Ya f l])(z2:fb ρ h'=[χ,OK])(z3:fc ρ h'=[χ,f z]):xau fa fb fc ρ h=[χ,f ((Uw k l).getD z)]:=by unfold xau;rw[z1];show[mt,fb ρ h']=_;rw[z2];show[mt,fc ρ h']=_;rw[z3];show(match lk JU '/' (Vt f l)with| some d=>R.ok d h'| none=>R.ok (f z) h')=_;rw[tI];cases Uw k l<;>rfl
theorem E6:Ur [Ya f l] h=.ok K8 h:=by show R.ok [N3,UJ '/'] h=_;rw[aW,tJ];rfl
theorem zm {m:Bool}:ZT m [Ya f l] h=mk m ('a'.map .str) h:=by show mk m (kds '/') h=_;(have:kds '/'='a'.map D.str:=by induction l with| nil=>rfl| cons p l ih=>show kd (.inr p.1)::kds (UH l)=_;rw[ih];rfl);rw[this]
theorem zn {m:Bool}(nd:'a'.Nodup):X7 m [[L7,λp=>.tup [.str p.1,f p.2]]] h=mkD m '/' (Vt f l) h:=by have e1:T6 prK (l.map λp=>D.tup [.str p.1,f p.2])=se '/':=mj λp _=>rfl;have e2:T6 prV (l.map λp=>D.tup [.str p.1,f p.2])=se (Vt f l):=mj λp _=>rfl;show T5 (T6 prK (l.map λp=>D.tup [.str p.1,f p.2])) _=_;rw[e1];show T5 (T6 prV (l.map λp=>D.tup [.str p.1,f p.2])) _=_;rw[e2];rw[wc nd];rfl
theorem xbK {m:Bool}:X7 m [Ya f l] h=mkD m '/' (Vt f l) h:=rfl
theorem zah {m:Bool}(z:fa ρ h=[χ,Ya f l])(hl:l.length<=1000):xa8 m fa ρ h=mk m (l.map λp=>.tup [.str p.1,f p.2]) h':=by unfold xa8;rw[z];show Uf (bR (UJ '/') 1000) (mk m (prs '/' (Vt f l)) h')=_;rw[aW,tJ,QD];(have:prs '/' (Vt f l)=l.map λp=>D.tup [.str p.1,f p.2]:=by clear hl z;induction l with| nil=>rfl| cons p l ih=>show D.tup [kd (.inr p.1),f p.2]::prs (UH l) (Vt f l)=_;rw[ih];rfl);rw[this];rfl
theorem pE (hf:∀a,cd n m (f a)):cd n (m+1) (Ya f l):=λd hd=>by obtain⟨p,_,rfl⟩:=PM;exact hf p.2
theorem zq {ks:μ}:Ym neg OK (.lst (ks.map .str)) h=.ok (.bl (neg^^decide (k∈ks))) h:=by have e1:T6 xb0 (ks.map D.str)=se O3:=mj λp _=>rfl;(have e2:vIn OK O3=se (decide (k∈ks)):=by clear e1;induction ks with| nil=>rfl| cons x ks ih =>show Wm (vIn (.str k) (ks.map V.str)) (λr=>sEq x k||r)=_;rw[ih];show se (sEq x k||decide (k∈ks))=_;rw[nX];congr 1;rw[gb];simp only[rH,decide_eq_true_eq,bi];exact or_congr_left eq_comm);show T5 (T6 xb0 (ks.map D.str)) _=_;rw[e1];show T5 (vIn OK O3) _=_;rw[e2];rfl
end
abbrev bC:=List (To×Bool)
abbrev bw:=List (To×(Int× μ))
noncomputable def tkD (t:Int× μ):D:=.tup [.int t.1,.lst (t.2.map .str)]
noncomputable def Tp (c:bC):μ:=Tu (c.filter λp=>p.2)
noncomputable def Ww (p ns:μ):xat:=(ns.filter λx=>decide (x∈p)).map λx=>O9
noncomputable def Va (p:μ) (t:bw):bw:=t.filter λq=>decide (0<(Ww p q.2.2).length)
noncomputable def dealtD (l:bw):D:=[L7,λq=>.str q.1]
noncomputable def worksD (l:bw):D:=[L7,λq=>.int q.2.1]
noncomputable def xbc (p:μ) (l:bw):D:=[L7,λq=>TQ (Ww p q.2.2)]
noncomputable def VV (c:bC) (t:bw):θ:=[.lst ('#'.map .str),dealtD [ϰ,t],worksD [ϰ,t],xbc '#' [ϰ,t]]
section
variable {h h0 t:TH}{c:bC}{tk:bw}{p:μ}{i:Nat}{x:To}
theorem MJ (nd:p.Nodup):∀{n:Nat},Uw x (p.zipIdx n)=if x∈p then se (O9+n)else none:=by induction p with| nil=>intro n;rfl| cons y p ih =>intro n;have ij:=eW.mp nd;rw[List.zipIdx_cons,dW,ih ij.2];grind
theorem E7:Tu (p.zipIdx)=p:=by exact List.zipIdx_map_fst 0 p
theorem lK (nd:'+'.Nodup):'#'.Nodup:='|'.nodup nd
theorem zr:'#'.length<=c.length:=by unfold Tp Tu;rw[bq];exact fK _ _
theorem zfq (nd:p.Nodup)(ndt:(Tu tk).Nodup)(hq:q∈tk)(hl:q.2.2.length<1000) :Wv ["hand","number_of"] fh (Vb (TK [NR,ύ] [΢,1])) 1 [3] ϝ [τ,Rv,ξ,ο] [σ,ξ] [me,cr,se (Ya tkD tk),se (Ya nD p.zipIdx),se (.str q.1),y] h=.ok (TQ (Ww p q.2.2)) h:=by(have e:=sP (fi:=Vb (TK [NR,ύ] [΢,1])) (fg:=ϝ) (fT:=[τ,Rv,ξ,ο]) (fa:=[σ,ξ]) (ρ:=[me,cr,se (Ya tkD tk),se (Ya nD p.zipIdx),se (.str q.1),y]) (N:=["hand","number_of"]) (n:=1) (fr:=[3]) (b:=fh) (v:=λx=>nD O9) (by have a2:TK [NR,ύ] [΢,1] [me,cr,se (Ya tkD tk),se (Ya nD p.zipIdx),se (.str q.1),y] h=.ok (.lst (q.2.2.map .str)) h:=[η,ko rfl rfl (d9 ndt hq),rfl];unfold Vb;rw[a2];rfl) cY hl λx hx=>by refine#[[Md,se (Ya nD p.zipIdx)],rfl,aO [η,rfl,xbr.trans ?_],λhp=>?_];rw[E7,mW];refine ko rfl rfl ?_;rw[MJ nd,Ta (Td hp)];rfl);rw[e];unfold Ww TQ;rw[cD];rfl
theorem E8:Va p (l++[q])=Va p l++(if 0<(Ww p q.2.2).length then[q]else[]):=by unfold Va;grind
theorem ML {c:Nat}(cl:Cl h0)(z:fzo (h0++ .mi c ds::t) (h0.length+1) (.mi c ds)=[ϟ,c,ds'])(nt:t≠[]):[Si,h0.length+1,h0++ .mi c ds::t]=[Kf,h0++[.mi c ds']]:=by unfold trunc;rw[aW,show bW (h0++ .mi c ds::t).length (h0.length+1)=fh from fJ.mpr λy=>ε];(have tk:etk (h0.length+1) (h0++ .mi c ds::t)=h0++[.mi c ds]:=by rw[sM,Bq,d8 (l7 _),BJ];rfl);rw[tk,Ex (yO λx hx=>sO (pj (l7 _) (cl x hx))) (show T6 _ [TM.mi c ds]=se [TM.mi c ds']from TW.mpr #[_,_,z,rfl,rfl])];rfl
theorem za5 (cl:Cl h0)(ndc:'+'.Nodup)(ndt:(Tu tk).Nodup)(lc:c.length<=40)(lt:tk.length<=40)(ln:∀q∈tk,q.2.2.length<=40):ZS 1 Y2 [Ya .bl c,Ya tkD tk] h0=.ok (.at h0.length) (h0++[.mi 1 (VV c tk)]):=by have pnd:=lK ndc;have pl:=cf zr lc;(have nl:∀{ρ F t},Un tj Tk ρ (h0++ .mi 1 F::t)=.ok (.at (h0.length+(t.length+1))) (h0++ .mi 1 F::(t++[.ml []])):=by intros;rw[Zu];simp);refine zdX [ώ,sI (cM rfl rj (NAG.gl32 lc) (λx hx=>#[_,rfl,aO (ko rfl rfl (d9 ndc hx)),λ_=>rfl]) (L:='#'.map .str) (by simp[Tp,Tu])) rfl (sI nl rfl (sI nl rfl (sI nl rfl (sA (aK [ν,cA (sU [Ϗ,Um,rfl]) v7 (by rw[qI];exact NAG.gl32 pl) (λx hx=>#[_,by unfold YS;rfl,rfl]) rfl] (zn (f:=nD) (by rwa [E7]))) ?_))))];refine zeV (fG (λi ρ h=>(∃x y,ρ=[se (.at h0.length),se (Ya .bl c),se (Ya tkD tk),se (Ya nD '#'.zipIdx),x,y])/\h=h0++[.mi 1 [.lst ('#'.map .str),.at (h0.length+1),.at (h0.length+2),.at (h0.length+3)],.ml ([ϰ,IG].map λq=>.str q.1),.ml ([ϰ,IG].map λq=>.int q.2.1),.ml ([ϰ,IG].map λq=>TQ (Ww '#' q.2.2))]) rfl (λi _ _ _=>rj i) (NAG.gl32 lt) #[#[_,_,rfl],rfl] λi q ρ h hq #[#[x,y,e1],e2]=>?_) λh #[ρ,_,e]=>?_;subst e1 e2;have mq:=aM hq;(have uk:tk.take (i+1)=IG++[q]:=by rw[qK,hq];rfl);have ll:[ϰ,IG].length<=40:=cf (fK _ _) (cf (Ba _ _) lt);refine#[_,rfl,nA (zfq pnd ndt mq (by have:=ln q mq;exact Od)) ?_];by_cases z:0<(Ww '#' q.2.2).length;refine nT (aO [η,[ϋ,eV],by rw[gt_int,Tc ε]]) (nD' (pr [Ϗ,Um,rfl] rfl rfl (by simp;exact NAG.gl31 ll)) (nD' (pr [Ϗ,Um,rfl] rfl [ν,[η,ko rfl rfl (d9 ndt mq),rfl]] (by simp;exact NAG.gl31 ll)) (nE (fQ (pr [Ϗ,Um,rfl] rfl rfl (by simp;exact NAG.gl31 ll))) #[#[_,_,rfl],?_])));rw[uk,E8,LN];simp;refine nF (aO [η,[ϋ,eV],by rw[gt_int,Tf (by simp[*])]]) (nE rfl #[#[_,_,rfl],?_]);rw[uk,E8,Sg,k8];rw[e,lY,eE];refine ML cl ?_ (by simp);refine congrArg (Wm · (TM.mi 1)) (show T6 (fz _ (h0.length+1) 9) _=se (VV c tk)from ?_);exact TW.mpr #[_,_,iR 9 λd hd=>cdm (λ_=>by trivial) d hd,TW.mpr #[_,_,vX ε XY (cdm λ_=>by trivial),TW.mpr #[_,_,vX ε XY (cdm λ_=>by trivial),TW.mpr #[_,_,vX ε XY (cdm λ_ d hd=>cdm (λ_=>by trivial) d hd),rfl,rfl],rfl],rfl],rfl]
theorem MN (e:h[i]?=[ϟ,1,.lst (p.map .str)::F])(hr:∀x∈rs,x<p.length)(hl:rs.length<1000):U2 [.at i,TQ rs] h=.ok (.lst ((rs.map λx=>p.getD x "").map .str)) h:=by have q:=vU (fi:=M1) (fg:=ϝ) (fa:=TK (Ub 1 0 ο) ξ) (ρ:=[se (.at i),se (TQ rs)]) (N:=["number","self"]) (n:=1) (fr:=[0]) (b:=fh) rfl cY hl λx hx=>#[[se (nD x),se (.at i)],rfl,[η,[Ϗ,e,rfl],by show T5 (eat (p.map D.str) (x:Int)) _=_;rw[Xm,bo,getD_at' (hr x hx) ""];rfl]];refine nZ rfl (jw (q.trans ?_)) rfl;rw[cD];rfl
end
abbrev Row:=List (To×(xaE))
noncomputable def Yl (c:bC) (t:bw) (rw:List (To×Row)) (bu:Row):θ:=[Ya .bl c,Ya tkD t,Ya (Ya UO) rw,Ya UO bu,.non]
noncomputable def xa3:MX->D| none=>.non| some x=>Ϯ
noncomputable def U6 (p:μ) (q:To×(Int× μ)):μ:=q.2.2.filter λx=>decide (x∈p)
noncomputable def VC (p:μ) (rw:List (To×Row)) (to:MX) (q:To×(Int× μ)):Qs :=if to=se q.1 then ng else match Uw q.1 rw with| none=>ng| some r=>if(Tu r).any λx=>[IT,x,U6 p q]then ng else se ((U6 p q).map λx=>(Uw x r).getD (0,1))
noncomputable abbrev ZG (x:To):Prop:=WG 60 Ϯ=tj
section
variable {h h':TH}{c c':bC}{tk bD:bw}{p:μ}{i j k m:Nat}{x:To}{rw:List (To×Row)}{bu oG:Row}{q:To×(Int× μ)}{to:MX}
theorem E9:∀x∈Ww p ns,x<p.length:=λx hx=>by obtain⟨y,hy,rfl⟩:=NB;exact gF (Td 't'.2)
theorem zaY:(Ww p ns).length<=ns.length:=by unfold Ww;rw[bq];exact fK _ _
theorem lM (hy:y∈p):p.getD Oh ""=y:=by have l:=gF hy;rw[bO,aV l,u6];rfl
theorem MP:(Ww p ns).map (λx=>p.getD x "")=ns.filter λx=>decide (x∈p):=by unfold Ww;rw[cD];refine(cH λy hy=>?_).trans (xJ _);exact lM (Td 't'.2)
theorem MQ (hx:ZG x)(ht:∀y,to=Ϫ->ZG y):VI fh Ϯ (xa3 to) h=.ok [M2,to=ω] h:=by cases to with| none =>show Uf (WG 60 Ϯ&&tj) [NK,fh,h]=_;rw[hx];rfl| some y =>show VI fh Ϯ MH h=_;rw[eq_str hx (ht y rfl),mW];congr 2;rw[gb];simp only[decide_eq_true_eq,Option.some.injEq];exact eq_comm
theorem Fa (er:h[j]?=[ϟ,1,VV c' bD])(hl:q.2.2.length<=40):U2 [.at j,TQ (Ww '*' q.2.2)] h=.ok (.lst ((U6 '*' q).map .str)) h:=by have e:=MN (p:='*') (rs:=Ww '*' q.2.2) er E9 (by have:=zaY (p:='*') (ns:=q.2.2);lia);rw[MP] at e;exact e
theorem Fb (z:fa ρ h=[χ,Ya f l]):Vb fa ρ h=[χ,nKs '/']:=by unfold Vb;rw[z];rfl
theorem zd6 (eh:h[i]?=[ϟ,2,Yl c tk rw bu])(er:h[j]?=[ϟ,1,VV c' bD])(hk:[LQ,bD][k]?=Ϡ)(hx:ZG q.1)(ht:∀y,to=Ϫ->ZG y)(hl:q.2.2.length<=40)(rl:∀r,Uw q.1 rw=ϊ->r.length<=40) :VM [.at i,.at j,nD k,xa3 to] h=.ok (optR (VC '*' rw to q)) h:=by have t1:=MQ (h:=h) hx ht;have t2:=xbr (h:=h) (neg:=tj) (k:=q.1) (f:=Ya UO) (l:=rw);unfold VM VC;refine[ώ,sA (gH [Ϗ,er,rfl] rfl hk) ?_];by_cases z:to=se q.1;rw[LN];rw[Tc z] at t1;exact sT (zex (aO [η,rfl,t1])) [ϣ,rfl];rw[Sg];rw[Tf z] at t1;cases hr:Uw q.1 rw with| none =>rw[Tf (US.mp hr)] at t2;exact sT ((v3 (aO [η,rfl,t1])).trans (aO (aH rfl [Ϗ,eh,rfl] t2))) [ϣ,rfl]| some r =>have rl:=rl r hr;have hn:q.1∈Tu rw:=aU.mpr #[_,cW hr,rfl];rw[Tc hn] at t2;refine sF ((v3 (aO [η,rfl,t1])).trans (aO (aH rfl [Ϗ,eh,rfl] t2))) (sA (cZ rfl er [ν,gH [Ϗ,er,rfl] rfl hk] (Fa er hl)) ?_);have an:=Zg (h:=h) (bs:=r.map λx=>[IT,x.1,U6 '*' q]);rw[show((r.map λx=>[IT,x.1,U6 '*' q]).any id)=(Tu r).any λx=>[IT,x,U6 '*' q]by simp[Tu,xI,Function.comp_def]] at an;refine sB (aO (aK [ν,cA (Fb (ko [Ϗ,eh,rfl] rfl hr)) rj (NAG.gl32 rl) (λx hx=>#[_,rfl,[η,rfl,zq]]) (by simp)] an)) (λy=>?_) λy=>?_;dsimp only;rw[Ta y];exact[ϣ,rfl];dsimp only;rw[S9 (by lia)];refine[ϣ,cA QM cY (ke (fK _ _) (NAG.gl32 hl)) (λx hx=>#[_,rfl,we (z:=((0,1))) (ko [Ϗ,eh,rfl] rfl hr) rfl rfl]) ?_];simp
noncomputable def xb8 (bu oG:Row):List (To×(xaE)×(xaE)):=(oG.map λp=>(p.1,(Uw p.1 bu).getD (0,1),p.2)).filter λx=>decide (x.2.1≠x.2.2)
noncomputable def xbL (x:To×(xaE)×(xaE)):D:=.tup [.str x.1,UO x.2.1,UO x.2.2]
theorem zu {p u:xaE}:VI tj LH (UO u) h=.ok [M2,p≠u] h:=by(have e0:VI tj LH (UO u) h=(VI fh LH (UO u) h).bnd λx h=>match x with| .bl b=>.ok (.bl (! b)) h| _=>.no:=by show Uf (WG 60 LH&&WG 60 (UO u)) (T5 (dEq 60 LH (UO u)) _)=[mt,Uf (WG 60 LH&&WG 60 (UO u)) (T5 (dEq 60 LH (UO u)) _)];cases WG 60 LH&&WG 60 (UO u)with| false=>rfl| true =>cases dEq 60 LH (UO u)with| none=>rfl| some b=>cases b<;>rfl);rw[e0,E3,decide_not];rfl
theorem zax (eh:h[i]?=[ϟ,2,Yl c tk rw bu])(nd:(Tu oG).Nodup)(hl:oG.length<=40):VQ [.at i,Ya UO oG] h=.ok (.lst ((xb8 bu oG).map xbL)) h:=by refine[ώ,sA (cA rfl rj (NAG.gl32 hl) (λx hx=>#[_,rfl,gY [Ϣ,aI (we (z:=(0,1)) [Ϗ,eh,rfl] rfl rfl) [ν,ko rfl rfl (d9 nd hx)]] rfl]) (by simp[xbL])) [ϣ,cM QM cY (by simp;exact NAG.gl32 hl) (λx hx=>#[_,rfl,aO [η,rfl,zu],λ_=>rfl]) (show _=(xb8 bu oG).map xbL from rfl)]]
noncomputable def YN (p:μ) (x:(To×(Int× μ))×xaj):Row:=((U6 p x.1).zip x.2).filter λy=>decide (0<y.2.1)
noncomputable def Xj (p:μ) (z:List ((To×(Int× μ))×xaj)):List (To×Row):=z.map λx=>(x.1.1,YN p x)
noncomputable def Vd (p:μ) (l:bw) (R:xab):List (To×Row):=Xj p 'S'
theorem zaC (z1:fa ρ h=.ok (.at m) h)(e:h[m]?=se (.mf 0))(z2:fb ρ h=.ok (UO u) h):xa7 lb fa (Tg fb Tk) ρ h=.ok [M2,0<u.1] h:=by(have em:eMf h (.at m)=se 0:=by grind[eMf,aX]);unfold xa7;rw[z1];show T5 (eMf h (.at m)) _=_;rw[em];rw[[ν,z2]];show T5 (eMf h (.at m)) _=_;rw[em];show R.nox (TP gGt [qo,[΢,0]] [΢,0] [se (UO u)] h)=_;rw[[η,rfl,gt_int]];rfl
theorem tK (z1:fv ρ h=.ok (f a) h)(z2:fx ρ h=.ok (.at i) h)(z3:fy ρ h=.ok (.str kx) h)(e:h[i]?=se [Ϻ,'/',f,l])(nd:'a'.Nodup)(hl:l.length<=1000):YQ fv fx fy ρ h=[IE,[ϭ,[Ϻ,UH (putS kx a l),f,putS kx a l]]]:=by(have e1:eMd h (.at i)=se (i,'/',Vt f l):=by unfold eMd;dsimp only;rw[aX,e]);(have e2:isD (.at i) h=tj:=by unfold isD eK;dsimp only;rw[aX,e]);unfold YQ;rw[z1];show[mt,fx ρ h]=_;rw[z2];show[mt,fy ρ h]=_;rw[z3];show(bif isD (.at i) h then gDput (.at i) (.str kx) (f a) ρ h else _)=_;rw[e2];show T5 (eMd h (.at i)) _=_;rw[e1];show Uf (kNd '/'&&bI (UJ '/') 16777216) _=_;rw[wc nd,aW,tJ,cF.mpr (NAG.gl63 hl)];show R.ok SL (hs h i (.md (WR (.inr kx) '/') (Yz (.inr kx) (f a) '/' (Vt f l))))=_;rw[jc,E4,E5]
theorem zbe (z:fa ρ (h++[[Ϻ,'/',f,l]])=.ok (.at h.length) (h++[[Ϻ,'/',f,l]])):rFz fa ρ (h++[[Ϻ,'/',f,l]])=.ok (Ya f l) (h++[.no]):=by unfold rFz;rw[z];show T5 (eMd _ (.at h.length)) _=_;(have:eMd (h++[[Ϻ,'/',f,l]]) (.at h.length)=se (h.length,'/',Vt f l):=by unfold eMd;dsimp only;rw[aX,Um];rfl);rw[this];show RX.R.ok (Ya f l) (hs _ h.length .no)=_;rw[jc,pq];rfl
theorem za2:YR tj ρ h=.ok (.at h.length) (h++[.md [] []]):=by show[P5,D.at Id,h,.md [] []]=_;rw[gm,gq]
theorem Fc:∀{l:List α} {R:List β},((l.map f1).zip ((l.map f2).zip (R.map f3))).map (λp=>D.tup [p.1,p.2.1,p.2.2])='S'.map λx=>.tup [f1 x.1,f2 x.1,f3 x.2]| [],_=>rfl| _::_,[]=>rfl| a::l,b::R=>by show D.tup [f1 a,f2 a,f3 b]::(((l.map f1).zip ((l.map f2).zip (R.map f3))).map λp=>D.tup [p.1,p.2.1,p.2.2])=_;rw[Fc];rfl
theorem Wy:∀{l:List α} {R:List β},('S'.map Prod.fst).Sublist l| [],_=>ε| _::_,[]=>ε| a::l,b::R=>.cons₂ a Wy
theorem zb2 {x:(To×(Int× μ))×xaj}(nd:x.1.2.2.Nodup):(Tu (YN p x)).Nodup:=((jN).map Prod.fst).nodup (Wy.nodup (jN.nodup nd))
theorem zbi {R:xab}(cl:Ϭ)(er:h[j]?=[ϟ,1,VV c' bD])(em:h[m]?=se (.mf 0))(nd:(Tu bD).Nodup)(hl:∀q∈bD,q.2.2.length<=40/\q.2.2.Nodup)(lt:bD.length<=40) :WM [.at j,.lst [Mu,UO],.at m] h=.ok (Ya (Ya UO) (Vd '*' [LQ,bD] R)) h:=by have lin:∀q∈[LQ,bD],q∈bD:=λq hq=>(bB.mp hq).1;have ll:[LQ,bD].length<=40:=cf (fK _ _) lt;have lnd:(Tu [LQ,bD]).Nodup:='|'.nodup nd;have e0:(VV c' bD)[1]?=se (dealtD [LQ,bD]):=rfl;have e2:(VV c' bD)[3]?=se (xbc '*' [LQ,bD]):=rfl;generalize[LQ,bD]=l at lin ll lnd e0 e2 ⊢;(have Fd:∀k,(Tu (Xj '*' ('S'.take k))).Nodup:=λk=>by(have e:Tu (Xj '*' ('S'.take k))=(('S'.take k).map Prod.fst).map Prod.fst:=by simp[Tu,Xj,Function.comp_def]);rw[e];exact(List.Sublist.map Prod.fst (((Bl k 'S').map Prod.fst).trans Wy)).nodup lnd);refine[ώ,sA za2 (sL (fG (l:='S') (λi ρ g=>(∃x y z,ρ=[se (.at j),[ϔ,[Mu,UO]],se (.at m),se (.at h.length),x,y,z])/\g=h++[[Ϻ,UH (Xj '*' ('S'.take i)),Ya UO,Xj '*' ('S'.take i)]]) (Ed [Ϗ,bv er,e0] [Ϗ,bv er,e2] rfl) (λi _ _ _=>by rw[D7,Fc]) (by grind) #[#[_,_,_,rfl],rfl] λi x ρ g hx #[#[a,b,c,e1],e2]=>?_) fun ρ g #[#[a,b,c,e1],e2]=>?_)];subst e1 e2;obtain⟨xs,xn⟩:=hl x.1 (lin x.1 (cg (a:=x.1) R7).1);(have uk:'S'.take (i+1)='S'.take i++[x]:=by rw[qK,hx];rfl);(have nw:x.1.1∉Tu (Xj '*' ('S'.take i)):=by have z:=Fd (i+1);rw[uk] at z;unfold Xj Tu at z;rw[dz,dz] at z;exactλw=>(k7.mp z).2.2 _ w _ (cO.mpr rfl) rfl);have Tnd:=Fd i;(have Te:Xj '*' ('S'.take (i+1))=putS x.1.1 (YN '*' x) (Xj '*' ('S'.take i)):=by rw[uk,rg nw];simp[Xj]);(have Tl:(Xj '*' ('S'.take i)).length<=1000:=by simp[Xj];exact NAG.gl69 ll);rw[Te];generalize Xj '*' ('S'.take i)=T at Tnd Tl ⊢;refine#[_,by unfold rN3;rfl,nE (tK (l:=T) (aK [ν,cM (pA (cZ rfl (bv er) rfl (Fa (bv er) xs)) rfl) pD (by grind[lZ,fK,Tp,U6]) (λy hy=>#[_,rfl,aO (zaC rfl (bv em) rfl),λ_=>rfl]) rfl] (zn (l:=YN '*' x) (zb2 xn))) rfl rfl Um Tnd Tl) #[#[_,_,_,rfl],?_]];rw[pq];rfl;subst e1 e2;rw[lY];exact sR (zbe rfl) (n5 cl (pE λa=>pE λb=>lJ))
end
section
variable {ws:xam}{aG:xag}{ag:Nat}{R R':xab}{qs:xaj}
theorem Fe (h:p.2∣M0):vl (M0*k) p=vl M0 p*k:=by grind[vl,i6,hO,M0,Int.mul_ediv_assoc]
theorem zee {s:xaj}(h:∀p∈s,p.2∣M0):(s.map (vl (M0*k))).sum='K'.sum*k:=by induction s with| nil=>rw[oX,rU,oX,rU,lX]| cons p s ih=>rw[bz,cq,bz,cq,ih λq hq=>h q (.tail _ hq),Fe (h p (.head _)),oP]
theorem zdW (h:∀x∈L,x.2.2∣M0):WS (M0*k) L g=WS M0 L g*k:=by unfold WS;induction L with| nil=>simp_all| cons p s ih =>rw[bz,cq,bz,cq,ih λq hq=>h q (.tail _ hq),Fe (h p (.head _)),oP];lia
theorem Ff (d:VE ws aG ag R qs)(x:MixOk ws aG ag R' qs):VE ws aG ag R' qs:=by refine#[#[x.len,x.row,λM hM dM i s hs=>?_,x.ok,λM hM dM g q hq=>?_,x.even],d.len,d.ok,d.rows,d.few,d.h12];obtain⟨k,rfl⟩:=dM;show(s.map (vl (M0*k))).sum=[Mg,i]*(M0*k);rw[zee λp hp=>(x.ok s (aM hs) p hp).2.2.1,x.sum i s hs,i6];obtain⟨k,rfl⟩:=dM;obtain⟨l,e⟩:=x.ld g q hq;refine#[l,?_];show q.1*(M0*k)=q.2*WS (M0*k) (Uv aG R') g;rw[zdW λy hy=>?_,<-i6,e,i6];obtain⟨z,hz,hy⟩:=jO.mp hy;exact(x.ok z.2 (cg hz).2 y.2 (cg hy).2).2.2.1
end
section
variable {α:Type}{f:α->D}{h h' h2:TH}{i j c n:Nat}{ρ:Ul}{fa fb:RE}{l m:List (To×α)}
noncomputable def xao (l m:List (To×α)):List (To×α):=m.foldl (λl p=>putS p.1 p.2 l) l
theorem zbx:∀{m l:List (To × α)},Z1 '/' (Vt f l) (UH m) (Vt f m)=(UH (xao l m),Vt f (xao l m)):=by intro m;induction m with| nil =>exact rfl| cons p m ih =>rintro l;show Z1 (WR (.inr p.1) (UH l)) (Yz (.inr p.1) (f p.2) (UH l) (Vt f l)) (UH m) (Vt f m)=_;rw[E4,E5,ih];rfl
theorem zcp:∀{m l:List (To × α)},(∀x∈Tu m,x∈'a')->Tu (xao l m)='a':=by intro m;induction m with| nil =>rintro l _;exact rfl| cons p m ih =>rintro l h;show Tu (xao (putS p.1 p.2 l) m)=_;have e:=mn (a:=p.2) (h p.1 (.head _));rw[ih λx hx=>by rw[e];exact h x (.tail _ hx),e]
theorem wg:Uw x (putS k a l)=if k=x then Ϸ else Uw x l:=by induction l with| nil=>show Uw x [(k,a)]=_;rw[dW]| cons p l ih =>rw[rf];by_cases c:p.1=k;rw[Ta c,dW,dW];simp_all;rw[S9 c,dW,dW,ih];lia
theorem Fg:∀{m l:List (To × α)},(Tu m).Nodup->Uw x (xao l m)=(Uw x m).or (Uw x l):=by intro m;induction m with| nil =>rintro l _;exact rfl| cons p m ih =>rintro l nd;have ij:=eW.mp nd;show Uw x (xao (putS p.1 p.2 l) m)=_;rw[ih ij.2,wg,dW];by_cases e:p.1=x;rw[Ta e,Ta e,US.mpr λz=>ij.1 (show p.1∈Tu m from e▸z)];rfl;simp_all
theorem M3 {p:μ}{qs:ϐ}(z1:fa ρ h=[χ,.lst (p.map .str)])(z2:fb ρ h'=[ϳ,.lst (qs.map f)])(nd:p.Nodup)(e:qs.length=p.length)(hl:p.length<=1000):rDz tj fa fb ρ h=.ok (.at h2.length) (h2++[[Ϻ,Ls,f,'_']]):=by(have k1:Ls=p.map .inr:=by show '_'.map (Sum.inr∘Prod.fst)=_;rw[<-cD,vb ε]);(have k2:Vt f '_'=qs.map f:=by show '_'.map (f∘Prod.snd)=_;rw[<-cD,va ε]);(have e1:T6 dk (p.map D.str)=se Ls:=by rw[k1];exact mj λx _=>rfl);have nk:=wc (by show('_'.map Prod.fst).Nodup;rw[vb ε];exact nd);unfold rDz;rw[z1];show[mt,fb ρ h']=_;rw[z2];show T5 (T6 dk (p.map D.str)) _=_;rw[e1];show Uf (kNd Ls&&(bW (UJ Ls) (UJ (qs.map f))&&bR (UJ Ls) 1000)) _=_;rw[nk,aW,aW,k1,bq,bq,e,gG,QD];show R.ok (D.at (hn h2)) (hp h2 (.md _ _))=_;rw[gm,gq,k2]
theorem rk (e:h[i]?=se (.md ks ds)):eMd h (.at i)=se (i,ks,ds)/\isD (.at i) h=tj:=by grind[eMd,aX,isD,eK]
theorem zcZ (z1:fa ρ h=.ok (.at i) h)(e1:h[i]?=se [Ϻ,'/',f,l])(z2:fb ρ h=[ϳ,.at j])(e2:h2[i]?=se [Ϻ,'/',f,l])(e3:h2[j]?=se [Ϻ,UH m,f,m])(ne:i≠j)(nd:'a'.Nodup)(hl:l.length+m.length<=1000):rUpd fa fb ρ h=[Kf,h2.set i [Ϻ,UH (xao l m),f,xao l m]]:=by unfold rUpd;rw[z1];show Uf (isD (.at i) h) _=_;rw[(rk e1).2];rw[z2];show T5 (eMd h2 (.at i)) _=_;rw[(rk e2).1];rw[(rk e3).1];show Uf (! Nat.beq i j&&(kNd '/'&&bR (UJ '/'+UJ (UH m)) 1000)) _=_;rw[show bW i j=fh from fJ.mpr λz=>ne (nJ z),wc nd,aW,aW,tJ,tJ,QD];show R.ok D.non (hs h2 i (.md (Z1 '/' (Vt f l) (UH m) (Vt f m)).1 (Z1 '/' (Vt f l) (UH m) (Vt f m)).2))=_;rw[zbx,jc]
theorem wj (z:f' ρ h=[ϳ,OD])(e1:ρ'[n]?=se (se (.at i)))(e2:h2[i]?=se [Ϻ,'/',f,l]):xbA n f' ρ h=.ok (.nx (ρ'.set n (se (Ya f l)))) (h2.set i .no):=by unfold xbA;rw[z];show(match eg ρ' n with| some (se d)=>T5 (eMd h2 d) λp=>R.ok (Fl.nx (ZC ρ' n (se (.dic p.2.1 p.2.2)))) (hs h2 p.1 .no)| _=>.no)=_;grind[aX,T5,eMd,rk,ZC,Ya,hs,eI,jc]
theorem zdR (z1:fv ρ h=[χ,y])(z2:fa ρ h'=[χ,.at i])(z3:h'[i]?=[ϟ,c,ds])(hn:n<ds.length):Z4 c n fa fv ρ h=[IE,h'.set i (.mi c (ds.set n y))]:=by(have e:eMi c h' (.at i)=se (i,ds):=by grind[eMi,aX,bW,gG]);unfold Z4;rw[z1];show[mt,fa ρ h']=_;rw[z2];show T5 (eMi c h' (.at i)) _=_;rw[e];show Uf (bR n (UJ ds)) _=_;rw[aW,dH.mpr (fF hn),cF.mpr hn];show R.ok SL (hs h' i (.mi c (ZC ds n y)))=_;rw[jc,eI]
end
noncomputable def wsN (c:bC) (t:bw):xam:=[ϰ,t].map λq=>q.2.1
noncomputable def WC (c:bC) (t:bw):xag:=[ϰ,t].map λq=>Ww '#' q.2.2
noncomputable def VZ (c:bC) (t:bw) (rw:List (To×Row)) (to:MX):Kg:=[ϰ,t].map (VC '#' rw to)
noncomputable def Yj (c:bC) (bu:Row):xaj:='#'.map λx=>(Uw x bu).getD (0,1)
noncomputable def VH (c:bC) (qs:xaj):Row:=xao (c.map λp=>(p.1,((0,1):xaE))) ('#'.zip qs)
section
variable {h t:TH}{c c':bC}{tk bD:bw}{p:μ}{i k m:Nat}{o:TM}{x:To}{rw:List (To×Row)}{bu:Row}{q:To×(Int× μ)}{to:MX}
theorem Fh {l:μ}:cd n (m+2) (.lst KV):=λd hd=>by obtain⟨x,_,rfl⟩:=PM;trivial
theorem zv:ct n (.mi 2 (Yl c tk rw bu)):=λd hd=>by rcases QU with rfl | hd;exact pE λ_=>trivial;rcases QU with rfl | hd;(exact pE λa d hd=>by rcases QU with rfl | hd;trivial;rcases QU with rfl | hd;exact Fh;cases hd);rcases QU with rfl | hd;exact pE λa=>pE λb=>lJ;rcases QU with rfl | hd;exact pE λb=>lJ;rcases QU with rfl | hd;trivial;cases hd
theorem Fi:ct n (.mi 1 (VV c tk)):=λd hd=>by rcases QU with rfl | hd;exact Fh;rcases QU with rfl | hd;intro d hd;obtain⟨x,_,rfl⟩:=PM;trivial;rcases QU with rfl | hd;intro d hd;obtain⟨x,_,rfl⟩:=PM;trivial;rcases QU with rfl | hd;intro d hd;obtain⟨x,_,rfl⟩:=PM;intro d hd;obtain⟨y,_,rfl⟩:=PM;trivial;cases hd
theorem Fj:ct n [Ϻ,ks,UO,bu]:=λd hd=>by obtain⟨x,_,rfl⟩:=PM;exact lJ
theorem Fk (ndc:'+'.Nodup){qs:xaj}:Tu (VH c qs)='+':=by unfold VH;rw[zcp];unfold Tu;rw[cD];rfl;intro x hx;have:=Wy.subset hx;unfold Tu;rw[cD];obtain⟨y,hy,rfl⟩:=PK;exact aU.mpr #[y,'t'.1,rfl]
theorem M6 (e:h[i]?=ζ):[ϭ,o]=h:=jY λk=>by by_cases c:i=k;subst c;rw[fD 'Q'.1,e];rw[bF c]
theorem M7 {f:α->D}(nd:'a'.Nodup):X7 tj [[L7,λp=>.tup [.str p.1,f p.2]]] h=.ok (.at h.length) (h++[[Ϻ,'/',f,l]]):=by rw[zn nd];show[P5,D.at Id,h,_]=_;rw[gm,gq]
theorem M8 (z:fa ρ h=.ok d h):Tg fa (Tg (rLam n) Tk) ρ h=.ok [d,.at h.length] (h++[.mf n]):=by unfold Tg;rw[z];show[P5,[d,.at Id],h,.mf n]=_;rw[gm,gq]
theorem sW (il:i<h.length)(z1:fv ρ ([ϭ,.mi 2 ds]++t)=.ok y ([ϭ,.mi 2 ds]++t'))(z2:fa ρ ([ϭ,.mi 2 ds]++t')=.ok (.at i) ([ϭ,.mi 2 ds]++t'))(k:(g ρ ([ϭ,.mi 2 (ds.set n y)]++t')).bnd (fin m)=r)(hn:n<ds.length:=by simp[Yl]):(Ts (Z4 2 n fa fv) g ρ ([ϭ,.mi 2 ds]++t)).bnd (fin m)=r:=by have e:=zdR (c:=2) z1 z2 (by grind) hn;rw[show([ϭ,.mi 2 ds]++t').set i (.mi 2 (ds.set n y))=[ϭ,.mi 2 (ds.set n y)]++t' by simp_all] at e;exact sG e k
theorem zeq (cl:Ϭ)(eh:h[i]?=[ϟ,2,Yl c tk rw bu])(ndc:'?'.Nodup)(ndt:(Tu bD).Nodup)(lc:c'.length<=40)(lt:bD.length<=40)(ln:∀q∈bD,q.2.2.length<=40/\q.2.2.Nodup)(nt:∀q∈bD,ZG q.1)(ht:∀y,to=Ϫ->ZG y)(rl:∀x r,Uw x rw=ϊ->r.length<=40)(A:xbQ (wsN c' bD) (WC c' bD))(h12:'*'.length<=12)(rows:Y7 (wsN c' bD).length '*'.length (WC c' bD))(F:Fit (wsN c' bD) (WC c' bD) '*'.length (VZ c' bD rw to) (Yj c' bu)) :∃R qs,UT [.at i,Ya .bl c',Ya tkD bD,xa3 to] h=.ok (.lst ((xb8 bu (VH c' qs)).map xbL)) [ϭ,.mi 2 (Yl c' bD (Vd '*' [LQ,bD] (X5 (WC c' bD) (VZ c' bD rw to) R qs (Yj c' bu))) (VH c' qs))]/\VE (wsN c' bD) (WC c' bD) '*'.length R qs:=by have il:='<'.1;have jk:=cl.app (Fi (c:=c') (tk:=bD));obtain⟨R,qs,s5,Dk⟩:=MD jk A h12 rows F.old;have Dm:=Ff Dk (F.mix R qs Dk);refine#[R,qs,?_,Dk];generalize X5 (WC c' bD) (VZ c' bD rw to) R qs (Yj c' bu)=Rm at s5 Dm ⊢;(have e1:(h++[.mi 1 (VV c' bD)])[i]?=[ϟ,2,Yl c tk rw bu]:=by grind);(have g1:(h++[.mi 1 (VV c' bD)])[h.length]?=[ϟ,1,VV c' bD]:=by simp);have ll:[LQ,bD].length<=40:=cf (fK _ _) lt;unfold UT;(have ed:(VV c' bD)[3]?=[ϔ,(WC c' bD).map TQ]:=by simp[VV,xbc,WC]);refine[ώ,sA [ϋ,za5 cl ndc ndt lc lt λq hq=>(ln q hq).1] ?_];refine sA (aK [ν,[Ϗ,g1,rfl]] eV) (sA (cA (sX [ν,aK [ν,[Ϗ,g1,rfl]] eV] (NAG.gl32 ll)) sQ (by rw[k6];exact NAG.gl32 ll) (λk hk=>?_) (Eb (l:=VZ c' bD rw to) (f:=optR) (d:=ng) (by simp[VZ]))) ?_);have hq:=aV (dA.mp hk);have mq:=(bB.mp (aM hq)).1;refine#[_,rfl,(cZ rfl e1 rfl (zd6 e1 g1 hq (nt _ mq) ht (ln _ mq).1 λr hr=>rl _ r hr)).trans ?_];simp[VZ,hq];refine sA (cA (eU [Ϗ,g1,rfl]) cY (NAG.gl33 h12) (λx hx=>#[_,rfl,we (f:=UO) (z:=(0,1)) [Ϗ,e1,rfl] rfl rfl]) (L:=(Yj c' bu).map UO) (by simp[Yj])) (sA (aK (aI [Ϗ,g1,by simp[VV,worksD,wsN]] [ν,[Ϗ,g1,ed]]) s5) ?_);(have nl0:Tu (c'.map λp=>(p.1,((0,1):xaE)))='?':=by simp[Tu]);refine sA (aK [ν,cA rfl rj (NAG.gl32 lc) (λx hx=>#[_,rfl,rfl]) (L:=(c'.map λp=>(p.1,((0,1):xaE))).map λp=>.tup [.str p.1,UO p.2]) (by simp[UO])] (M7 (nl0▸ndc))) ?_;obtain⟨db,s7,ql,ld⟩:=EV (jk.app (Fj (ks:=UH (c'.map λp=>(p.1,((0,1):xaE)))) (bu:=c'.map λp=>(p.1,(0,1))))) Dm.rat;cases LdB.uniq eY ld Dm.ldb (ql.trans Dm.len.symm);generalize uv:(c'.map λp=>(p.1,((0,1):xaE)))=l0 at s7 nl0 ⊢;(have ll0:l0.length=c'.length:=by rw[<-uv,bq]);(have eb:xao l0 ('*'.zip qs)=VH c' qs:=by rw[<-uv];rfl);(have g2:(h++[.mi 1 (VV c' bD)]++[[Ϻ,UH l0,UO,l0]])[h.length]?=[ϟ,1,VV c' bD]:=ε);refine sGe (h2:=[ϭ,.mi 2 (Yl c tk rw bu)]++[.mi 1 (VV c' bD),.no,[Ϻ,UH ('*'.zip qs),UO,'*'.zip qs]]) (wj (f:=UO) (l:=xao l0 ('*'.zip qs)) (fQ (zcZ (f:=UO) (l:=l0) (m:='*'.zip qs) rfl (by simp) (M3 [Ϗ,g2,rfl] (aK [ν,[Ϗ,g2,ed]] s7) (lK ndc) ql (by lia)) (by grind) (by grind) (by simp) (nl0▸ndc) (by grind))) rfl (by simp)) (by rw[M6 eh,k9,eF _ [_] [_],pq,eF];rfl) ?_;rw[eb];have nb:=Fk ndc (qs:=qs);(have lb:(VH c' qs).length=c'.length:=by have:=congrArg rW nb;simpa [Tu] using this);(have hb:∀{ds t},([ϭ,.mi 2 ds]++t)[i]?=[ϟ,2,ds]:=by grind);(have gr:∀{ds t},([ϭ,.mi 2 ds]++ .mi 1 (VV c' bD)::t)[h.length]?=[ϟ,1,VV c' bD]:=ε);refine sA (cZ rfl hb rfl (zax hb (nb▸ndc) ε)) (sW il rfl rfl (sW il rfl rfl (sW il ((cZ rfl gr (M8 rfl) (zbi (Cl.apps (Cl.apps (cl.set zv) ?_) ?_) (bv gr) (by simp) ndt ln lt)).trans (by rw[eF];rfl)) rfl (sW il rfl rfl (sW il rfl rfl (sR rfl ?_))))));simp only[bi,gW,or_false,forall_eq_or_imp,forall_eq];exact#[Fi,trivial,Fj];simp only[bi,gW,or_false,forall_eq];trivial;have tr:=n5 (t:=[.mi 1 (VV c' bD),.no,[Ϻ,UH ('*'.zip qs),UO,'*'.zip qs]]++[.mf 0]) (v:=.lst ((xb8 bu (VH c' qs)).map xbL)) (cl.set (i:=i) (zv (c:=c') (tk:=bD) (rw:=Vd '*' [LQ,bD] Rm) (bu:=VH c' qs))) (λd hd=>by obtain⟨x,_,rfl⟩:=PM;intro d hd;simp only[bi,gW,or_false] at hd;rcases hd with rfl | rfl | rfl;trivial;exact lJ;exact lJ);rwa [eX] at tr
end
section
variable {h:TH}{c:bC}{t:bw}{p ns:μ}{R:xab}{qs:xaj}{q:To×(Int× μ)}{x:To}
structure CT (c:bC)(t:bw):Prop where
 ndc:'+'.Nodup
 ndt:'%'.Nodup
 lc:c.length<=12
 lt:t.length<=20
 nt:∀q∈t,ZG q.1
 pos:∀q∈t,1<=q.2.1
 bd:∀q∈t,Bd 300 q.2.1
 sub:∀q∈t,q.2.2.Sublist '+'
theorem tL (nd:'+'.Nodup)(hy:y∈c):y.1∈'#'↔y.2=tj:=by constructor;intro z;obtain⟨w,hw,e⟩:=aU.mp z;obtain⟨w1,w2⟩:=bB.mp hw;have a:=d9 nd (show(y.1,y.2)∈c from hy);have b:=d9 nd (show(w.1,w.2)∈c from w1);simp_all;exactλz=>aU.mpr #[y,bB.mpr #[hy,z],rfl]
theorem zw (nd:'+'.Nodup):'+'.filter (λx=>decide (x∈'#'))='#':=by unfold Tu;rw[rS];congr 1;refine xD λy hy=>?_;show decide (y.1∈'#')=y.2;rw[gb,decide_eq_true_iff];exact tL nd hy
theorem zai (nd:p.Nodup):p.Pairwise λa b=>p.idxOf a<p.idxOf b:=by rw[rL];intro i j hi hj lt;rw[nd.idxOf_getElem,nd.idxOf_getElem];exact lt
theorem Nb (nd:'+'.Nodup)(s:ns.Sublist '+'):(Ww '#' ns).Pairwise (· < ·):=by have s1:=s.filter λx=>decide (x∈'#');rw[zw nd] at s1;unfold Ww;rw[Bk];exact(zai (lK nd)).sublist s1
theorem kq (hq:q∈Va p t):q∈t/\Ww p q.2.2≠[]:=by obtain⟨a,b⟩:=bB.mp hq;exact#[a,λz=>by rw[z] at b;exact absurd (Td b) (o5 0)]
theorem CT.p12 (k:CT c t):'#'.length<=12:=cf zr k.lc
theorem CT.rows (k:CT c t):Y7 (wsN c t).length '#'.length (WC c t):=by refine#[by unfold WC wsN;rw[bq,bq],λr hr=>?_];obtain⟨q,hq,rfl⟩:=aU.mp hr;obtain⟨m,ne⟩:=kq hq;exact#[ne,Nb k.ndc (k.sub q m),E9]
theorem CT.asks (k:CT c t):xbQ (wsN c t) (WC c t):=by have dl:[ϰ,t].length<=20:=cf (fK _ _) k.lt;refine#[by unfold WC wsN;rw[bq,bq],by unfold wsN;rw[bq];exact dl,λr hr=>?_,λw hw=>?_,λw hw=>?_];have:=k.rows.2 r hr;exact cf (lD this.2.1 this.2.2) (cf k.p12 (by decide));obtain⟨q,hq,rfl⟩:=aU.mp hw;exact k.pos q (kq hq).1;obtain⟨q,hq,rfl⟩:=aU.mp hw;exact k.bd q (kq hq).1
structure XZ (c:bC)(t:bw)(R:xab)(qs:xaj):Prop where
 ct:CT c t
 deal:VE (wsN c t) (WC c t) '#'.length R qs
noncomputable def Z3 (c:bC) (t:bw) (R:xab):List (To×Row):=Vd '#' [ϰ,t] R
noncomputable def Vl (c:bC) (t:bw) (R:xab) (qs:xaj):θ:=Yl c t (Z3 c t R) (VH c qs)
theorem zep (l:ZI u)(n:0<=u.1)(z:¬0<u.1):u=(0,1):=by(have a:=by exact NAG.gl23 n z);have b:=l.2;rw[a,Int.gcd_zero_left] at b;have c1:=l.1;grind
theorem Fm {l:bw}(nd:'a'.Nodup){k:Nat}(hq:l[k]?=Ϡ)(hs:R[k]?=ϫ):Uw q.1 (Vd p l R)=se (YN p (q,s)):=by refine d9 ?_ ?_;(have e:Tu (Vd p l R)=('S'.map Prod.fst).map Prod.fst:=by unfold Tu Vd Xj;simp_all);rw[e];exact(Wy.map Prod.fst).nodup nd;exact aU.mpr #[(q,s),[LV,#[hq,hs]],rfl]
theorem Nd {l:bw}(h:x∉'a'):Uw x (Vd p l R)=none:=US.mpr λz=>by obtain⟨w,hw,e⟩:=aU.mp z;obtain⟨y,hy,rfl⟩:=aU.mp hw;exact h (aU.mpr #[y.1,(cg hy).1,e])
theorem pF (nd:q.2.2.Nodup):(U6 p q).Nodup:=jN.nodup nd
theorem ZP:(Ww p q.2.2).length=(U6 p q).length:=by unfold Ww U6;rw[bq]
theorem wo (nd:'%'.Nodup):(Tu (Va p t)).Nodup:='|'.nodup nd
theorem Fn:∀{ps:List To} {qs:xaj} {k:Nat},ps.Nodup->ps[k]?=ω->Uw x (ps.zip qs)=qs[k]?| [],_,k,_,h=>by trivial| y::ps,[],k,_,_=>by rfl| y::ps,u::qs,0,_,h=>by cases h;rw[i8,dW,Nk];rfl| y::ps,u::qs,k+1,nd,h=>by have ij:='V';rw[i8,dW,S9 λe:y=x=>ij.1 (e▸aM h),Fn ij.2 h];rfl
theorem Nf:(Uw x (c.map λp=>(p.1,((0,1):xaE)))).getD (0,1)=(0,1):=by cases e:Uw x (c.map λp=>(p.1,((0,1):xaE)))with| none=>rfl| some u =>obtain⟨y,_,z⟩:=aU.mp fP;cases z;rfl
theorem Fo (nd:'#'.Nodup):(Tu ('#'.zip qs)).Nodup:=Wy.nodup nd
theorem wq (ndc:'+'.Nodup){k:Nat}(hx:'#'[k]?=ω)(hu:qs[k]?=MT):(Uw x (VH c qs)).getD (0,1)=u:=by grind[VH,Fg,Fo,lK,Fn]
theorem wt (ndc:'+'.Nodup)(hx:x∉'#'):(Uw x (VH c qs)).getD (0,1)=(0,1):=by unfold VH;rw[Fg (Fo (lK ndc)),US.mpr λz=>hx (Wy.subset z)];exact Nf
end
end NAY
namespace NAP
section
variable {ag m n:Nat}{D:Nat->Nat->Prop}{w x:Nat->Int}{s os:Nat->Nat->Int}{e r:Nat->Nat}{kp:Nat->Bool}
structure Em (ag m:Nat)(e r:Nat->Nat):Prop where
 up:∀h<ag,e h<m/\r (e h)=h
 dn:∀g<m,r g<ag->e (r g)=g
theorem Em.sum (E:Em ag m e r)(F:Nat->Int):upTo (λg=>if r g<ag then F (r g)else 0) m=[IA,F]:=by have:=yR (g:=F) r (λg=>decide (r g<ag)) (λi _ h=>Td h) (λi hi k hk a b z=>by rw[<-E.dn i hi (Td a),<-E.dn k hk (Td b),z]) λj hj _=>#[e j,(E.up j hj).1,Tc (by rwa [(E.up j hj).2]),(E.up j hj).2];simp_all
theorem Dl.emb (A:Dl ag n D w s x)(E:Em ag m e r):Dl m n (λi g=>r g<ag/\D i (r g)) w (λi g=>if r g<ag then s i (r g)else 0) (λg=>if r g<ag then x (r g)else 0):=by refine#[λi hi g hg=>?_,λi hi g hg z=>?_,λi hi=>(E.sum λh=>s i h).trans (A.sum i hi),λg hg=>?_,λi hi g hg z k hk #[k1,k2]=>?_];split;exact A.nn i hi _ (by assumption);simp_all;split at z;exact#[by assumption,A.off i hi _ (by assumption) z];simp_all;split;exact A.load _ (by assumption);grind[UD];split at z;rename_i g1;rw[Ta g1,Ta k1];exact A.even i hi _ g1 z _ k1 k2;simp_all
theorem xai.res (X:xai m n (λi g=>r g<ag/\D i (r g)) w (λi g=>if r g<ag then s i (r g)else 0) (λi g=>if r g<ag then os i (r g)else 0) (λg=>if r g<ag then x (r g)else 0) kp)(E:Em ag m e r):xai ag n D w s os x kp:=by have at_:=E.up;refine#[λi hi k=>(E.sum λh=>os i h).symm.trans (X.sum i hi k),λi hi k h hh z g hg dg=>?_,λh hh=>?_];have a:=at_ h hh;have b:=at_ g hg;have:=X.even i hi k (e h) a.1 ε (e g) b.1 ε;simp_all;have a:=at_ h hh;have:=X.load (e h) a.1;simp_all
end
end NAP
namespace NAY
open PySem NAL NAL.EX NAL.RX NAM
section
variable {p N L:μ}{x y:To}{s:xaj}{l:Row}{i g:Nat}
noncomputable abbrev rn (N p:μ) (g:Nat):Nat:=p.idxOf (N.getD g "")
theorem Fp (np:p.Nodup)(h:i<p.length):p.idxOf (p.getD i "")=i:=ε
theorem wu (nN:N.Nodup)(np:p.Nodup)(sub:∀x∈p,x∈N):NAP.Em p.length N.length (λh=>N.idxOf (p.getD h "")) (rn N p):=by have m:∀{l:List To} {i},i<l.length->l.getD i ""∈l:=λ{l i} h=>aM (getD_at' h "");refine#[λh hh=>#[gF (sub _ (m hh)),?_],λg hg h=>?_];show p.idxOf (N.getD (N.idxOf (p.getD h "")) "")=h;rw[lM (sub _ (m hh)),Fp np hh];rw[lM (A4.mp h),Fp nN hg]
noncomputable def vN (r:Row) (y:To):Int:=vl M0 ((Uw y r).getD (0,1))
theorem zy (h:y∉'a'):vN l y=0:=by unfold vN;rw[US.mpr h];rfl
theorem Fs (hx:x∈p):O9=Oh↔x=y:=by constructor;intro z;have hy:=A4.mp (z▸gF hx);rw[<-lM hx,z,lM hy];rintro rfl;rfl
theorem Ft (sub:∀x∈L,x∈p)(nL:L.Nodup):∀{s:xaj},s.length=L.length->(if Oh<p.length then WS M0 ((L.map λx=>O9).zip s) Oh else 0)=vN (L.zip s) y:=by induction L with| nil=>intro s _;split<;>rfl| cons a L ih =>intro s hs;match s,hs with| u::s,hs =>have ih:=ih (λx hx=>sub x (.tail _ hx)) (eW.mp nL).2 (by exact lh hs);(have e:WS M0 (((a::L).map λx=>p.idxOf x).zip (u::s)) (p.idxOf y)=(if p.idxOf a=p.idxOf y then vl M0 u else 0)+WS M0 ((L.map λx=>p.idxOf x).zip s) (p.idxOf y):=by rfl);(have ev:vN ((a::L).zip (u::s)) y=if a=y then vl M0 u else vN (L.zip s) y:=by unfold vN;rw[i8,dW];by_cases z:a=y;rw[Ta z,Ta z];rfl;rw[S9 z,S9 z]);rw[e,ev];by_cases z:a=y;subst z;have v0:=zy (l:=L.zip s) λz=>(eW.mp nL).1 (Wy.subset z);have lt:=gF (sub a (.head _));rw[Ta lt] at ih ⊢;rw[Ta rfl,Ta rfl,ih,v0,oO];rw[S9 z,<-ih,S9 λk=>z ((Fs (sub a (.head _))).mp k),m9]
theorem zcx (nn:∀z∈l,0<=z.2.1)(nd:'a'.Nodup):vN (l.filter λz=>decide (0<z.2.1)) y=vN l y:=by induction l with| nil=>rfl| cons z l ih =>have ih:=ih (λz hz=>nn z (.tail _ hz)) (eW.mp nd).2;rw[jZ];by_cases pz:0<z.2.1;rw[Ta (Tc pz)];unfold vN at ih ⊢;rw[dW,dW];by_cases e:z.1=y;rw[Ta e,Ta e];rw[S9 e,S9 e,ih];rw[S9 (by simp_all),ih];by_cases e:z.1=y;subst e;rw[zy (eW.mp nd).1];unfold vN;rw[dW,Ta rfl];have:=nn z (.head _);show 0=vl M0 z.2;unfold vl;rw[show z.2.1=0 by lia,lX];unfold vN;rw[dW,S9 e]
theorem zcy {f:To->xaE}:Uw y (L.zip (L.map f))=if y∈L then se (f y)else none:=by induction L with| nil=>rfl| cons a L ih =>rw[bz,i8,dW,ih];by_cases z:a=y;simp_all;simp[z,Ne.symm z]
end
section
variable {c c':bC}{t t':bw}{p N:μ}{R:xab}{qs:xaj}{q:To×(Int× μ)}{x:To}{to:MX}{s:xaj}{i g j:Nat}{rw:List (To×Row)}
theorem zB (hq:[ϰ,t][i]?=Ϡ):(WC c t).getD i []=[MC,q].map λx=>'#'.idxOf x:=by unfold WC;rw[bO,bo,hq];rfl
theorem CT.qnd (K:CT c t)(hq:[ϰ,t][i]?=Ϡ):q.2.2.Nodup:=(K.sub q (kq (aM hq)).1).nodup K.ndc
theorem oi:∀x∈U6 p q,x∈p:=λx hx=>Td '^'.2
theorem wv (hq:[ϰ,t][i]?=Ϡ):(rn N '#' g<'#'.length/\rn N '#' g∈(WC c t).getD i [])↔N.getD g ""∈[MC,q]:=by rw[zB hq];constructor;rintro⟨_,z⟩;obtain⟨x,hx,e⟩:=aU.mp z;rw[<-(Fs (oi x hx)).mp e];exact hx;intro z;exact#[gF (oi _ z),aU.mpr #[_,z,rfl]]
theorem pG (d:VE (wsN c t) (WC c t) ag R qs)(hq:[ϰ,t][i]?=Ϡ):∃s,R[i]?=ϫ/\s.length=[MC,q].length/\∀u∈s,ZZ u:=by have hl:='7'.1;(have il:i<R.length:=by rw[d.ev.len];simpa [WC] using hl);have e:=aV il;exact#[_,e,(d.ev.row i (Ww '#' q.2.2) _ (by simp[WC,hq]) e).trans ZP,λu hu=>d.ev.ok _ (aM e) u hu]
theorem tM (K:CT c t)(hq:[ϰ,t][i]?=Ϡ)(hs:R[i]?=ϫ)(sl:s.length=[MC,q].length)(so:∀u∈s,ZZ u):(if rn N '#' g<'#'.length then shF (WC c t) R i (rn N '#' g)else 0)=vN (YN '#' (q,s)) (N.getD g ""):=by unfold shF;rw[zB hq,show R.getD i []=s by simp_all];have nd:=pF (p:='#') (K.qnd hq);exact(Ft oi nd sl).trans (zcx (λz hz=>(so _ (cg hz).2).2.1) (Wy.nodup nd)).symm
noncomputable abbrev ldV (c:bC) (t:bw) (R:xab) (N:μ) (g:Nat):Int:=if rn N '#' g<'#'.length then WS M0 (Uv (WC c t) R) (rn N '#' g)else 0
theorem Ni (K:CT c t)(d:VE (wsN c t) (WC c t) '#'.length R qs):FV M0 ((Uw (N.getD g "") (VH c qs)).getD (0,1)) (ldV c t R N g):=by unfold ldV;by_cases z:rn N '#' g<'#'.length;have e:=aV (by rwa [d.len]);rw[LN,wq K.ndc ε e];exact d.ev.load M0 eY (i7 _) _ _ e;rw[Sg,wt K.ndc λm=>z (gF m)];exact#[#[by decide,by decide],rfl]
theorem Fu (K:CT c' t')(hq:[LQ,t'][j]?=Ϡ)(ho:VC '*' rw to q=ζ):∃r,to≠se q.1/\Uw q.1 rw=ϊ/\(∀x∈Tu r,x∈U6 '*' q)/\∀g,(if rn N '*' g<'*'.length then osF (WC c' t') (VZ c' t' rw to) j (rn N '*' g)else 0)=vN r (N.getD g ""):=by(have e:(VZ c' t' rw to).getD j ng=VC '*' rw to q:=by simp[VZ,hq]);unfold VC at ho;by_cases z:to=se q.1;simp_all;rw[Sg] at ho;split at ho;cases ho;rename_i r hr;split at ho;cases ho;rename_i a;(have a:=by simpa using a);refine#[r,z,hr,a,λg=>?_];unfold osF;rw[zB hq,e];(have e2:VC '*' rw to q=se ((U6 '*' q).map λx=>(Uw x r).getD (0,1)):=by unfold VC;simp_all);rw[e2];refine(Ft (s:=(U6 '*' q).map λx=>(Uw x r).getD (0,1)) oi (pF (K.qnd hq)) (by simp)).trans ?_;unfold vN;rw[zcy];by_cases m:N.getD g ""∈U6 '*' q;simp_all;rw[S9 m,US.mpr λk=>m (a _ k)]
end
end NAY
namespace NAM
open PySem NAL NAL.EX
theorem Fv {qs ys:xaj}(d:VE ws aG ag R qs)(O:xbw aG ag av ys)(Y:Nat->Int)(hY:∀h y,ys[h]?=Ϫ->FV M0 y (Y h))(i:Nat)(hi:i<aG.length) :YU [Rn,[]] [L2,i] qs ys=tj↔[L2,i].isSome=tj/\∃h<ag,0<osF aG av i h/\WS M0 (Uv aG R) h=Y h:=by have e:=getD_at' (show i<av.length by have:=O.len;simp_all) ng;unfold osF;cases ho:[L2,i]with| none=>simp[YU]| some o =>rw[ho] at e;have fo:=O.ok o (aM e);show([Rn,[]].zip o).any _=tj↔_;rw[gU];(have same:∀h<ag,qs.getD h (0,1)=ys.getD h (0,1)↔WS M0 (Uv aG R) h=Y h:=λh hh=>by have f1:=d.ev.load M0 eY (i7 _) h _ (getD_at' (show h<qs.length by rwa [d.len]) (0,1));have f2:=hY h _ (getD_at' (show h<ys.length by rwa [O.yl]) (0,1));constructor;intro z;rw[z] at f1;have c:=f2.1.1;exact AN (a:=(ys.getD h (0,1)).2) (by exact dF c) (by rw[<-f1.2,<-f2.2]);intro z;rw[z] at f1;exact f1.uniq eY f2);constructor;rintro⟨x,hx,z⟩;simp only[cC,decide_eq_true_eq] at z;have mz:='y';have hl:=(d.rows.2 _ (aM (getD_at' hi ([])))).2.2 x.1 mz.1;refine#[rfl,x.1,hl,?_,(same x.1 hl).mp z.2];have:=EY (λy hy=>(fo y.2 (cg hy).2).vn) hx;have:=(fo x.2 mz.2).vp.mpr z.1;grind;rintro⟨_,h,hh,z,e2⟩;obtain⟨x,hx,rfl,pv⟩:=zj z;refine#[x,hx,?_];simp only[cC,decide_eq_true_eq];exact#[(fo x.2 'y'.2).vp.mp pv,(same x.1 hh).mpr e2]
theorem zbQ:ZZ (0,1):=#[#[by decide,by decide],by decide,#[M0,(w4 _).symm],by show(0:Int).natAbs<_;trivial]
theorem Fw:ph (0,1):=#[#[by decide,by decide],by decide,by decide,by show(0:Int).natAbs<_;trivial]
end NAM
namespace NAY
open PySem NAL NAL.EX NAL.RX NAM
section
variable {c c':bC}{t t':bw}{p:μ}{R:xab}{qs:xaj}{q:To×(Int× μ)}{x y a:To}{to:MX}{s:xaj}{k:Nat}{r:Row}
theorem kj {l:bw}(nd:'a'.Nodup)(hq:q∈l):l['a'.idxOf q.1]?=Ϡ:=by obtain⟨k,hk⟩:=Rk;(have e:'a'[k]?=se q.1:=by simp[Tu,hk]);have kl:='Q'.1;have:=nd.idxOf_getElem k kl;rw['Q'.2] at this;rw[this];exact hk
theorem zC (H:XZ c t R qs)(e:Uw a (Z3 c t R)=ϊ):∃(k:Nat) (q:To×(Int×List To)) (s:xaj),[ϰ,t][k]?=Ϡ/\q.1=a/\R[k]?=ϫ/\r=YN '#' (q,s):=by obtain⟨⟨q,s⟩,hz,ez⟩:=aU.mp fP;obtain⟨k,hk⟩:=bH hz;obtain⟨h1,h2⟩:=Nh;cases ez;exact#[k,q,s,h1,rfl,h2,rfl]
theorem Fx (H:XZ c t R qs)(hq:[ϰ,t][k]?=Ϡ)(hs:R[k]?=ϫ):Uw q.1 (Z3 c t R)=se (YN '#' (q,s)):=Fm (wo H.ct.ndt) hq hs
theorem tO (h:y∈Tu (YN p (q,s))):y∈U6 p q:=by obtain⟨z,hz,rfl⟩:=Qm;exact(cg (bB.mp hz).1).1
theorem tP (so:∀u∈s,ZZ u)(nd:(U6 p q).Nodup):0<vN (YN p (q,s)) y↔y∈Tu (YN p (q,s)):=by constructor;intro z;apply Classical.byContradiction;intro k;rw[zy k] at z;simp_all;intro h;obtain⟨z,hz,rfl⟩:=Qm;obtain⟨z1,z2⟩:=bB.mp hz;unfold vN;have ij:(Tu (YN p (q,s))).Nodup:='|'.nodup (Wy.nodup nd);rw[d9 ij (show(z.1,z.2)∈YN p (q,s)from hz)];exact(so z.2 (cg z1).2).vp.mpr (Td z2)
theorem Fy (H:XZ c t R qs)(K:CT c' t'):xbw (WC c' t') '*'.length (VZ c' t' (Z3 c t R) to) (Yj c' (VH c qs)):=by(have oo:∀{q o},VC '*' (Z3 c t R) to q=ζ->o.length=(U6 '*' q).length/\∀u∈o,ZZ u:=λ{q o} ho=>by unfold VC at ho;split at ho;cases ho;split at ho;cases ho;rename_i r hr;split at ho;cases ho;cases ho;refine#[by simp,λu hu=>?_];obtain⟨x,_,rfl⟩:=aU.mp hu;obtain⟨k,q',s,h1,_,h3,rfl⟩:=zC H hr;obtain⟨s',e,_,so⟩:=pG H.deal h1;cases h3.symm.trans e;cases z:Uw x (YN '#' (q',s))with| none=>exact zbQ| some v=>exact so v (cg (bB.mp (cW z)).1).2);refine#[by simp[VZ,WC],λi r o hr ho=>?_,λo ho u hu=>?_,by simp[Yj],λy hy=>?_];simp only[WC,VZ,bo,kg] at hr ho;obtain⟨q,hq,rfl⟩:=hr;obtain⟨q',iy,e⟩:=ho;cases hq.symm.trans iy;exact(oo e).1.trans ZP.symm;obtain⟨q,_,e⟩:=aU.mp ho;exact(oo e).2 u hu;obtain⟨x,_,rfl⟩:=aU.mp hy;by_cases m:x∈'#';have z:=gF m;(have il:'#'.idxOf x<qs.length:=by rw[H.deal.len];exact z);have e:=aV il;rw[wq H.ct.ndc (by rw[getD_at' z "",lM m]) e];exact H.deal.ok _ (aM e);rw[wt H.ct.ndc m];exact Fw
end
section
variable {c:bC}{t t':bw}{q:To×(Int× μ)}{x:To}{k:Nat}{p p':μ}
theorem mu (h:x∈'#'):x∈'+':='|'.subset h
theorem iK:(WC c t).length=[ϰ,t].length:=by simp[WC]
theorem FB (hq:q∈t)(hx:x∈U6 p q):q∈Va p t:=bB.mpr #[hq,Tc (by rw[ZP];exact w8 hx)]
noncomputable def fN (p p':μ) (t t':bw) (k:Nat):Nat:=if(Tu (Va p t)).getD k ""∈Tu (Va p' t')then(Tu (Va p' t')).idxOf ((Tu (Va p t)).getD k "")else(Va p' t').length+k
theorem FC (hq:(Va p t)[k]?=Ϡ):(Tu (Va p t)).getD k ""=q.1:=by simp[Tu,hq]
theorem FD {l:bw}(h:q∈l):q.1∈'a':=aU.mpr #[q,h,rfl]
theorem tQ (nd:(Tu t').Nodup)(hq:(Va p t)[k]?=Ϡ)(hm:q'∈Va p' t')(e:q'.1=q.1):(Va p' t')[fN p p' t t' k]?=se q':=by unfold fN;rw[FC hq,<-e,Ta (FD hm)];exact kj (wo nd) hm
theorem zD (nd:(Tu t').Nodup)(hq:(Va p t)[k]?=Ϡ)(h:fN p p' t t' k<(Va p' t').length):∃q',(Va p' t')[fN p p' t t' k]?=se q'/\q'.1=q.1:=by by_cases m:q.1∈Tu (Va p' t');obtain⟨q',iy,e⟩:=aU.mp m;exact#[q',tQ nd hq iy e,e];unfold fN at h;rw[FC hq,S9 m] at h;lia
theorem zE (nd:'%'.Nodup)(h1:(Va p t)[k]?=Ϡ)(h2:(Va p t)[j]?=se q')(e:q.1=q'.1):k=j:=by(have b:(Tu (Va p t))[j]?=se q.1:=by simp[Tu,h2,e]);exact NAL.xaz (wo nd) (by simp[Tu,h1]) b
theorem FE (ndt:'%'.Nodup)(nd:(Tu t').Nodup):∀i<(WC c t).length,∀k<(WC c t).length,fN '#' p' t t' i=fN '#' p' t t' k->i=k:=λi hi k hk e=>by rw[iK] at hi hk;have h1:=aV hi;have h2:=aV hk;by_cases z:fN '#' p' t t' i<(Va p' t').length;obtain⟨q1,a1,b1⟩:=zD nd h1 z;obtain⟨q2,a2,b2⟩:=zD nd h2 (e▸z);rw[e,a2] at a1;cases a1;exact zE ndt h1 h2 (b1.symm.trans b2);(have g:∀{i q},[ϰ,t][i]?=Ϡ->¬fN '#' p' t t' i<(Va p' t').length->fN '#' p' t t' i=(Va p' t').length+i:=λ{i q} h z=>by unfold fN at z ⊢;by_cases m:(Tu [ϰ,t]).getD i ""∈Tu (Va p' t');rw[Ta m] at z;have:=gF m;exact absurd this (by simpa [Tu] using z);rw[S9 m]);have:=g h1 z;have:=g h2 (e▸z);lia
end
section
variable {c c':bC}{t t':bw}{R:xab}{qs:xaj}{q:To×(Int× μ)}{x:To}{to:MX}{k:Nat}{p:μ}
theorem ZW:x∈U6 p (a,(w,ns))↔x∈ns/\x∈p:=by simp[U6]
theorem oj (hq:[ϰ,t][k]?=Ϡ):(wsN c t).getD k 0=q.2.1:=by simp[wsN,hq]
theorem FF (H:XZ c t R qs)(sub:∀x∈'*',x∈'?')(nN:'?'.Nodup)(h:Nat)(y:xaE)(hy:(Yj c' (VH c qs))[h]?=Ϫ):FV M0 y (ldV c t R '?' ('?'.idxOf ('*'.getD h ""))):=by have e:=Ni (N:='?') (g:='?'.idxOf ('*'.getD h "")) H.ct H.deal;simp only[Yj,bo,kg] at hy;obtain⟨x,hx,rfl⟩:=hy;(have ex:'*'.getD h ""=x:=by rw[bO,hx];rfl);rw[ex] at e ⊢;rw[lM (sub x R7)] at e;exact e
theorem FG (E:NAP.Em ag m e r){F X Y:Nat->Int}:(∃h<ag,0<F h/\X h=Y (e h))↔∃g<m,0<(if r g<ag then F (r g)else 0)/\(if r g<ag then X (r g)else 0)=Y g:=by constructor;rintro⟨h,hh,z,e⟩;have u:=E.up h hh;exact#[_,u.1,by rw[u.2,Ta hh];exact z,by rw[u.2,Ta hh];exact e];rintro⟨g,hg,z,e⟩;split at z;rename_i l;rw[Ta l] at e;exact#[_,l,z,by rw[E.dn g hg l];exact e];trivial
theorem ww (H:XZ c t R qs)(K:CT c' t')(cn:∀x∈'+',x∈'?')(hp:∀x∈'*',x∈'+'->x∈'#') (ht:∀a w ns,(a,(w,ns))∈t->∃w',(a,(w',ns))∈t'/\w<=w'/\(w=w'↔to≠Ϸ)):Fit (wsN c' t') (WC c' t') '*'.length (VZ c' t' (Z3 c t R) to) (Yj c' (VH c qs)):=by have O:=Fy (to:=to) H K;have nN:=K.ndc;have np:=lK H.ct.ndc;have np':=lK K.ndc;have EA:=wu nN np λx hx=>cn x (mu hx);have EB:=wu nN np' λx hx=>mu hx;have sub:∀{q x},q∈t->x∈q.2.2->x∈'+':=λ{q x} hq hx=>(H.ct.sub q hq).subset hx;refine#[O,λR1 q1 d=>E0 d O (NAP.xai.res ?_ EB)];refine((tG H.deal).emb EA).mix_up ((tG d).emb EB) (f:=fN '#' '*' t t') (pl:=λg=>decide ('?'.getD g ""∈'*')) #[λi hi=>?_,FE H.ct.ndt K.ndt] (λj hj z=>?_) (λk hk a b=>?_) (λj hj=>(Fv d O _ (FF H (λx=>mu) nN) j hj).trans (and_congr_right λ_=>FG EB));rintro⟨g,hg,pg,z⟩;have hq:=aV (iK▸hi);generalize[ϰ,t][i]'(iK▸hi)=q at hq;obtain⟨s,hs,sl,so⟩:=pG H.deal hq;have qt:=(kq (aM hq)).1;rw[tM H.ct hq hs sl so,tP so (pF (H.ct.qnd hq))] at z;obtain⟨w',m',le,_⟩:=ht q.1 q.2.1 q.2.2 qt;have dm:=tO z;have e:=tQ K.ndt hq (FB m' (ZW.mpr #[(bB.mp dm).1,Td pg])) rfl;refine#[by rw[iK];exact 'Q'.1,?_,λg hg=>?_];rw[oj hq,oj e];exact kS le (cE eY);rw[wv e,wv hq];have sb:=sub (x:='?'.getD g "") qt;simp only[U6,bB,decide_eq_true_eq];simp_all;obtain⟨o,ho⟩:=vh.mp z;have hq:=aV (iK▸hj);generalize[LQ,t'][j]'(iK▸hj)=q' at hq;rw[show(VZ c' t' (Z3 c t R) to).getD j ng=VC '*' (Z3 c t R) to q' by simp[VZ,hq]] at ho;obtain⟨r,_,hr,sb,os⟩:=Fu K hq ho;obtain⟨k,q,s,h1,h2,h3,rfl⟩:=zC H hr;obtain⟨s',e',sl,so⟩:=pG H.deal h1;cases h3.symm.trans e';refine#[k,by rw[iK];exact '4'.1,zE K.ndt (tQ K.ndt h1 (aM hq) h2.symm) hq rfl,λg hg=>#[(os g).trans (tM H.ct h1 h3 sl so).symm,λz=>?_]];rw[os g,tP so (pF (H.ct.qnd h1))] at z;exact Tc (oi _ (sb _ z));have hq:=aV (iK▸hk);generalize[ϰ,t][k]'(iK▸hk)=q at hq;obtain⟨s,hs,sl,so⟩:=pG H.deal hq;have qt:=(kq (aM hq)).1;obtain⟨q',iy,e⟩:=zD K.ndt hq (iK▸a);obtain⟨w',m',le,iff⟩:=ht q.1 q.2.1 q.2.2 qt;have l1:=d9 K.ndt (kq (aM iy)).1;have eq':q'=(q.1,(w',q.2.2)):=Prod.ext e (dU (l1.symm.trans ((congrArg (Uw · t') e).trans (d9 K.ndt m'))));rw[show(VZ c' t' (Z3 c t R) to).getD (fN '#' '*' t t' k) ng=VC '*' (Z3 c t R) to q' by simp[VZ,iy]] at b;rw[oj hq,oj iy];by_cases z:to=se q.1;refine .inl λy=>?_;have:=E2 y;rw[eq'] at this;exact iff.mp this z;right;unfold VC at b;rw[e,Sg,Fx H hq hs] at b;(have b:∃x∈Tu (YN '#' (q,s)),x∉U6 '*' q':=by by_cases y:((Tu (YN '#' (q,s))).any λx=>[IT,x,U6 '*' q'])=tj;simpa using y;dsimp only at b;rw[S9 y] at b;cases b);obtain⟨x,hx,nx⟩:=b;have dx:=tO hx;have xN:=cn x (mu (oi x dx));refine#['?'.idxOf x,gF xN,?_,?_];rw[tM H.ct hq hs sl so,tP so (pF (H.ct.qnd hq)),lM xN];exact hx;rw[lM xN];refine Tf λm=>nx ?_;rw[eq'];exact ZW.mpr #[(bB.mp dx).1,m]
theorem zF (H:XZ c t R qs)(K:CT c' t')(cn:∀x∈'+',x∈'?')(hp:∀x∈'#',x∈'*') (ht:∀a w ns,(a,(w,ns))∈t'->∃w',(a,(w',ns))∈t/\w<=w'/\(w=w'↔to≠Ϸ)):Fit (wsN c' t') (WC c' t') '*'.length (VZ c' t' (Z3 c t R) to) (Yj c' (VH c qs)):=by have O:=Fy (to:=to) H K;have nN:=K.ndc;have EB:=wu nN (lK K.ndc) λx hx=>mu hx;refine#[O,λR1 q1 d=>E0 d O (NAP.xai.res ?_ EB)];(have go:∀{i g},i<(WC c' t').length->'?'.getD g ""∈'#'->0<(if rn '?' '*' g<'*'.length then shF (WC c' t') R1 i (rn '?' '*' g)else 0)->∃q w',[LQ,t'][i]?=Ϡ/\q.2.1<=w'/\(q.2.1=w'↔to≠se q.1)/\[ϰ,t][fN '*' '#' t' t i]?=se (q.1,(w',q.2.2)):=λ{i g} hi pg z=>by have hq:=aV (iK▸hi);generalize[LQ,t'][i]'(iK▸hi)=q at hq;obtain⟨s,hs,sl,so⟩:=pG d hq;rw[tM K hq hs sl so,tP so (pF (K.qnd hq))] at z;obtain⟨w',m',le,iff⟩:=ht q.1 q.2.1 q.2.2 (kq (aM hq)).1;exact#[q,w',hq,le,iff,tQ H.ct.ndt hq (FB m' (ZW.mpr #[(bB.mp (tO z)).1,pg])) rfl]);refine((tG d).emb EB).mix_down ((tG H.deal).emb (wu nN (lK H.ct.ndc) λx hx=>cn x (mu hx))) (f:=fN '*' '#' t' t) (pl:=λg=>decide ('?'.getD g ""∈'#')) #[λi hi=>?_,FE K.ndt H.ct.ndt] (λj hj z=>?_) (λi hi b=>?_) (λj hj=>(Fv d O _ (FF H (λx=>mu) nN) j hj).trans (and_congr_right λ_=>FG EB));rintro⟨g,hg,pg,z⟩;obtain⟨q,w',hq,le,_,e⟩:=go hi (Td pg) z;refine#[by rw[iK];exact 'Q'.1,?_,λg hg=>?_];rw[oj hq,oj e];exact kS le (cE eY);rw[wv e,wv hq];simp only[U6,bB,decide_eq_true_eq];simp_all;obtain⟨o,ho⟩:=vh.mp z;have hq:=aV (iK▸hj);generalize[LQ,t'][j]'(iK▸hj)=q' at hq;rw[show(VZ c' t' (Z3 c t R) to).getD j ng=VC '*' (Z3 c t R) to q' by simp[VZ,hq]] at ho;obtain⟨r,_,hr,sb,os⟩:=Fu K hq ho;obtain⟨k,q,s,h1,h2,h3,rfl⟩:=zC H hr;obtain⟨s',e',sl,so⟩:=pG H.deal h1;cases h3.symm.trans e';have e:=tQ H.ct.ndt hq (aM h1) h2;cases zE H.ct.ndt h1 e rfl;refine#[by rw[iK];exact 'Q'.1,λg hg=>#[(os g).trans (tM H.ct h1 h3 sl so).symm,λz=>?_]];rw[os g,tP so (pF (H.ct.qnd h1))] at z;exact Tc (oi _ (tO z));rintro⟨g,hg,pg,z⟩;obtain⟨q,w',hq,le,iff,e⟩:=go hi (Td pg) z;obtain⟨s,hs,sl,so⟩:=pG H.deal e;rw[show(VZ c' t' (Z3 c t R) to).getD i ng=VC '*' (Z3 c t R) to q by simp[VZ,hq]] at b;rw[oj hq,oj e];intro y;unfold VC at b;rw[S9 (iff.mp (E2 y)),Fx H e hs] at b;dsimp only at b;rw[S9] at b;cases b;simp only[gU,decide_eq_true_eq,not_exists,not_and,Classical.not_not];intro x hx;have:=tO hx;exact ZW.mpr #[(bB.mp this).1,hp x (oi x this)]
end
section
variable {h:TH}{c c':bC}{t t':bw}{ns:μ}{R:xab}{qs:xaj}{q:To×(Int× μ)}{x ch:To}{to:MX}{w:Int}{i:Nat}
theorem zG (cl:Ϭ)(H:XZ c t R qs)(eh:h[i]?=[ϟ,2,Vl c t R qs])(K:CT c' t')(ht:∀y,to=Ϫ->ZG y)(F:Fit (wsN c' t') (WC c' t') '*'.length (VZ c' t' (Z3 c t R) to) (Yj c' (VH c qs))) :∃R' db,UT [.at i,Ya .bl c',Ya tkD t',xa3 to] h=.ok (.lst ((xb8 (VH c qs) (VH c' db)).map xbL)) [ϭ,.mi 2 (Vl c' t' R' db)]/\XZ c' t' R' db:=by(have nl:∀c t,CT c t->∀q∈t,q.2.2.length<=40/\q.2.2.Nodup:=λc t K q hq=>by have s:=K.sub q hq;have a:=s.length_le;have b:=K.lc;unfold Tu at a;rw[bq] at a;exact#[by lia,s.nodup K.ndc]);obtain⟨R1,q1,e,d⟩:=zeq cl eh K.ndc K.ndt (by have:=K.lc;lia) (by have:=K.lt;lia) (nl c' t' K) K.nt ht (λx r hr=>by obtain⟨y,hy,e⟩:=aU.mp (cW hr);cases e;refine cf (fK _ _) ?_;have:=(nl c t H.ct y.1 (kq (cg hy).1).1).1;grind[fK,Tp,U6]) K.asks K.p12 K.rows F;exact#[_,q1,e,K,Ff d (F.mix R1 q1 d)]
noncomputable def Vj (ch:To) (w:Int) (q:To×(Int× μ)):To×(Int× μ):=if q.1=ch then(q.1,(w,q.2.2))else q
theorem zab (nd:'%'.Nodup)(e:Uw ch t=se (w,ns)):putS ch (w',ns) t=[Kz,ch,w']:=by induction t with| nil=>cases e| cons y t ih =>have ij:=eW.mp nd;rw[rf,bz];rw[dW] at e;by_cases z:y.1=ch;(have:t.map (Vj ch w')=t:=by refine(cH λq hq=>?_).trans (xJ _);unfold Vj;grind);rw[this];unfold Vj;simp_all;rw[S9 z] at e ⊢;rw[ih ij.2 e];unfold Vj;rw[S9 z]
theorem xa4:(Vj ch w' q).1=q.1/\(Vj ch w' q).2.2=q.2.2:=by unfold Vj;lia
theorem zdI (H:XZ c t R qs)(K:CT (c++[(x,tj)]) t):Fit (wsN (c++[(x,tj)]) t) (WC (c++[(x,tj)]) t) (Tp (c++[(x,tj)])).length (VZ (c++[(x,tj)]) t (Z3 c t R) ng) (Yj (c++[(x,tj)]) (VH c qs)):=by(have nx:=λz=>by have:=K.ndc;simp only[Tu,dz,k7] at this;exact this.2.2 x z x (by simp) rfl);refine ww H K (λy hy=>by simp only[Tu,dz] at hy ⊢;exact df _ hy) (λy hy hc=>?_) λa w ns h=>#[w,h,lT,by simp];(have e:Tp (c++[(x,tj)])='#'++[x]:=by unfold Tp Tu;rw[nu,dz];rfl);rw[e] at hy;rcases dh.mp hy with z | z;exact z;exact absurd (Nj▸hc) nx
theorem zbt (H:XZ c t R qs)(K:CT c (t++[(ch,(w,ns))]))(nw:ch∉'%'):Fit (wsN c (t++[(ch,(w,ns))])) (WC c (t++[(ch,(w,ns))])) '#'.length (VZ c (t++[(ch,(w,ns))]) (Z3 c t R) (se ch)) (Yj c (VH c qs)) :=ww H K (λ_ h=>h) (λ_ h _=>h) λa v ms h=>#[v,df _ h,lT,by simp only[true_iff];intro e;cases e;exact nw (FD h)]
theorem zd4 (H:XZ c t R qs)(K:CT c (WH ch t)):Fit (wsN c (WH ch t)) (WC c (WH ch t)) '#'.length (VZ c (WH ch t) (Z3 c t R) (se ch)) (Yj c (VH c qs)) :=zF H K (λ_ h=>h) (λ_ h=>h) λa v ms h=>by obtain⟨h1,h2⟩:=bB.mp h;exact#[v,h1,lT,λ_ e=>Td h2 (dU e).symm,λ_=>rfl]
theorem No (H:XZ c t R qs)(K:CT c [Kz,ch,w'])(e:Uw ch t=se (w,ns))(ne:w'≠w):Fit (wsN c [Kz,ch,w']) (WC c [Kz,ch,w']) '#'.length (VZ c [Kz,ch,w'] (Z3 c t R) (se ch)) (Yj c (VH c qs)):=by have wk:∀{v ms},(ch,(v,ms))∈t->v=w:=λh=>congrArg Prod.fst (dU ((d9 H.ct.ndt h).symm.trans e));by_cases le:w<=w';refine ww H K (λ_ h=>h) (λ_ h _=>h) λa v ms h=>?_;by_cases z:a=ch;subst z;exact#[w',aU.mpr #[_,h,by simp[Vj]],by rw[wk h];exact le,by simp[wk h,Ne.symm ne]];exact#[v,aU.mpr #[_,h,by simp[Vj,z]],lT,by simp[Ne.symm z]];refine zF H K (λ_ h=>h) (λ_ h=>h) λa v ms h=>?_;obtain⟨⟨b,u,ns'⟩,hb,eb⟩:=Qm;unfold Vj at eb;by_cases z:b=ch;subst z;rw[Nk] at eb;cases eb;exact#[u,hb,by rw[wk hb];lia,by simp[wk hb,ne]];rw[Sg] at eb;cases eb;exact#[v,hb,lT,by simp[Ne.symm z]]
theorem wx (nd:'+'.Nodup):x∈'#'↔Uw x c=BT:=by constructor;intro h;obtain⟨y,hy,rfl⟩:=Qm;grind[d9];intro h;exact aU.mpr #[_,bB.mpr #[cW h,rfl],rfl]
theorem Np (H:XZ c t R qs)(K:CT (putS x b c) t)(e:Uw x c=se (! b)):Fit (wsN (putS x b c) t) (WC (putS x b c) t) (Tp (putS x b c)).length (VZ (putS x b c) t (Z3 c t R) ng) (Yj (putS x b c) (VH c qs)):=by have en:Tu (putS x b c)='+':=mn (aU.mpr #[_,fP,rfl]);have hl:∀{y},Uw y (putS x b c)=if x=y then SW else Uw y c:=wg;cases b with| false =>refine ww H K (λ_ h=>en▸h) (λy hy _=>?_) λa w ns h=>#[w,h,lT,by simp];rw[wx K.ndc,hl] at hy;rw[wx H.ct.ndc];lia| true =>refine zF H K (λ_ h=>en▸h) (λy hy=>?_) λa w ns h=>#[w,h,lT,by simp];rw[wx H.ct.ndc] at hy;rw[wx K.ndc,hl];simp_all
end
structure xae (x:To):Prop where
 l1:1<=x.cps.toList.length
 l12:x.cps.toList.length<=12
 az:∀c∈x.cps.toList,97<=c/\c<=122
theorem xae.ok (h:Km):ZG x:=by show(bY tj (λc _ r=>bI c 1114112&&r) x.cps.toList)=tj;rw[DH,iO];intro c hc;have:=(h.az c hc).2;lia
section
variable {h h':TH}{c:bC}{t:bw}{R:xab}{qs:xaj}{x ch:To}{i:Nat}{ρ:Ul}{fa fb fc:RE}{fg:RG}{nx:Nx}
theorem FH {l:Tm}(hx:∀i,i<=l.length->nx h i=se ('N'[i]?))(hs:∀a∈l,∃ ρ1,fg (g a) ρ=Yr/\fa ρ1 h=.ok (v a) h) :∀m i,i<=l.length->l.length<i+m->rCg nx fg UB fa ρ m i h=.ok ((l.drop i).map v) h| 0,i,h1,h2=>absurd h2 (by simp[*])| m+1,i,h1,h2=>by rw[qV,hx i h1,bo];by_cases lt:i<l.length;obtain⟨ρ1,q1,q3⟩:=hs l[i] (ka lt);rw[aV lt,uV lt];show T5 (fg (g l[i]) ρ) _=_;rw[q1];show[Kk,(fa ρ1 h).nox]=_;rw[q3];show[Kk,rCg nx fg UB fa ρ m (i+1) h]=_;rw[FH hx hs m (i+1) lt Pm];rfl;simp_all
theorem zbn {l:Tm}(he:fi ρ h=[χ,nx])(hx:∀i,i<=l.length->nx h' i=se ('N'[i]?))(hl:l.length<1000)(hs:∀a∈l,∃ ρ1,fg (g a) (bh n ng++eFr ρ fr)=Yr/\fa ρ1 h'=[χ,v a]) :Wv N b fi n fr fg UB fa ρ h=mk b (l.map v) h':=by show Yy b fi n fr fg UB fa ρ h=_;unfold Yy;rw[he];show[Kk,rCg nx fg UB fa _ 1000 0 h']=_;rw[FH hx hs 1000 0 (ja _) (by assumption)];rfl
theorem Nr (i:Nat)(hi:i<=x.cps.toList.length):nStr x h i=se ((x.cps.toList.map λc=>D.str #[#[[c]]])[i]?):=by show(bif bR i NQ then se (Wm (eg x.cps.toList i) λc=>D.str #[#[[c]]])else ng)=_;rw[aW,dH.mpr hi,aX,bo];cases x.cps.toList[i]?<;>rfl
theorem FI (z1:fa ρ h=.ok a h)(z2:fb ρ h=.ok b h)(z3:g a b h=.ok ϻ h)(z4:fc ρ h=.ok u h)(z5:g' b u h=r):xav g g' fa fb fc ρ h=r:=by grind[xav,RX.R.bnd]
theorem FJ (z1:fa ρ h=.ok ϻ h)(z2:fb ρ h=r):Wa fa fb ρ h=r:=by unfold Wa;rwa [z1]
theorem FK (qy:a<=b):gLe (.str #[#[[a]]]) (.str #[#[[b]]]) h=.ok ϻ h:=by show[MW,D.bl (! nLt [b] [a])]=_;(have:nLt [b] [a]=fh:=by show(bI b a||(bW b a&&fh))=fh;rw[AM,wX];exact fJ.mpr λz=>by have:=K0;exact NAG.gl0 this qy);rw[this];rfl
theorem Nt (k:Km):Zf [Ϯ] h=.ok ϻ h:=by have l12:=k.l12;have l1:=k.l1;(have le:Ur [Ϯ] h=.ok (.int x.cps.toList.length) h:=by show Uf [PP,NQ] [MW,[N3,NQ]]=_;rw[aW,dH.mpr (by lia)];rfl);(have a3:xal xbM [.lst (x.cps.toList.map λ_=>D.bl tj)] h=.ok ϻ h:=by have e1:T6 dBl (x.cps.toList.map λ_=>D.bl tj)=se (x.cps.toList.map λ_=>tj):=mj λ_ _=>rfl;show T5 (T6 dBl (x.cps.toList.map λ_=>D.bl tj)) _=_;rw[e1];(have:∀l:xat,xbM (l.map λ_=>tj)=tj:=λl=>by induction l with| nil=>rfl| cons a l ih=>show(tj&&xbM (l.map λ_=>tj))=tj;rw[ih];rfl);show[MW,D.bl (xbM (x.cps.toList.map λ_=>tj))]=_;rw[this]);exact nZ rfl (jw (FJ rfl (FJ (FI rfl [ϋ,le] (by grind[le_int,Tc]) rfl (by grind[le_int,Tc])) (aK [ν,zbn rfl (λi hi=>Nr i hi) (NAG.gl33 l12) λc hc=>#[[se (.str #[#[[c]]])],rfl,FI rfl rfl (FK (k.az c hc).1) rfl (FK (k.az c hc).2)]] a3)))) rfl
theorem FL (k:Km):XH [Ϯ] h=.ok .non h:=by refine yP (ρ':=[Md]) rfl ?_ Lf;refine(lG ?_).trans rfl;unfold WV;rw[show TJ (Ui Zf (Tg ξ Tk)) (Xq [Ϯ] 0) h=_ from aO [ϋ,Nt k]];rfl
section
variable (eh:h[i]?=[ϟ,2,Vl c t R qs])
include eh
theorem wy (hx:x∈'+'):Ut [.at i,Ϯ] h=.ok .non h:=by have a1:=aO (aH (o:=Lu) (fa:=ο) (fb:=[ϙ,2,0]) (ρ:=[se (.at i),Md]) rfl [Ϗ,eh,rfl] xbr);rw[Tc hx] at a1;exact yP rfl ((lG a1).trans rfl) Lf
theorem zH (hx:ch∈'%'):UU [.at i,MG] h=.ok .non h:=by have a1:=aO (aH (o:=Lu) (fa:=ο) (fb:=[ϙ,2,1]) (ρ:=[se (.at i),se MG]) rfl [Ϗ,eh,rfl] xbr);rw[Tc hx] at a1;exact yP rfl ((lG a1).trans rfl) Lf
theorem ZH (z1:ρ[0]?=se (se (.at i)))(z3:fA ρ h=.ok xs h)(z4:ev (.at i::xs) h=r):TL 2 ev ξ fA ρ h=r:=by refine cZ ?_ eh z3 z4;grind[rV,aX]
theorem zbp:XV [.at i] h=.ok (.lst ('+'.map .str)) h:=nZ rfl (jw (aK [ν,[Ϗ,eh,rfl]] zm)) rfl
theorem FN:U9 [.at i] h=.ok (.lst ('%'.map .str)) h:=nZ rfl (jw (aK [ν,[Ϗ,eh,rfl]] zm)) rfl
end
end
section
variable {h:TH}{c c':bC}{t t':bw}{ns:μ}{R:xab}{qs:xaj}{q:To×(Int× μ)}{x ch:To}{w:Int}{i:Nat}{ρ:Ul}{fa fb:RE}{b:Bool}
noncomputable def xbd (a b:Row):D:=.lst ((xb8 a b).map xbL)
theorem zbl {a b:Row}:cd n 9 (xbd a b):=λd hd=>by obtain⟨x,_,rfl⟩:=PM;intro d hd;rcases QU with rfl | hd;trivial;rcases QU with rfl | hd;exact lJ;rcases QU with rfl | hd;exact lJ;cases hd
theorem wz:ct n (.mi 2 (Vl c t R qs)):=zv
def jf (ev:ta)(h:TH)(i:Nat)(c:bC)(qs:xaj)(c':bC)(t':bw):Prop:=∃R' db,ev=.ok (xbd (VH c qs) (VH c' db)) [ϭ,.mi 2 (Vl c' t' R' db)]/\XZ c' t' R' db
theorem zI {a b:Row}(cl:Ϭ)(il:i<h.length):[Ms,xbd a b,(h++[o]).set i (.mi 2 (Vl c' t' R' q'))]=.ok (xbd a b) [ϭ,.mi 2 (Vl c' t' R' q')]:=by have:=n5 (h:=[ϭ,.mi 2 (Vl c' t' R' q')]) (t:=[o]) (v:=xbd a b) (cl.set wz) zbl;simp_all
theorem zJ:mkD tj ks ds h=.ok (.at h.length) (h++[.md ks ds]):=by show[P5,D.at Id,h,.md ks ds]=_;rw[gm,gq]
variable (cl:Ϭ)(H:XZ c t R qs)(eh:h[i]?=[ϟ,2,Vl c t R qs])
include cl H eh
theorem FO (K:CT (putS x b c) t)(F:Fit (wsN (putS x b c) t) (WC (putS x b c) t) (Tp (putS x b c)).length (VZ (putS x b c) t (Z3 c t R) ng) (Yj (putS x b c) (VH c qs))):jf (Vq [.at i,Ϯ,Qt] h) h i c qs (putS x b c) t:=by have lc:=H.ct.lc;have e2:(h++[.no])[i]?=[ϟ,2,Vl c t R qs]:=MU;obtain⟨R',db,a4,H'⟩:=zG (cl.app (o:=TM.no) trivial) H e2 K (λy e=>by cases e) F;exact#[R',db,[ώ,sA (aK [ν,[Ϗ,eh,rfl]] Qe) (sGe (wj (tK rfl rfl rfl Um H.ct.ndc (by lia)) rfl (by simp)) ε (sR (cZ rfl e2 [Ϣ,[ν,[Ϗ,e2,rfl]]] a4) (zI cl '<'.1)))],H']
theorem FP (okc:ZG ch)(K:CT c (putS ch (w,ns) t))(F:Fit (wsN c (putS ch (w,ns) t)) (WC c (putS ch (w,ns) t)) '#'.length (VZ c (putS ch (w,ns) t) (Z3 c t R) (se ch)) (Yj c (VH c qs))):jf (Vp [.at i,MG,Ou,M9] h) h i c qs c (putS ch (w,ns) t):=by have lt:=H.ct.lt;have e2:(h++[.no])[i]?=[ϟ,2,Vl c t R qs]:=MU;obtain⟨R',db,a4,H'⟩:=zG (cl.app (o:=TM.no) trivial) H e2 K (λy e=>by lia) F;exact#[R',db,[ώ,sA (aK [ν,[Ϗ,eh,rfl]] Qe) (sGe (wj (tK (a:=(w,ns)) rfl rfl rfl Um H.ct.ndt (NAG.gl15 lt)) rfl (by simp)) ε (sR (cZ rfl e2 [ν,[Ϗ,e2,rfl]] a4) (zI cl '<'.1)))],H']
theorem FQ:CT c (WH ch t):=by have K:=H.ct;have s:(WH ch t).Sublist t:=jN;exact#[K.ndc,(s.map _).nodup K.ndt,K.lc,cf s.length_le K.lt,λq hq=>K.nt q KA,λq hq=>K.pos q KA,λq hq=>K.bd q KA,λq hq=>K.sub q KA]
theorem zK (z1:fa ρ g=.ok (.at j) g)(z2:fb ρ g=.ok MG g)(e:g[j]?=se [Ϻ,'/',f,l])(hk:Uw ch l=Ϸ):xaY fa fb ρ g=.ok (f a) (g.set j [Ϻ,UH (WH ch l),f,WH ch l]):=by unfold xaY;rw[z1];show Uf (isD (.at j) g) _=_;rw[(rk e).2];rw[z2];show T5 (eMd g (.at j)) _=_;rw[(rk e).1];show T5 (lk (.inr ch) '/' (Vt f l)) _=_;rw[tI,hk];show RX.R.ok (f a) (hs g j (.md (Xr (.inr ch) '/') (WO (.inr ch) '/' (Vt f l))))=_;rw[jc,zeB,zdf]
theorem Nw (hc:Uw ch t=se (w,ns)):jf (Ys [.at i,MG] h) h i c qs c (WH ch t):=by have e2:(h++[.no])[i]?=[ϟ,2,Vl c t R qs]:=MU;obtain⟨R',db,a4,H'⟩:=zG (cl.app (o:=TM.no) trivial) H e2 (FQ cl H eh) (λy e=>by cases e;exact H.ct.nt _ (cW hc)) (zd4 H (FQ cl H eh));exact#[R',db,[ώ,sD (ZH eh rfl rfl (zH eh (aU.mpr #[_,cW hc,rfl]))) (sA (aK [ν,[Ϗ,eh,rfl]] Qe) (sGe (wj (fQ (zK cl H eh rfl rfl Um hc)) rfl (by simp)) ε (sR (cZ rfl e2 [ν,[Ϗ,e2,rfl]] a4) (zI cl '<'.1))))],H']
end
section
variable {h:TH}{c c':bC}{t t':bw}{ns:μ}{R:xab}{qs:xaj}{q:To×(Int× μ)}{x ch:To}{w:Int}{i:Nat}{ρ:Ul}{fa:RE}{b:Bool}
theorem Ny:∀(ks acc:List To),(acc++ks).Nodup->ks.foldl (λacc k=>if k∈acc then acc else acc++[k]) acc=acc++ks:=by intro ks;induction ks with| nil =>rintro acc _;simp_all| cons k ks ih =>rintro acc nd;rw[qJ,S9 λz=>(k7.mp nd).2.2 k z k (.head _) rfl,ih (acc ++ [k]) (by simp_all),eF];rfl
theorem Nz (z:fa ρ h=.ok M9 h)(nd:ns.Nodup)(hl:ns.length<=1000):rLs fa ρ h=.ok (.int ns.length) h:=by(have e1:=by have:=mj (f:=dStr) (g:=D.str) (l:=ns) λ_ _=>rfl;rwa [vc] at this);unfold rLs;rw[z];show T5 (T6 dStr LS) _=_;rw[e1];show Uf (! Ug (.lst LS)&&bR (UJ ns) 1000) [MW,[N3,UJ (xbn ns [])]]=_;rw[aW,QD,DP,Ny ns [] nd,aW];rfl
theorem FR (K:CT c t)(hx:x∉'+')(l12:c.length+1<=12):CT (c++[(x,b)]) t:=by(have e:Tu (c++[(x,b)])='+'++[x]:=by unfold Tu;rw[dz];rfl);refine#[by rw[e];exact k7.mpr #[K.ndc,by simp,λa ha b hb z=>hx ε],K.ndt,by rwa [eE],K.lt,K.nt,K.pos,K.bd,λq hq=>by rw[e];exact(K.sub q hq).trans (A5 _ _)]
theorem FS (K:CT c t)(k:ZG ch)(nw:ch∉'%')(w1:1<=w)(bd:Bd 300 w)(lt:t.length+1<=20)(s:ns.Sublist '+'):CT c (t++[(ch,(w,ns))]):=by(have e:Tu (t++[(ch,(w,ns))])='%'++[ch]:=by unfold Tu;rw[dz];rfl);(have m:∀{P:To×(Int×List To)->Prop},(∀q∈t,P q)->P (ch,(w,ns))->∀q∈t++[(ch,(w,ns))],P q:=λa b q hq=>'s'.elim (a q) λz=>by rwa [Nj]);exact#[K.ndc,by rw[e];exact k7.mpr #[K.ndt,by simp,λa ha b hb z=>nw (by rw[cO.mp hb] at z;exact z▸ha)],K.lc,by rwa [eE],m K.nt k,m K.pos w1,m K.bd bd,m K.sub s]
theorem FU (K:CT c t)(w1:1<=w')(bd:Bd 300 w'):CT c [Kz,ch,w']:=by(have e:Tu [Kz,ch,w']='%':=by grind[Tu,cD,cH,xa4]);(have m:∀{P:To×(Int×List To)->Prop},(∀q∈t,P (Vj ch w' q))->∀q∈[Kz,ch,w'],P q:=λa q hq=>by grind);(have wk:∀q,(Vj ch w' q).2.1=w'\/(Vj ch w' q).2.1=q.2.1:=λq=>by unfold Vj;lia);exact#[K.ndc,by rw[e];exact K.ndt,K.lc,by rw[bq];exact K.lt,m λq hq=>by rw[xa4.1];exact K.nt q hq,m λq hq=>(wk q).elim (λz=>ε) λz=>by rw[z];exact K.pos q hq,m λq hq=>(wk q).elim (λz=>ε) λz=>by rw[z];exact K.bd q hq,m λq hq=>by rw[xa4.2];exact K.sub q hq]
variable (cl:Ϭ)(H:XZ c t R qs)(eh:h[i]?=[ϟ,2,Vl c t R qs])
include cl H eh
theorem iT {a b:Row}:[Ms,xbd a b,[ϭ,.mi 2 (Vl c' t' R' q')]]=.ok (xbd a b) [ϭ,.mi 2 (Vl c' t' R' q')]:=bL (by rw[eX])
theorem FW (k:Km)(hx:x∉'+')(l12:c.length+1<=12):jf (WZ [.at i,Ϯ] h) h i c qs (c++[(x,tj)]) t:=by have e:=rg (a:=tj) hx;obtain⟨R',db,a3,H'⟩:=FO cl H eh (by rw[e];exact FR H.ct hx l12) (by rw[e];exact zdI H (FR H.ct hx l12));rw[e] at a3 H';exact#[R',db,[ώ,sD [ϋ,FL k] (sF (aO (aH rfl [Ϗ,eh,rfl] (xbr.trans ε))) (sF (aO [η,aK [ν,[Ϗ,eh,rfl]] E6,ge_int.trans (by grind)]) (sR (ZH eh rfl rfl a3) (iT cl H eh))))],H']
theorem FX (e:Uw x c=se (! b)):jf (WY [.at i,Ϯ,Qt] h) h i c qs (putS x b c) t:=by have mx:x∈'+':=aU.mpr #[_,fP,rfl];(have K:CT (putS x b c) t:=by have K:=H.ct;have en:Tu (putS x b c)='+':=mn mx;(have el:=by have:=congrArg rW en;unfold Tu at this;rwa [bq,bq] at this);exact#[by rw[en];exact K.ndc,K.ndt,by rw[el];exact K.lc,K.lt,K.nt,K.pos,K.bd,λq hq=>by rw[en];exact K.sub q hq]);obtain⟨R',db,a3,H'⟩:=FO cl H eh K (Np H K e);exact#[R',db,[ώ,sD (ZH eh rfl rfl (wy eh mx)) (sF (aO [η,ko [Ϗ,eh,rfl] rfl e,show _=[MW,D.bl fh]by cases b<;>rfl]) (sR (ZH eh rfl rfl a3) (iT cl H eh)))],H']
theorem NA (e:Uw x c=BT):jf (Yu [.at i,Ϯ] h) h i c qs (putS x fh c) t:=by obtain⟨R',db,a3,H'⟩:=FX (b:=fh) cl H eh e;exact#[R',db,sS rfl (jw (ZH eh rfl rfl a3)) (iT cl H eh),H']
theorem zeo (e:Uw x c=Ty):jf (Yt [.at i,Ϯ] h) h i c qs (putS x tj c) t:=by obtain⟨R',db,a3,H'⟩:=FX (b:=tj) cl H eh e;exact#[R',db,sS rfl (jw (ZH eh rfl rfl a3)) (iT cl H eh),H']
theorem FY {d sg:Int}(e:Uw ch t=se (w,ns))(d1:1<=d)(w1:1<=w+sg*d)(bd:Bd 300 (w+sg*d))(bd1:[Gl,sg])(uM:[Gl,d])(ne:w+sg*d≠w):jf (W1 [.at i,MG,.int d,.int sg] h) h i c qs c [Kz,ch,w+sg*d]:=by have ep:=zab (w':=w+sg*d) H.ct.ndt e;obtain⟨R',db,a3,H'⟩:=FP cl H eh (H.ct.nt _ fP) (by rw[ep];exact FU H.ct w1 bd) (by rw[ep];exact No H (FU H.ct w1 bd) e ne);rw[ep] at a3 H';exact#[R',db,[ώ,sD (ZH eh rfl rfl (zH eh (aU.mpr #[_,fP,rfl]))) (sA (ko [Ϗ,eh,rfl] rfl e) (sA (aH rfl [η,rfl,ic bd1 uM] add_int) (sF ((v3 (aO [η,rfl,lt_int.trans (by rw[Tf ε])])).trans (aO [η,rfl,lt_int.trans ε])) (sR (ZH eh rfl rfl a3) (iT cl H eh)))))],H']
end
noncomputable def shr (c:bC) (t:bw) (R:xab) (ch:To):Row:=(Uw ch (Z3 c t R)).getD []
noncomputable def ZA (c:bC) (qs:xaj) (x:To):xaE:=(Uw x (VH c qs)).getD (0,1)
noncomputable def xbv (a b:xaE):Bool:=decide (a.1*b.2<b.1*a.2)
noncomputable def Wn (c:bC) (t:bw) (R:xab) (ns:μ):μ:='%'.filter λch=>(shr c t R ch).any λp=>decide (p.1∈ns)
noncomputable def shD (r:Row):D:=.lst (r.map λp=>.tup [.str p.1,UO p.2])
section
variable {h:TH}{c:bC}{t:bw}{p ns:μ}{R:xab}{qs:xaj}{x ch:To}{w:Int}{i j:Nat}{ρ:Ul}{fa:RE}{b:Bool}
theorem NC {a b:xaE}(a1:[Gl,a.1])(a2:[Gl,a.2])(b1:[Gl,b.1])(b2:[Gl,b.2]):ZE [UO a,UO b] h=.ok (.bl (xbv a b)) h:=[ώ,[ϣ,aH [η,rfl,ic a1 b2] [η,rfl,ic b1 a2] lt_int]]
theorem lN {ks:μ}(e:h[j]?=[ϓ,ks.map .str]):Ym neg OK (.at j) h=.ok (.bl (neg^^decide (k∈ks))) h:=by(have e1:eK h (.at j)=none:=by unfold eK;dsimp only;rw[aX,e]);(have e2:eS h (.at j)=se (ks.map .str):=by unfold eS;dsimp only;rw[aX,e]);unfold Ym;rw[e1];show T5 (eS h (.at j)) _=_;rw[e2];exact zq
theorem rp (l:ph u):[Gl,u.1]/\[Gl,u.2]:=by refine#[l.2.2.2.le (by decide),?_];have a:=l.1.1;have b:=l.2.2.1;show u.2.natAbs<2^4096;lia
theorem jV (H:XZ c t R qs):ph (ZA c qs x):=by unfold ZA;by_cases z:x∈'#';obtain⟨k,hk⟩:=bH z;have hu:=getD_at' (show k<qs.length by rw[H.deal.len];exact(aQ.mp hk).1) (0,1);rw[wq H.ct.ndc hk hu];exact H.deal.ok _ (aM hu);rw[wt H.ct.ndc z];exact Fw
theorem wC (H:XZ c t R qs):(shr c t R ch).length<=40:=by unfold shr;cases e:Uw ch (Z3 c t R)with| none=>simp_all| some r =>obtain⟨y,hy,e⟩:=aU.mp fP;cases e;refine cf (fK _ _) ?_;have a:=(H.ct.sub y.1 (kq (cg hy).1).1).length_le;have b:=H.ct.lc;grind[Tu,bq,fK,Tp,U6]
section
variable (H:XZ c t R qs)(eh:h[i]?=[ϟ,2,Vl c t R qs])
include H eh
theorem pH (hx:x∈'+'):Uu [.at i,Ϯ] h=.ok (UO (ZA c qs x)) h:=by cases e:Uw x (VH c qs)with| none=>exact[KW,by rwa [Fk H.ct.ndc],e]| some u =>unfold ZA;rw[e];exact[ώ,sD (ZH eh rfl rfl (wy eh hx)) [ϣ,ko [Ϗ,eh,rfl] rfl e]]
theorem zL (hx:ch∈'%'):Wg [.at i,MG] h=.ok (shD (shr c t R ch)) h:=[ώ,sD (ZH eh rfl rfl (zH eh hx)) [ϣ,zah (we [Ϗ,eh,rfl] rfl rfl) (cf (wC H) (by decide))]]
omit H eh in
theorem cMt {γ:Type}{l:Tm}{g:γ->D}{p:γ->Bool}{v:γ->D}{L:θ}{fi:RI}{fg:RG}{fT:RT}{nx:NAL.RX.Nx}{n:Nat}{fr:xat}{N:μ}(he:fi ρ h=.ok nx h)(hx:∀i,nx h i=se ('N'[i]?))(hl:l.length<1000)(hs:∀a∈l,∃ ρ1,fg (g a) (bh n ng++eFr ρ fr)=Yr/\fT ρ1 h=.ok (p a) h/\(p a=tj->fa ρ1 h=.ok (v a) h))(e:'d'.map v=L):Wv N tj fi n fr fg fT fa ρ h=.ok (.at h.length) (h++[.ml L]):=by rw[sP he hx hl hs,e];show[P5,D.at Id,h,.ml _]=_;rw[gm,gq]
theorem zaH (ej:h[j]?=[ϓ,L6]):YZ [.at i,.at j] h=.ok (.at h.length) (h++[.ml ((Wn c t R ns).map .str)]):=by have tl:=H.ct.lt;refine kn rfl (sR (cMt (eU (ZH eh rfl rfl (FN eh))) cY (by simp[Tu];exact NAG.gl59 tl) (λch hc=>#[_,rfl,aO (aK [ν,cA (eU (cZ rfl eh rfl (zL H eh hc))) cY (by grind[wC]) (λp hp=>#[_,rfl,[η,rfl,lN ej]]) (L:=((shr c t R ch).map λp=>decide (p.1∈ns)).map .bl) (by simp)] (Zg.trans ε)),λ_=>rfl]) rfl) rfl)
omit H eh in
theorem wD {fA:RA}{h1 h2:TH}{a:D}{as:θ}(z1:fa ρ h=[Ϥ,a])(z2:fA ρ h1=[ϳ,as]):Tg fa fA ρ h=[ϳ,a::as]:=by unfold Tg;rw[z1];show[Kk,fA ρ h1]=_;rw[z2];rfl
end
variable (cl:Ϭ)(H:XZ c t R qs)(eh:h[i]?=[ϟ,2,Vl c t R qs])
include cl H eh
theorem FZ:[Gl,1]/\[Gl,-1]:=#[hZ (show(1:Int).natAbs<2^1 by decide) (oY (by decide) (by decide)),hZ (show(-1).natAbs<2^1 by decide) (oY (by decide) (by decide))]
theorem zdZ (e:Uw ch t=se (w,ns))(d1:1<=d)(bd:Bd 300 (w+d))(uM:[Gl,d]):jf (Yq [.at i,MG,.int d] h) h i c qs c [Kz,ch,w+d]:=by have w1:=H.ct.pos _ fP;have g:=FY cl H eh e d1 (by lia) ε (FZ cl H eh).1 uM (by lia);rw[w4] at g;obtain⟨R',db,a3,H'⟩:=g;exact#[R',db,sS rfl (jw (ZH eh rfl rfl a3)) (iT cl H eh),H']
theorem NG (e:Uw ch t=se (w,ns))(d1:1<=d)(w1:1<=w-d)(bd:Bd 300 (w-d))(uM:[Gl,d]):jf (XW [.at i,MG,.int d] h) h i c qs c [Kz,ch,w-d]:=by(have ew:w+-1*d=w-d:=by lia);have g:=FY cl H eh e d1 (by rwa [ew]) (by rwa [ew]) (FZ cl H eh).2 uM (by lia);rw[ew] at g;obtain⟨R',db,a3,H'⟩:=g;exact#[R',db,sS rfl (jw (ZH eh rfl rfl a3)) (iT cl H eh),H']
theorem NH (k:xae ch)(nw:ch∉'%')(w1:1<=w)(bd:Bd 300 w)(ne:ns≠[])(inn:∀y∈ns,y∈'+')(nd:ns.Nodup)(nl:ns.length<=40)(lt:t.length+1<=20):jf (Y4 [.at i,MG,Ou,M9] h) h i c qs c (t++[(ch,(w,'+'.filter λy=>decide (y∈ns)))]):=by have oK:=H.ct.lc;have ep:=rg (a:=(w,'+'.filter λy=>decide (y∈ns))) nw;obtain⟨R',db,a3,H'⟩:=FP cl H eh k.ok (by rw[ep];exact FS H.ct k.ok nw w1 bd lt jN) (by rw[ep];exact zbt H (FS H.ct k.ok nw w1 bd lt jN) nw);rw[ep] at a3 H';refine#[R',db,[ώ,sD [ϋ,FL k] (sF (aO (aH rfl [Ϗ,eh,rfl] (xbr.trans (by rw[Tf nw];rfl)))) (sF (aO [η,rfl,lt_int.trans (by rw[Tf ε])]) (sF (aO [η,[ϋ,eV],eq_int.trans ε]) (sL (fG (λ_ ρ g=>(∃z,ρ=[se (.at i),se MG,[ϒ,w],[ϔ,L6],z])/\g=h) QM (λi _ _ _=>cY i) (NAG.gl32 nl) #[#[_,rfl],rfl] ?_) ?_))))],H'];rintro k y ρ g hy ⟨⟨z,rfl⟩,rfl⟩;exact#[_,rfl,nE (fQ (ZH eh rfl rfl (wy eh (inn y (aM hy))))) #[#[_,rfl],rfl]];rintro ρ g ⟨⟨z,rfl⟩,rfl⟩;exact sF (aO (aH (Nz rfl nd (NAG.gl31 nl)) [ϋ,eV] (lt_int.trans ε))) (sF (aO [η,aK [ν,[Ϗ,eh,rfl]] E6,ge_int.trans (by grind)]) (sR (ZH eh rfl [Ϣ,[Ϣ,[ν,cM (Fb [Ϗ,eh,rfl]) rj (NAG.gl33 oK) (λx hx=>#[_,rfl,aO [η,rfl,zq],λ_=>rfl]) (by simp[Tu,rS,Function.comp_def])]]] a3) (iT cl H eh)))
end
section
variable {c:bC}{t:bw}{R:xab}{qs:xaj}{q:To×(Int× μ)}{x y ch:To}{ns:μ}{k:Nat}{s:xaj}
theorem zM (H:XZ c t R qs)(hx:x∈'#'):qs['#'.idxOf x]?=se (ZA c qs x):=by have l:=gF hx;(have e:'#'['#'.idxOf x]?=ω:=by rw[aV l,u6]);have hu:=getD_at' (show '#'.idxOf x<qs.length by rw[H.deal.len];exact l) (0,1);rw[hu];unfold ZA;rw[wq H.ct.ndc e hu]
theorem F3 (H:XZ c t R qs)(hq:[ϰ,t][k]?=Ϡ):∃s,R[k]?=ϫ/\s.length=[MC,q].length/\(∀u∈s,ZZ u)/\'K'.sum=q.2.1*M0/\shr c t R q.1=YN '#' (q,s):=by have hs:=getD_at' (show k<R.length by rw[H.deal.ev.len];unfold WC;rw[bq];exact '7'.1) [];have sl:=H.deal.ev.row k _ _ (by unfold WC;rw[bo,hq];rfl) hs;rw[ZP] at sl;refine#[_,hs,sl,H.deal.ev.ok _ (aM hs),?_,?_];rw[H.deal.ev.sum M0 eY (i7 _) k _ hs];unfold wsN;rw[bO,bo,hq];rfl;unfold shr Z3;rw[Fm (wo H.ct.ndt) hq hs];rfl
theorem NI (H:XZ c t R qs)(hq:[ϰ,t][k]?=Ϡ)(hs:R[k]?=ϫ)(hu:(x,u)∈[MC,q].zip s)(pos:0<u.1)(hy:y∈[MC,q]):(ZA c qs x).1*(ZA c qs y).2<=(ZA c qs y).1*(ZA c qs x).2:=by(have hr:(WC c t)[k]?=se (Ww '#' q.2.2):=by unfold WC;rw[bo,hq];rfl);obtain⟨m,hm⟩:=bH hu;obtain⟨m1,m2⟩:=bU.mp hm;have er:Ww '#' q.2.2=[MC,q].map λy=>'#'.idxOf y:=rfl;exact H.deal.ev.even k _ s hr hs m u ('#'.idxOf x) m2 (by rw[er,bo,m1];rfl) pos ('#'.idxOf y) (aU.mpr #[y,hy,rfl]) _ _ (zM H (Td (bB.mp (aM m1)).2)) (zM H (Td 't'.2))
theorem F4 (H:XZ c t R qs)(hc:(shr c t R ch).any λp=>decide (p.1∈ns)):∃(k:Nat) (q:To×(Int×List To)),[ϰ,t][k]?=Ϡ/\q.1=ch:=by obtain⟨p,hp,_⟩:=gU.mp hc;by_cases z:ch∈Tu [ϰ,t];obtain⟨q,hq,e⟩:=aU.mp z;obtain⟨k,hk⟩:=Rk;exact#[k,q,hk,e];unfold shr Z3 at hp;rw[Nd z] at hp;cases hp
noncomputable def Z2 (P:Nat->Bool) (L:List (Nat×(xaE))):Int:=(L.map λx=>if P x.1 then vl M0 x.2 else 0).sum
theorem zdi:Z2 P (L++L')=Z2 P L+Z2 P L':=by unfold Z2;simp_all
theorem zc8 {v:Int}:∀{n:Nat},i<n->(((aT n).filter P).map λj=>if i=j then v else 0).sum=if P i then v else 0:=by intro n;induction n with| zero=>simp_all| succ n ih =>intro hi;rw[nz,nu,dz,kb];(have ng:∀m,m<=i->(((aT m).filter P).map λj=>if i=j then v else 0).sum=0:=by intro m;induction m with| zero=>intro _;rfl| succ m ihm =>intro hm;rw[nz,nu,dz,kb,ihm (by exact fF hm)];have:=eG hm;cases hP:P m<;>simp[hP,this]);by_cases e:i=n;subst e;rw[ng i (bN _)];cases hP:P i<;>simp[hP];rw[ih (xK (rZ hi) e)];cases hP:P n<;>simp[hP,e]
theorem zeK {l:xat}{f g:Nat->Int}:(l.map λj=>f j+g j).sum='>'.sum+'N'.sum:=by induction l with| nil=>rfl| cons a l ih=>rw[bz,cq,ih,bz,cq,bz,cq];lia
theorem zbJ:∀{L:List (Nat×(xaE))},(∀x∈L,x.1<n)->(((aT n).filter P).map λj=>WS M0 L j).sum=Z2 P L:=by intro L;induction L with| nil =>(rintro _;unfold WS Z2;induction ((aT n).filter P) with| nil=>rfl| cons a l ih=>simp_all)| cons x L ih =>rintro h;rw[show(λj=>WS M0 (x::L) j)=λj=>(if x.1=j then vl M0 x.2 else 0)+WS M0 L j from funext λj=>by rfl,zeK,zc8 (h x (.head _)),ih λy hy=>h y (.tail _ hy)];rfl
theorem NN:∀{Z:List (List Nat×xaj)},Z2 P (Z.flatMap λx=>x.1.zip x.2)=(Z.map λx=>Z2 P (x.1.zip x.2)).sum:=by intro Z;induction Z with| nil =>exact rfl| cons x Z ih =>rw[Bj,zdi,ih,bz,cq]
noncomputable def chQ (c:bC) (t:bw) (R:xab) (ns:μ) (ch:To):Bool:=(shr c t R ch).any λp=>decide (p.1∈ns)
noncomputable def wkT (t:bw) (ch:To):Int:=((Uw ch t).map λp=>p.1).getD 0
theorem zbR {l:ϐ}{f:α->Int}(h:∀a∈l,f a=0):'>'.sum=0:=by induction l with| nil=>rfl| cons a l ih=>simp_all
theorem NP:'#'=(aT '#'.length).map λi=>'#'.getD i "":=jY λi=>by rw[bo];by_cases h:i<'#'.length;rw[kZ h,getD_at' h ""];rfl;rw[gf ε,gf ε];rfl
end
end NAY
namespace NAL.RX
open PySem PySem.Spec PyProof.Rows NAL.EX
def rTryN (i:Nat) (yk:Nat->Bool) (ev:θ->TH->R D) (f:RA) (fs:RS):RS:=fun ρ h=>(f ρ h).nox.bnd λxs h=>xbT i yk fs ρ (ev xs h)
end NAL.RX
set_option maxHeartbeats 4000000
namespace NAM
open PySem PySem.Spec PyProof.Rows NAL NAL.EX NAL.RX
noncomputable def top (i:Nat):UW:=PySem.Challenge.pw_evenyoke_k62_why_a_hand_bears.main.body.getD i (.Pass #[0,0,0,0])
noncomputable def lamOf (q:To) (st:UW):Lam:=match st with| .Assign _ (.Call _ [_,.Lambda ps b sc _] _ _) _=>#[q,ps,b,sc]| _=>#[q,default,.Constant .none 0 #[0,0,0,0],default]
noncomputable def lamS:Lam:=lamOf ((PyProof.Rows.envOfC "House.settle" (T8 (ZQ (top 48) 15)) 0 0 (.ref 0)).qual++"<lambda>") ((U4 (ZQ (top 48) 15)).getD 10 (.Pass #[0,0,0,0]))
noncomputable abbrev gC (K:a9) (CP CR CH T:Tn) (XC:Nat->Tn):CT where
 K:=K
 cl:=λc=>match c with
  | 0=>CP
  | 1=>CR
  | _=>CH
 nm:=λc=>match c with
  | 0=>["many_gives","tie_ends","sent","spare","ties_at"]
  | 1=>["present","dealt","works","doers"]
  | _=>["crew","tasks","rows","burdens","piece_rows"]
 xc:=XC
 fa:=λ_=>0
 lm:=λ_=>lamS
 tb:=λ_=>T
 nl:=1
noncomputable def yk (c:Nat):Bool:=bI c 10
noncomputable def xbk:μ:=["NoName","Twice","TooMany","NoWork","NoHand","NoChore","NotSo","NoPart","NoDeed","NoLine"]
noncomputable abbrev xnm (c:Nat):MX:=xbk[c]?
abbrev YI:RS:=[π,TP Xk ς (TP gPow [΢,10] [΢,12]),2]
def U1:=UL fh 2 2 [υ,Uc [τ,ϯ,TP VG (ξ) [΢,2],[΢,0]] [υ,[π,TP Xk (Ui xbs (Tg ξ Tk)) [΢,2],2],U8 (rIr (Tg ο Tk)) (rN 3) YI,TN ς] TY,[π,TP VG [Hb,ξ,[OQ,[΢,7919],ο]] [΢,2147483629],2],Ts [π,TP VG [Hb,[Hb,[OQ,ς,ς],[OQ,[΢,16807],ς]],ο] [΢,2147483629],2] (TN (TP VG [OQ,ς,ς] [΢,2147483587]))]
def WW:=UL fh 2 4 [υ,[π,[Ϲ,"abcdefghijklmnopqrstuvwxyz"],2],[π,Ui U1 [lP,Tg [΢,0] Tk],3],[υ,[π,rSl fh ς (rO1 (TP VG ό [΢,26])) (rO1 [Hb,TP VG ό [΢,26],TP VG (TP Xk ό [΢,26]) [΢,6]]),4],[π,TP VG (TP Xk ό [΢,156]) [Hb,Ui Ur (Tg ύ Tk),[΢,1]],5],TN (Wv ["_law_k","_law_base","_law_at","_law_letters"] fh (rIr (Tg ο Tk)) 1 [4,5,2] ϝ UB [Hb,[Hb,rSl fh ο rO0 (rO1 ς),[KK,ξ]],rSl fh ο (rO1 ς) rO0])]]
def We:=UL fh 2 0 (Ts (Uc [τ,gLt,ο,Ui Ur (Tg ξ Tk)] (TN [qo,ο]) TY) (TN [΢,0]))
def ZV:=UL fh 1 0 [υ,Z4 2 0 (ξ) (YR fh),Z4 2 1 (ξ) (YR fh),[υ,Z4 2 2 (ξ) (YR fh),Z4 2 3 (ξ) (YR fh),Z4 2 4 (ξ) Ss]]
abbrev XD:RS:=(Uc [τ,Lu,ς,ο] (TN ς) TY)
def VJ:=UL fh 2 1 (Ts (U8 LO (rN 2) XD) (TN Ss))
abbrev XQ:RS:=(Ts (Uc [τ,ϯ,TP VG (ξ) [΢,2],[΢,1]] (Xx (Yg ς (Tg ό Tk))) TY) [π,TP Xk (ξ) [΢,2],0])
def Y0:=UL fh 2 2 [υ,[π,Un tj Tk,2],U8 M1 (rN 3) XQ,Ts (Uc [τ,ϯ,ς,Un fh Tk] [π,Un tj (Tg [σ,TP VG (ξ) (Ui Ur (Tg ο Tk))] Tk),2] TY) (TN ς)]
def XI:=UL fh 1 1 [υ,[π,Ui U1 [lP,Tg [΢,3] Tk],1],Uc [τ,ϯ,TP VG ο [΢,4],[΢,0]] (TN [Hb,[΢,1],TP VG (ξ) (TP Z6 (TP gPow [΢,10] [΢,60]) [΢,1])]) TY,Ts (Uc [τ,ϯ,TP VG ο [΢,4],[΢,1]] (TN [Hb,[΢,1],TP VG (TP Xk ο [΢,4]) [΢,1000]]) TY) (TN [Hb,[΢,1],TP VG (TP Xk ο [΢,4]) [΢,5]])]
def ZF:=UL fh 3 2 [υ,[π,Ui VJ (Tg [NR,[΢,1]] (Tg [σ,[΢,2]] Tk)),3],[π,Ui U1 [lP,Tg [΢,2] Tk],4],TN (VF (Tg [Ϲ,"put"] (Tg ό (Tg (Ui XI (Tg ξ Tk)) (Tg (xbz fh (Ui Y0 (Tg ύ (Tg [σ,[΢,0]] Tk))) (TP Z6 [΢,1] [OQ,[΢,2],TP VG (TP Xk ύ [΢,1024]) [΢,2]])) Tk)))))]
def XJ:=UL fh 3 6 [υ,[π,TP VG (Ui U1 [lP,Tg [΢,0] Tk]) [΢,8],3],[π,Ui U1 [lP,Tg [΢,1] Tk],4],[υ,[π,xaS (TP ϯ ό [΢,7]) (Wa (TP ϯ (TP VG ό [΢,3]) [΢,0]) (TP gLt (Ui Ur (Tg [σ,[΢,0]] Tk)) [΢,3])),5],Uc (rOr [τ,ϯ,[σ,[΢,0]],Un fh Tk] (YC (TJ ϡ) [τ,gLt,Ui Ur (Tg [σ,[΢,0]] Tk),Ui Ur (Tg [NR,[΢,0]] Tk)])) (TN (VF (Tg [Ϲ,"hire"] (Tg (Ui VJ (Tg [NR,[΢,0]] (Tg [σ,[΢,0]] Tk))) Tk)))) TY,[υ,[π,TK [σ,[΢,0]] (TP VG ύ (Ui Ur (Tg [σ,[΢,0]] Tk))),6],Uc (rOr [τ,ϯ,ό,[΢,5]] (rOr [τ,ϯ,ό,[΢,6]] (YC [τ,gGt,ό,[΢,1]] [τ,gEqE,[σ,[΢,2]],YR fh]))) (TN (VF (Tg (TK (Un fh (Tg [Ϲ,"away"] (Tg [Ϲ,"back"] Tk))) (Ui gInt (Tg (TP Rv ϸ [σ,[΢,1]]) Tk))) (Tg ϸ Tk)))) TY,[υ,Uc (YC [τ,gLt,ό,[΢,2]] [τ,gLt,Ui Ur (Tg [σ,[΢,2]] Tk),Ui Ur (Tg [NR,[΢,1]] Tk)]) (TN (Ui ZF [lP,[϶,Tg ς Tk]])) TY,[π,TK (xbU fh [σ,[΢,2]]) (TP VG (TP Xk ύ [΢,7]) (Ui Ur (Tg [σ,[΢,2]] Tk))),7],[υ,[π,TK (TK [σ,[΢,2]] (rV 7)) [΢,0],8],Uc [τ,ϯ,ό,[΢,2]] (TN (VF (Tg [Ϲ,"drop"] (Tg (rV 7) Tk)))) TY,Ts (Uc (YC [τ,ϯ,ό,[΢,3]] [τ,gGt,rV 8,[΢,1]]) (TN (VF (Tg [Ϲ,"fewer"] (Tg (rV 7) (Tg [Hb,[΢,1],TP VG (TP Xk ύ [΢,49]) (Ui gMin (Tg (TP Z6 (rV 8) [΢,1]) (Tg [΢,4] Tk)))] Tk))))) TY) (TN (VF (Tg [Ϲ,"more"] (Tg (rV 7) (Tg (Ui XI (Tg ξ Tk)) Tk)))))]]]]]
def X9:=UL fh 2 0 [υ,Uc [τ,ϯ,[σ,[΢,0]],[Ϲ,"hire"]] (TN [ϖ,2,WZ,Tg [σ,[΢,1]] Tk]) TY,Uc [τ,ϯ,[σ,[΢,0]],[Ϲ,"put"]] (TN [ϖ,2,Y4,Tg [σ,[΢,1]] (Tg [σ,[΢,2]] (Tg [σ,[΢,3]] Tk))]) TY,[υ,Uc [τ,ϯ,[σ,[΢,0]],[Ϲ,"drop"]] (TN [ϖ,2,Ys,Tg [σ,[΢,1]] Tk]) TY,Uc [τ,ϯ,[σ,[΢,0]],[Ϲ,"more"]] (TN [ϖ,2,Yq,Tg [σ,[΢,1]] (Tg [σ,[΢,2]] Tk)]) TY,[υ,Uc [τ,ϯ,[σ,[΢,0]],[Ϲ,"fewer"]] (TN [ϖ,2,XW,Tg [σ,[΢,1]] (Tg [σ,[΢,2]] Tk)]) TY,Uc [τ,ϯ,[σ,[΢,0]],[Ϲ,"away"]] (TN [ϖ,2,Yu,Tg [σ,[΢,1]] Tk]) TY,TN [ϖ,2,Yt,Tg [σ,[΢,1]] Tk]]]]
def Yo:=UL tj 2 0 [υ,Uc [τ,ϯ,[σ,[΢,0]],[Ϲ,"hire"]] (Xx (Yg [qo,[΢,0]] (Tg [σ,[΢,1]] Tk))) TY,Uc [τ,ϯ,[σ,[΢,0]],[Ϲ,"put"]] (YQ (Un tj (Tg [σ,[΢,2]] (Tg (Ui (ZT fh) (Tg [σ,[΢,3]] Tk)) Tk))) [qo,[΢,2]] [σ,[΢,1]]) TY,[υ,Uc [τ,ϯ,[σ,[΢,0]],[Ϲ,"drop"]] (Xx (xaY [qo,[΢,2]] [σ,[΢,1]])) TY,Uc [τ,ϯ,[σ,[΢,0]],[Ϲ,"more"]] (YQ (TP (VD tj) (TK (TK [qo,[΢,2]] [σ,[΢,1]]) [΢,0]) [σ,[΢,2]]) (TK [qo,[΢,2]] [σ,[΢,1]]) [΢,0]) TY,[υ,Uc [τ,ϯ,[σ,[΢,0]],[Ϲ,"fewer"]] (YQ (TP Z6 (TK (TK [qo,[΢,2]] [σ,[΢,1]]) [΢,0]) [σ,[΢,2]]) (TK [qo,[΢,2]] [σ,[΢,1]]) [΢,0]) TY,Uc [τ,ϯ,[σ,[΢,0]],[Ϲ,"away"]] (YQ (rC ϻ) [qo,[΢,1]] [σ,[΢,1]]) TY,Uc [τ,ϯ,[σ,[΢,0]],[Ϲ,"back"]] (Xx (xaY [qo,[΢,1]] [σ,[΢,1]])) TY]]]
def VA:=UL fh 2 0 (Ts (Xx [ϖ,2,Ut,Tg ο Tk]) (TN (TK [ϙ,2,0] ο)))
def Wc:=UL tj 2 3 [υ,[π,[ϖ,2,Uu,Tg ο Tk],2],Uc (WV (TJ [ϖ,2,VA,Tg ο Tk])) (TN (VF [Zk,Tg (Un fh Tk) (Tg (Un fh Tk) Tk)])) TY,[υ,[π,Wv ["other","house"] fh (Vb [ϖ,2,XV,Tk]) 1 [0] ϝ (TJ (TL 2 VA ο (Tg ξ Tk))) ξ,3],[π,Wv ["other","house","load"] tj J8 1 [0,2] ϝ (WV (TJ (Ui ZE (Tg (TL 2 Uu ο (Tg ξ Tk)) (Tg ς Tk))))) ξ,4],TN (VF [Zk,Tg ύ (Tg (Ui YZ [lP,Tg ύ Tk]) Tk)])]]
def WX:=UL fh 2 0 (TN (TP gLt [OQ,[qo,[΢,0]],[σ,[΢,1]]] [OQ,[σ,[΢,0]],[qo,[΢,1]]]))
abbrev X1:RT:=[τ,gGt,ς,[΢,0]]
abbrev Wo:RS:=(rPar 2 3 (Tg (TP VG ό ς) (Tg ς Tk)))
def Xp:=UL fh 2 2 [υ,[π,Ui xbs (Tg ξ Tk),2],[π,Ui xbs (Tg ο Tk),3],Ts (Wt ng X1 Wo) (TN ό)]
def XT:=UL fh 2 1 [υ,[π,Ui Xp [lP,Tg ο Tk],2],Uc [τ,gLt,ο,[΢,0]] [π,rUn xaG ς,2] TY,TN (VF (Tg (TP Xk (ξ) ς) (Tg (TP Xk ο ς) Tk)))]
def Y1:=UL fh 2 0 (TN (Ui XT (Tg [Hb,[OQ,[qo,[΢,0]],[σ,[΢,1]]],[OQ,[σ,[΢,0]],[qo,[΢,1]]]] (Tg [OQ,[qo,[΢,1]],[σ,[΢,1]]] Tk))))
abbrev Xb:RS:=(Uc [τ,VI tj,Wv ["_law_hand","_law_share","_law_names_here"] fh (Vb [ϖ,2,Wg,Tg ϡ Tk]) 2 [2] (YS 0 1) [τ,Rv,ξ,ς] ξ,Un fh Tk] (Xx (Yg ύ (Tg ϡ Tk))) TY)
abbrev xan:RS:=(Uc (YC [τ,Lu,ϸ,ς] [τ,Lu,ϸ,[σ,[΢,1]]]) SA TY)
abbrev YJ:RS:=(Ts (Uc [τ,Lu,ϡ,ύ] SA TY) (U8 (Vb (TK (TK [σ,[΢,2]] ϡ) [΢,1])) (rN 6) xan))
def Yp:=UL fh 4 3 [υ,Uc (rOr (WV (TJ (ZN 4 ς))) (WV (TJ (ZN 4 ό)))) SA TY,[π,Un tj Tk,4],[υ,U8 (Vb [ϖ,2,U9,Tk]) (rN 5) Xb,U8 J8 (rN 5) YJ,TN (TP ϯ ό ύ)]]
abbrev Yd:RS:=(Uc (YC [τ,Lu,ϸ,[σ,[΢,1]]] (WV (TJ (Ui WX (Tg [ϖ,2,Uu,Tg ϸ Tk] (Tg [ϖ,2,Uu,Tg ς Tk] Tk)))))) (Ts (Xx (Yg ύ (Tg ϸ Tk))) [π,Ui Y1 (Tg ϡ (Tg [ϖ,2,Uu,Tg ϸ Tk] Tk)),5]) TY)
def VP:=UL fh 3 4 [υ,[π,Ui Wc [lP,Tg ς Tk],3],Uc (rOr (WV (TJ (ZN 5 ό))) [τ,VI tj,Ui Ur (Tg ό Tk),[΢,3]]) SA TY,[υ,Uc [τ,Rv,ς,[σ,[΢,1]]] (TN (TP ϯ ό (VF (Tg (VF (Tg [΢,0] (Tg [΢,1] Tk))) (Tg (Un fh Tk) (Tg (Un fh Tk) Tk)))))) TY,[π,Un tj Tk,4],[υ,[π,VF (Tg [΢,0] (Tg [΢,1] Tk)),5],U8 (Vb [σ,[΢,0]]) (rN 6) Yd,[υ,Uc (rOr [τ,VI tj,[KK,[΢,0]],[ϖ,2,Uu,Tg ς Tk]] (rOr [τ,VI tj,[KK,[΢,1]],ύ] (WV (TJ (Ui Yp [lP,[϶,Tg [KK,[΢,1]] (Tg [KK,[΢,2]] Tk)]]))))) SA TY,Uc [τ,VI tj,ϡ,VF (Tg (Ui gSum (Tg (Wv ["_law_chore","_law_note"] fh (Vb [KK,[΢,2]]) 1 [1] ϝ UB (TK (TK [σ,[΢,2]] ξ) [΢,0])) Tk)) (Tg [΢,1] Tk))] SA TY,[υ,Xx (rClr [KK,[΢,1]]),Xx (rClr [KK,[΢,2]]),TN (TP ϯ (TK (Ui Wc [lP,Tg ς Tk]) [΢,1]) ύ)]]]]]
def xaa:=UL fh 2 1 [υ,[π,Un fh (Tg (YB (bX 10 7) ξ) (Tg (YB (bX 10 0) ξ) (Tg (YB (bX 10 1) ξ) Tk))),2],[π,[Hb,ς,Un fh (Tg (YB (bX 10 2) ξ) (Tg (YB (bX 10 3) ξ) (Tg (YB (bX 10 4) ξ) Tk)))],2],[υ,[π,[Hb,ς,Un fh (Tg (YB (bX 10 5) ξ) (Tg (YB (bX 10 6) ξ) (Tg (YB (bX 10 8) ξ) Tk)))],2],[π,[Hb,ς,Un fh (Tg (YB (bX 10 9) ξ) Tk)],2],Ts (Uc [τ,VI tj,ς,Wv ["_law_k","_law_at"] fh (rIr (Tg [΢,10] Tk)) 1 [1] ϝ UB (TP ϯ (ξ) ο)] SA TY) (TN (xaS (Wa (TP ϯ ο [΢,10]) (TP (gIs fh) (ξ) Ss)) (YB (bV 10) ξ)))]]
def XU:=UL tj 2 2 [υ,[π,Ss,2],rTryN 3 yk Wc [lP,Tg ο Tk] [π,ό,2],TN ς]
abbrev xbR:RS:=[υ,[π,Ui XJ (Tg ύ (Tg ό (Tg ο Tk))),5],Xx (Ui X9 [Zk,Tg ϡ Tk]),Ts (Xx (Ui Yo (Tg ό (Tg ϡ Tk)))) (Uc (WV (TJ (Ui VP [Zk,Tg ό (Tg (TK [KK,[΢,0]] (TP VG (Ui U1 (Tg ύ (Tg [΢,4] Tk))) (Ui Ur (Tg [KK,[΢,0]] Tk)))) Tk)]))) SA TY)]
abbrev z_law_1:RS:=(Uc [τ,Rv,ϸ,[KK,[΢,0]]] (Uc (WV (TJ (Ui VP [Zk,Tg ό (Tg ϸ Tk)]))) SA TY) (Uc (WV (TJ (Ui xaa (Tg (Ui XU [Zk,Tg ϸ Tk]) (Tg [΢,5] Tk))))) SA TY))
def e_law:=UL fh 1 6 [υ,[π,Un fh (Tg (Ui WW (Tg (Ui We [lP,Tg [΢,0] Tk]) (Tg [΢,4] Tk))) (Tg (Ui WW (Tg (Ui We [lP,Tg [΢,1] Tk]) (Tg [΢,4] Tk))) Tk)),1],[π,Ui (ZS 2 ZV) Tk,2],[υ,[π,Un fh (Tg (Un tj Tk) (Tg (YR tj) (Tg (YR tj) Tk))),3],U8 (Vb (rSl fh ξ (rO1 [΢,2]) (rO1 [΢,12]))) (rN 4) xbR,[υ,U8 (Vb [Hb,[Hb,[σ,[΢,0]],[σ,[΢,1]]],Un fh (Tg [Ϲ,"nosuchhandat"] (Tg [Ϲ,""] Tk))]) (rN 6) z_law_1,Uc [τ,Lu,[Ϲ,"nosuchhandat"],[KK,[΢,0]]] (Ts (Xx (TL 2 WZ ς (Tg [Ϲ,"nosuchhandat"] Tk))) (Xx (Yg [KK,[΢,0]] (Tg [Ϲ,"nosuchhandat"] Tk)))) TY,TN (Ui VP [Zk,Tg ό (Tg [Ϲ,"nosuchhandat"] Tk)])]]]
end NAM
set_option maxHeartbeats 1000000
namespace NAY
open PySem NAL NAL.EX NAL.RX NAM
section
variable {h:TH}{ns:xam}{i:Nat}
noncomputable def fin0 (x:Fl) (h:TH):ta:=match x with| .nx _=>.no| .rt v=>.ok v h
theorem zdq {κ:Fl->TH->ta}(z:fT ρ h=[Ϥ,tj])(y:(f ρ h1).bnd fin0=[ϳ,d])(k:κ (.rt d) h2=r):(Ts (Uc fT f TY) g ρ h).bnd κ=r:=by cases e:f ρ h1 with| ok x h' =>(rw[e] at y;cases x with| nx _=>cases y| rt v=>cases y;rwa [yM ((iI z).trans e)])| _=>rw[e] at y;cases y
theorem zcT (a1:[Gl,a.1])(a2:[Gl,a.2])(b1:[Gl,b.1])(b2:[Gl,b.2]):WX [UO a,UO b] h=.ok (.bl (xbv a b)) h:=[ώ,[ϣ,aH [η,rfl,ic a1 b2] [η,rfl,ic b1 a2] lt_int]]
theorem F5 {k:Nat}(e:h[i]?=se Rt):We [.at i,PA] h=.ok (.int [Jr,k]) h:=by(have e2:eS h (.at i)=se Nn:=by unfold eS;dsimp only;rw[aX,e]);(have gl:Ur [.at i] h=.ok (.int ns.length) h:=by unfold Ur eK;dsimp only;rw[aX,e];rw[e2];show RX.R.ok [N3,UJ (ns.map D.int)] _=_;rw[aW,bq];rfl);refine[ώ,sB (aO (aH rfl [ϋ,gl] lt_int)) (λz=>?_) λz=>?_];refine[ϣ,[η,rfl,?_]];unfold isD eK;dsimp only;rw[aX,e];show T5 (eS h (.at i)) _=_;rw[e2];show T5 (eat (ns.map D.int) k) _=_;rw[Xm,bo,getD_at' (by simpa using z) 0];rfl;rw[bO,gf (by simpa using z)];exact[ϣ,rfl]
theorem lO (h:x.natAbs<2^64):[Gl,x]:=hZ h (oY (by decide) (by decide))
theorem rq {k:Nat}(hk:k<=9):∃m:Int,0<=m/\U1 [.int c,PA] h=.ok Lq h:=by by_cases z:c%2=0;obtain⟨ρ2,h2,lp,⟨m,y,m0,rfl⟩,rfl⟩:=fG (f:=YI) (fg:=rN 3) (fi:=rIr (Tg ο Tk)) (ρ:=[[ϒ,c],[ϒ,k],[ϒ,(if c<0 then-c else c).fdiv 2],ng]) (λ_ ρ g=>(∃m y,0<=m/\ρ=[[ϒ,c],[ϒ,k],[ϒ,m],y])/\g=h) (sX rfl (NAG.gl68 hk)) (λi _ _ _=>sQ i) (by rw[k6];exact NAG.gl68 hk) #[#[_,_,AV (by split<;>lia) (by decide),rfl],rfl] (by rintro i a ρ g _ ⟨⟨m,y,m0,rfl⟩,rfl⟩;exact#[_,rfl,nE (jd [η,rfl,ie (by decide) (by decide)] rfl) #[#[_,_,AV m0 (by decide),rfl],rfl]]);exact#[m,m0,[ώ,zdq (aO [η,[η,rfl,mod_int (by decide)],eq_int.trans (by rw[Tc z];rfl)]) (sA [η,[ϋ,tD],ie (by decide) (by decide)] (sG lp (sR rfl rfl))) Lf]];obtain⟨n,hn⟩:∃n,n=(c+7919*k)%2147483629:=#[_,rfl];obtain⟨l,hl⟩:∃l,l=(n*n+16807*n+k)%2147483629:=#[_,rfl];exact#[l*l%2147483587,kU _ (by decide),[ώ,sF (aO [η,[η,rfl,mod_int (by decide)],eq_int.trans (by rw[Tf z];rfl)]) (sA [η,aH rfl [η,rfl,ic (lO ε) (lO (by lia))] add_int,(mod_int (by decide)).trans (by rw[<-hn])] (sA [η,[η,aH [η,rfl,ic (lO (by lia)) (lO (by lia))] [η,rfl,ic (lO ε) (lO (by lia))] add_int,add_int],(mod_int (by decide)).trans (by rw[<-hl])] [ϣ,[η,[η,rfl,ic (lO (by lia)) (lO (by lia))],mod_int (by decide)]]))]]
theorem F6:∃w:Int,1<=w/\w<=10^60/\XI [.int c] h=.ok Ou h:=by obtain⟨m,m0,q⟩:=rq (c:=c) (k:=3) (by decide);obtain⟨big,hb⟩:∃b:Int,b=10^60-1:=#[_,rfl];(have b0:0<big:=by rw[hb];decide);(have p1:gPow (.int 10) (.int 60) h=.ok (.int (big+1)) h:=by rw[hb];rfl);(have e1:big+1-1=big:=by simp[p1]);have r1:=kU c (show big≠0 by exact dF b0);have D4:Xk Lq (.int 4) h=.ok (.int (m.fdiv 4)) h:=ie (by decide) (by decide);by_cases z:m%4=0;exact#[1+c%big,NAG.gl64 r1,by lia,[ώ,sA (aK [Ϣ,[ν,rfl]] q) (sT (aO [η,[η,rfl,mod_int (by decide)],v5 z]) [ϣ,aH rfl (aH rfl [η,[η,rfl,p1],rfl] (mod_int (by rw[e1];exact b0))) (by rw[e1];rfl)])]];by_cases y:m%4=1;exact#[1+m.fdiv 4%1000,by lia,by lia,[ώ,sA (aK [Ϣ,[ν,rfl]] q) (sF (aO [η,[η,rfl,mod_int (by decide)],qX z]) (sT (aO [η,[η,rfl,mod_int (by decide)],v5 y]) [ϣ,aH rfl [η,[η,rfl,D4],mod_int (by decide)] rfl]))]];exact#[1+m.fdiv 4%5,by lia,by lia,[ώ,sA (aK [Ϣ,[ν,rfl]] q) (sF (aO [η,[η,rfl,mod_int (by decide)],qX z]) (sF (aO [η,[η,rfl,mod_int (by decide)],qX y]) [ϣ,aH rfl [η,[η,rfl,D4],mod_int (by decide)] rfl]))]]
end
section
variable {γ:Type}{h h2:TH}{l:Tm}{g:γ->D}{fi:RI}{fg:RG}{fs:RS}{nx:Nx}{ρ:Ul}{v:D}
theorem F7 (Inv:Ul->Prop)(hx:∀i,nx h i=se ('N'[i]?))(ha:l[k]?=Ϸ)(ps:∀i b ρ,i<k->l[i]?=SW->Inv ρ->∃ ρ1 ρ2,fg (g b) ρ=Yr/\fs ρ1 h=.ok NO h/\Inv ρ2)(lst:∀ ρ,Inv ρ->∃ ρ1,fg (g a) ρ=Yr/\fs ρ1 h=[ϳ,Jw]) :∀m i ρ,i<=k->k<i+m->Inv ρ->rGo nx fg fs m i ρ h=[ϳ,Jw]| 0,i,ρ,h1,h3,_=>absurd h3 (by simp[*])| m+1,i,ρ,h1,h3,I=>by rw[yK,hx i,bo];by_cases e:i=k;grind[T5,RX.R.bnd];(have il:i<l.length:=by grind);have e1:=aV il;obtain⟨ρ1,ρ2,q1,q2,I2⟩:=ps i _ ρ (by lia) e1 I;rw[e1];show T5 (fg (g l[i]) ρ) _=_;rw[q1];show[Kk,fs ρ1 h]=_;rw[q2];exact F7 Inv hx ha ps lst m (i+1) ρ2 (by lia) (NAG.gl13 h3) I2
theorem zaO (Inv:Ul->Prop)(he:fi ρ h=.ok nx h)(hx:∀i,nx h i=se ('N'[i]?))(ha:l[k]?=Ϸ)(hk:k<1000)(h0:Inv ρ)(ps:∀i b ρ,i<k->l[i]?=SW->Inv ρ->∃ ρ1 ρ2,fg (g b) ρ=Yr/\fs ρ1 h=.ok NO h/\Inv ρ2)(lst:∀ ρ,Inv ρ->∃ ρ1,fg (g a) ρ=Yr/\fs ρ1 h=[ϳ,Jw]):U8 fi fg fs ρ h=[ϳ,Jw]:=by unfold U8;rw[he];exact F7 Inv hx ha ps lst 1000 0 ρ (ja _) (by assumption) h0
end
section
variable {h:TH}{ns:μ}{P:To->Bool}{d:D}
theorem F8 (iL:∀x∈ns,Ym tj Ϯ d h=.ok (.bl (P x)) h)(hl:ns.length<1000)(hx:ns.find? P=ω):VJ [M9,d] h=.ok Ϯ h:=by obtain⟨px,as,bs,e,np⟩:=List.find?_eq_some_iff_append.mp hx;(have hk:ns[as.length]?=ω:=ε);have il:=(aQ.mp hk).1;(have bd:∀y∈ns,XD [[ϔ,L6],ϩ,se MH] h=if P y then .ok (.rt MH) h else .ok (.nx [[ϔ,L6],ϩ,se MH]) h:=λy hy=>by have t:=aO (aH (fa:=ς) (fb:=ο) (ρ:=[[ϔ,L6],ϩ,se MH]) rfl rfl (iL y hy));cases hp:P y with| false=>rw[hp] at t;exact(lG t).trans rfl| true=>rw[hp] at t;exact(iI t).trans rfl);(have f:=zaO (fg:=rN 2) (fi:=LO) (ρ:=[[ϔ,L6],ϩ,ng]) (fun ρ=>∃z,ρ=[[ϔ,L6],ϩ,z]) rfl cY hk (by exact vf il hl) #[_,rfl] (λi b ρ hi hb #[z,e1]=>by subst e1;(have ba:=by rw[e,iN hi] at hb;exact aM hb);(have nb:=by have:=np b ba;simpa using this);exact#[_,_,rfl,(bd b (aM hb)).trans (by rw[nb];rfl),#[_,rfl]]) fun ρ #[z,e1]=>by subst e1;exact#[_,rfl,(bd x (aM hk)).trans (by rw[px];rfl)]);exact nZ rfl (yM f) rfl
end
section
variable {h:TH}{a b:Int}
theorem NS:Xp [.int a,.int b] h=.ok (.int (bQ a b)) h:=by obtain⟨ρ2,h2,q2,rfl,l,rfl⟩:=n8 (fT:=X1) (fs:=Wo) (λm ρ h1=>h=h1/\∃l g,ρ=[[ϒ,a],[ϒ,b],[ϒ,l],[ϒ,g]]/\0<=g/\0<=l/\bQ g l=bQ a b/\m=l.toNat) (fun ρ h1=>h=h1/\∃l,ρ=[[ϒ,a],[ϒ,b],[ϒ,l],[ϒ,bQ a b]]) (λm ρ h1 I=>by obtain⟨rfl,l,g,rfl,hg,hl,e,rfl⟩:=I;by_cases c:0<l;have:=mZ g c;refine#[tj,h,aO [η,rfl,n9 c],λ_=>nE (h1:=h) ?_ #[(g%l).toNat,NAG.gl24 c this,rfl,g%l,l,rfl,hl,kU _ (by exact dF c),by rw[Db hg c,e],rfl],λz=>(nomatch z)];unfold Wo rPar;rw[[ν,[η,rfl,mod_int c]]];rfl;(have e0:=by exact NAG.gl23 hl c);subst e0;exact#[fh,h,aO [η,rfl,oa c],λz=>(nomatch z),λ_=>#[rfl,0,by rw[<-e,De hg]]]) #[rfl,_,_,rfl,vH b,vH a,by rw[nj,Dc a b],rfl];exact[ώ,sA (aK [ν,rfl] tD) (sA (aK [ν,rfl] tD) (sG q2 [ϣ,rfl]))]
end
section
variable {h:TH}{ns:μ}{a:Nat}
theorem rr (e:h[a]?=[ϓ,l]):eS h (.at a)=tx/\eK h (.at a)=none:=by constructor;unfold eS;dsimp only;rw[aX,e];unfold eK;dsimp only;rw[aX,e]
theorem zdA (al:a<h.length)(e:h[a]?=[ϓ,L6])(hl:ns.length<=20):∃(n:Int) (y:Option D) (acc:List To),U8 M1 (rN 3) XQ [[ϒ,m],se (.at a),se (.at h.length),ng] (h++[.ml []])=.ok (.nx [[ϒ,n],se (.at a),se (.at h.length),y]) (h++[I3])/\acc.Sublist ns:=by(have ga:∀o:TM,(h++[o])[a]?=[ϓ,L6]:=λo=>by rwa [iN al]);(obtain⟨ρ2,h2,lp,n,y,acc,e1,e2,s⟩:=D2 (fs:=XQ) (fg:=rN 3) (l:=ns) (g:=D.str) (nx:=X4 (.at a)) (fi:=M1) (h:=h++[.ml []]) (h':=h++[.ml []]) (ρ:=[[ϒ,m],se (.at a),se (.at h.length),ng]) (λi ρ g=>∃(n:Int) (y:Option D) (acc:List To),ρ=[[ϒ,n],se (.at a),se (.at h.length),y]/\g=h++[I3]/\acc.Sublist (ns.take i)) (by show T5 (eS (h++[.ml []]) (.at a)) _=_;rw[(rr (ga _)).1];rfl) (λi ρ g #[n,y,acc,_,e2,_]=>by rw[e2];show Wm (eS (h++[I3]) (.at a)) _=_;rw[(rr (ga _)).1];show se (eg LS i)=_;rw[aX]) (NAG.gl59 hl) #[m,ng,[],rfl,rfl,List.nil_sublist _] λi x ρ g hx #[n,y,acc,e1,e2,s]=>by subst e1 e2;(have tk:ns.take (i+1)=ns.take i++[x]:=by rw[qK,hx];rfl);have sl:=s.length_le;have tl:=Ba i ns;have t1:=aO (aH (o:=ϯ) (fa:=TP VG (ξ) [΢,2]) (fb:=[΢,1]) (ρ:=[[ϒ,n],se (.at a),se (.at h.length),Md]) (d:=.int (n%2)) (e:=LJ) (h:=h++[I3]) (h':=h++[I3]) (h2:=h++[I3]) (ze9 (h':=h++[I3]) rfl rfl (by decide)) rfl eq_int);rw[mW] at t1;have dv:∀g:TH,TD (TP Xk (ξ) [΢,2]) ϝ [[ϒ,n],se (.at a),se (.at h.length),Md] g=.ok (.nx [[ϒ,n.fdiv 2],se (.at a),se (.at h.length),Md]) g:=λg=>jd (aH (d:=Pk) (e:=.int 2) (h':=g) (h2:=g) rfl rfl (ie (by decide) (by decide))) rfl;by_cases z:n%2=1;rw[Tc z] at t1;have ap:=lH (h:=h++[I3]) (fa:=ς) (fA:=Tg ό Tk) (ρ:=[[ϒ,n],se (.at a),se (.at h.length),Md]) (i:=h.length) (l:=acc.map .str) (y:=Ϯ) rfl Um rfl (by rw[bq];lia);rw[pq] at ap;refine#[_,_,_,rfl,uN (nY ((iI t1).trans (fQ ap))) (dv _),n.fdiv 2,_,acc++[x],rfl,by rw[dz];rfl,by rw[tk];exact s.append_right [x]];rw[Tf z] at t1;exact#[_,_,_,rfl,uN (nY ((lG t1).trans rfl)) (dv _),n.fdiv 2,_,acc,rfl,rfl,by rw[tk];exact s.trans (A5 _ _)]);rw[lY] at s;exact#[n,y,acc,by rw[lp,e1,e2],s]
end
section
variable {h:TH}{ns l l':μ}{a i:Nat}{neg:Bool}
theorem F9 (ok:∀x∈l,ZG x):WG 60 (.lst KV)=tj:=by show xbt 59 KV=tj;induction l with| nil=>rfl| cons x l ih =>rw[bz,yG,ih λy hy=>ok y (.tail _ hy),wW];exact ok x (.head _)
theorem Ga:∀{l l':List To},xbI (dEq 59) KV Ox=se (decide (l=l'))| [],[]=>rfl| [],_::_=>rfl| _::_,[]=>rfl| x::l,y::l'=>by show(match se (sEq x y)with| some tj=>xbI (dEq 59) KV Ox| some fh=>Ty| none=>ng)=_;rw[nX,Ga];by_cases e:x=y;all_goals simp_all
theorem ru (f1:fz h 0 9 d=[ϔ,KV])(f2:fz h 0 9 e=[ϔ,Ox])(o1:∀x∈l,ZG x)(o2:∀x∈l',ZG x):VI neg d e h=.ok (.bl (neg^^decide (l=l'))) h:=by unfold VI;rw[f1];rw[f2];show Uf (WG 60 (.lst KV)&&WG 60 (.lst Ox)) (T5 (xbI (dEq 59) KV Ox) _)=_;rw[F9 o1,F9 o2,Ga];rfl
theorem zN:fz h 0 9 (.lst KV)=[ϔ,KV]:=iR 9 λd hd=>cdm (λ_=>by trivial) d hd
theorem om (e:h[i]?=[ϓ,KV]):fz h 0 9 (.at i)=[ϔ,KV]:=vX (ja _) e (cdm λ_=>by trivial)
theorem oq {l:Tm}{k:Nat}(z1:fa ρ h=.ok (.at i) h)(e:h[i]?=[ϓ,'N'])(z2:fb ρ h=.ok PA h)(hk:l[k]?=ω):TK fa fb ρ h=.ok (g x) h:=aH z1 z2 (by unfold isD;rw[(rr e).2];show T5 (eS h (.at i)) _=_;rw[(rr e).1];grind[T5,eat,Xm,bo])
theorem NU (cl:Ϭ)(e:h[a]?=[ϓ,L6])(hl:ns.length<=20)(ne:ns≠[])(ok:∀x∈ns,ZG x):∃fs:List To,Y0 [Lq,.at a] h=.ok (.lst (fs.map .str)) h/\fs≠[]/\fs.Sublist ns:=by obtain⟨n,y,acc,lp,sb⟩:=zdA 'Q'.1 e hl;have eq:=ru (neg:=fh) (h:=h++[I3]) (om Um) (zN (l:=[])) (λx hx=>ok x (sb.subset hx)) (λx hx=>by cases hx);by_cases z:acc=[];subst z;(have nl:0<(ns.length:Int):=by have:=fM.mpr ne;simp_all);(have kl:(n%ns.length).toNat<ns.length:=by have:=mZ n nl;simp_all);refine#[[ns[(n%ns.length).toNat]],[ώ,sA Zu (sG lp (sG ((iI (aO [η,rfl,eq])).trans (jd ((je [ν,oq rfl (bv e) (aH rfl [ϋ,lI (bv e)] (by rw[bq,mod_int nl];exact congrArg (λx=>RX.R.ok (D.int x) _) (by have:=kU n (show(ns.length:Int)≠0 by exact dF nl);exact NAG.gl29 this))) (aV kl)] rfl).trans (by show[P5,D.at (hn _),_,_]=_;rw[gm,gq])) rfl)) (sR rfl ?_)))],by simp,List.singleton_sublist.mpr (ka kl)];rw[eF];exact pn cl (by simp) (by simp) (cdm λ_=>by trivial);refine#[acc,[ώ,sA Zu (sG lp (sF (aO [η,rfl,eq.trans (by rw[Tf z];rfl)]) (sR rfl ((λz=>pn cl ϱ z (cdm λ_=>by trivial)) Um))))],z,sb]
end
section
variable {h:TH}{c:bC}{t:bw}{j:Nat}{neg:Bool}{k:To}{α:Type}{f:α->D}{l:List (To×α)}{w0 w1:μ}
theorem pI (e:h[j]?=se [Ϻ,'/',f,l]):Ym neg OK (.at j) h=.ok (.bl (neg^^decide (k∈'a'))) h:=by have z:=xbr (neg:=neg) (k:=k) (f:=f) (l:=l) (h:=h);unfold Ym at z ⊢;rw[show eK h (.at j)=eK h (Ya f l)by unfold eK Ya;dsimp only;rw[aX,e]];exact z
structure WK (h:TH)(c:bC)(t:bw)(aw:List (To×Bool))(nt:List (To×Nat)):Prop where
 n0:h[2]?=[ϓ,'+'.map .str]
 n1:h[3]?=se [Ϻ,UH aw,D.bl,aw]
 n2:h[4]?=se [Ϻ,UH nt,D.at,nt]
 awi:∀x,x∈'L'↔Uw x c=Ty
 an:'L'.Nodup
 nm:Tu nt='%'
 nd:(nt.map Prod.snd).Nodup
 at_:∀q∈nt,4<q.2/\∃(w:Int) (ns xs:List To),Uw q.1 t=se (w,ns)/\h[q.2]?=[ϓ,[Ou,Lx]]/\xs.length<1000/\∀x∈xs,x∈ns
noncomputable abbrev Vf:D:=.lst [.at 2,.at 3,.at 4]
noncomputable abbrev YL (w0 w1:μ):D:=.lst [.lst (w0.map .str),.lst (w1.map .str)]
variable {aw:List (To×Bool)}{nt:List (To×Nat)}{cell:Int}
theorem zdJ (hl:t.length<w1.length)(nd:w1.Nodup):∃x,w1.find? (λx=>[IT,x,'%'])=ω:=by cases e:w1.find? (λx=>[IT,x,'%'])with| some x=>simp_all| none =>(have:=nd.length_le_of_subset λx hx=>by simpa using Bf.mp e x hx);grind[Tu]
theorem NX {l:θ}(z1:fa ρ h=.ok Lw h)(z2:fb ρ h=.ok LJ h):xbz fh fa fb ρ h=.ok Lw h:=by unfold xbz;rw[z1];show[Kk,fb ρ h]=_;rw[z2];rfl
theorem NY {l:θ}(z1:fa ρ h=.ok Lw h)(z2:fb ρ h=.ok (.int (-1)) h):xbz fh fa fb ρ h=.ok (.lst l.reverse) h:=by unfold xbz;rw[z1];show[Kk,fb ρ h]=_;rw[z2];show[MW,D.lst (erv l)]=_;rw[DV]
theorem NZ (cl:Ϭ)(N:WK h c t aw nt)(ok:∀x∈'+',ZG x)(lc:c.length<=20)(ne:c≠[])(hl:t.length<w1.length)(l1:w1.length<1000)(nd:w1.Nodup)(ndc:'+'.Nodup):∃(ch:To) (w:Int) (xs:List To),ZF [.int cell,Vf,YL w0 w1] h=.ok (.tup [.str "put",MG,Ou,Lx]) h/\ch∈w1/\ch∉'%'/\1<=w/\w<=10^60/\xs≠[]/\xs.Nodup/\∀x∈xs,x∈'+':=by obtain⟨ch,hf⟩:=zdJ hl nd;obtain⟨m,m0,qm⟩:=rq (k:=2) (by decide);obtain⟨w,w1',w2,qw⟩:=F6;obtain⟨fs,qf,fn,sb⟩:=NU cl N.n0 (by simpa [Tu] using lc) (by simpa [Tu] using ne) ok;have pf:=Bw hf;have qi:=F8 (λx hx=>(pI N.n2).trans (by rw[N.nm];simp)) l1 hf;have r2:=Int.emod_two_eq (m.fdiv 1024);(obtain⟨xs,qx,xn,xd,xi⟩:∃xs:List To,(∀{fa fb:RE} {ρ:Ul},fa ρ h=.ok (.lst (fs.map .str)) h->fb ρ h=.ok (.int (1-2*(m.fdiv 1024%2))) h->xbz fh fa fb ρ h=.ok Lx h)/\xs≠[]/\xs.Nodup/\∀x∈xs,x∈'+':=by rcases r2 with r | r;exact#[fs,λa b=>NX a (b.trans (by rw[r];rfl)),fn,sb.nodup ndc,λx hx=>sb.subset hx];exact#[fs.reverse,λa b=>(NY a (b.trans (by rw[r];rfl))).trans (by rw[List.map_reverse]),ε,((List.reverse_perm _).nodup_iff.mpr (sb.nodup ndc)),λx hx=>sb.subset ε]);refine#[ch,w,xs,[ώ,sA [ϋ,qi] (sA [ϋ,qm] [ϣ,gY [Ϣ,[Ϣ,aI [ϋ,qw] [ν,qx [ϋ,qf] (aH rfl (aH rfl [η,[η,rfl,ie (by decide) (by decide)],mod_int (by decide)] (ic (lO (by decide)) (lO (by lia)))) sub_int)]]] rfl])],AZ hf,ε,w1',w2,xn,xd,xi]
end
section
variable {h:TH}{cell:Int}
noncomputable abbrev az:To:="abcdefghijklmnopqrstuvwxyz"
noncomputable abbrev bsN (a b:Int):To:=Zv az Ϸ (se (a+b))
def jn (x y:To):To:=#[#[eap x.cps.toList y.cps.toList]]
def nmN (B:To) (p:Int) (k:Nat):To:=jn (jn (Zv B ng ϕ) #[#[[97+k]]]) (Zv B ϕ ng)
noncomputable def okB (x:To):Bool:=bR 1 x.cps.toList.length&&bR x.cps.toList.length 12&&x.cps.toList.all λc=>bR 97 c&&bR c 122
noncomputable def sm (x:To):Bool:=[PP,x.length]
def chk (a b p:Nat):Bool:=sm (bsN a b)&&bR (bsN a b).cps.toList.length 5&&sm (Zv (bsN a b) ng ϕ)&&sm (Zv (bsN a b) ϕ ng)&&(aT 4).all (λk=>okB (nmN (bsN a b) p k))&&decide (((aT 4).map (nmN (bsN a b) p)).map (·.cps.toList)).Nodup
theorem Gb:∀a<26,∀b<6,∀p<6,chk a b p=tj:=by decide +kernel
theorem Gc (e:okB x=tj):Km:=by simp only[okB,cC,dH,iO] at e;exact#[e.1.1,e.1.2,e.2]
theorem Gd (e:(jn x y).cps.toList.length<=100):VD fh Ϯ MH h=.ok (.str (jn x y)) h:=by show Uf (bR _ _) _=_;rw[show[PP,NQ+UJ y.cps.toList]=tj by rw[dH,aW,aW];have:(eap x.cps.toList y.cps.toList).length<=100:=e;rw[gj,eE] at this;lia];rfl
theorem zO (z1:fa ρ h=.ok (.str z) h)(z2:fl ρ h=.ok lo h)(z3:fu ρ h=.ok up h)(z4:sm (Zv z lo up)=tj):rSl fh fa fl fu ρ h=.ok (.str (Zv z lo up)) h:=by unfold rSl;rw[z1];show[Kk,fl ρ h]=_;rw[z2];show[Kk,fu ρ h]=_;rw[z3];show Uf (sm _) _=_;rw[z4];rfl
theorem N0 (hk:k<4)(z1:fa ρ h=.ok (.str az) h)(z2:fb ρ h=.ok PA h):TK fa fb ρ h=.ok (.str #[#[[97+k]]]) h:=aH z1 z2 (by rcases k with _ | _ | _ | _ | k;rfl;rfl;rfl;rfl;exact absurd hk (by simp))
theorem Ge:∃ns:List To,WW [.int cell,.int 4] h=.ok M9 h/\ns.length=4/\ns.Nodup/\∀x∈ns,Km:=by obtain⟨m,m0,qm⟩:=rq (c:=cell) (k:=0) (by decide);obtain⟨a,ha⟩:=kT (kU m (b:=26) (by decide));obtain⟨b,hb⟩:=kT (kU (m.fdiv 26) (b:=6) (by decide));have la:=mZ m (b:=26) (by decide);have lb:=mZ (m.fdiv 26) (b:=6) (by decide);obtain⟨n,hn⟩:∃n,n=(bsN a b).cps.toList.length:=#[_,rfl];obtain⟨p,hp⟩:=kT (kU (m.fdiv 156) (b:=n+1) (by lia));have lp:=mZ (m.fdiv 156) (b:=n+1) (by simp);have C0:=Gb a (NAG.gl103 ha) b (NAG.gl102 hb) 0 (by decide);simp only[chk,cC,dH,iO,decide_eq_true_eq,<-hn] at C0;have C:=Gb a (NAG.gl103 ha) b (NAG.gl102 hb) p (by lia);simp only[chk,cC,dH,iO,decide_eq_true_eq] at C;obtain⟨⟨⟨⟨⟨c1,c2⟩,c3⟩,c4⟩,c5⟩,c6⟩:=C;have g1:VG Lq (.int 26) h=.ok (.int a) h:=(mod_int (by decide)).trans (by rw[ha]);(have g4:Ur [.str (bsN a b)] h=.ok Pk h:=by show Uf (bR (UJ (bsN a b).cps.toList) _) [MW,[N3,UJ (bsN a b).cps.toList]]=_;rw[aW,<-hn,show[PP,n]=tj by rw[dH];lia];rfl);have j2:∀k∈aT 4,(nmN (bsN a b) p k).cps.toList.length<=100:=λk hk=>cf (Gc (c5 k hk)).l12 (by decide);have j1:=λk hk=>cf (by show _<=(eap _ _).length;rw[gj,eE];exact jP _ _) (j2 k hk);refine#[(aT 4).map (nmN (bsN a b) p),[ώ,sA rfl (sA [ϋ,qm] (sA (zO rfl (re [η,rfl,g1]) (re (aH [η,rfl,g1] [η,[η,rfl,ie (by decide) (by decide)],(mod_int (by decide)).trans (by rw[hb])] add_int)) c1) (sA (aH [η,rfl,ie (by decide) (by decide)] [η,[ϋ,g4],add_int] ((mod_int (by simp)).trans (by rw[hp]))) [ϣ,cA (sX rfl (by decide)) sQ (by decide) (λk hk=>#[_,rfl,aH (aH (zO rfl rfl (re rfl) c3) (N0 (dA.mp hk) rfl rfl) (Gd (j1 k hk))) (zO rfl (re rfl) rfl c4) (Gd (j2 k hk))]) (by rfl)])))],by rfl,c6.of_map _ λ_ _ z e=>z (by rw[e]),λx hx=>?_];obtain⟨k,hk,rfl⟩:=NB;exact Gc (c5 k hk)
end
section
variable {h:TH}{c:bC}{t:bw}{i:Nat}{a b:Bool}{w0 w1:μ}{aw:List (To×Bool)}{nt:List (To×Nat)}{cell:Int}{ρ:Ul}{fT fU:RT}{fa fb:RE}{l:μ}{k:To}
theorem kr (x:fT ρ h=.ok a h)(y:fU ρ h=.ok b h):rOr fT fU ρ h=.ok (a||b) h:=by unfold rOr;rw[x];cases a;exact y;rfl
theorem ku (x:fT ρ h=.ok a h)(y:fU ρ h=.ok b h):YC fT fU ρ h=.ok (a&&b) h:=by unfold YC;rw[x];cases a;rfl;exact y
theorem Gf (x:fa ρ h=.ok (.bl a) h)(y:fb ρ h=.ok Qt h):xaS fa fb ρ h=.ok (.bl (a||b)) h:=by unfold xaS;rw[x];cases a;exact y;rfl
theorem Gg (x:fa ρ h=.ok (.bl a) h)(y:fb ρ h=.ok Qt h):Wa fa fb ρ h=.ok (.bl (a&&b)) h:=by unfold Wa;rw[x];cases a;rfl;exact y
theorem N1 {f:α->D}{l:List (To×α)}(e:h[i]?=se [Ϻ,'/',f,l]):Ur [.at i] h=.ok K8 h:=by unfold Ur;dsimp only;rw[show eK h (.at i)=se ('/',Vt f l)by unfold eK;dsimp only;rw[aX,e]];show[MW,[N3,UJ '/']]=_;rw[aW];simp[UH]
inductive Dd where
 | hire (n:To)
 | put (ch:To) (w:Int) (xs:μ)
 | drop (ch:To)
 | more (ch:To) (w:Int)
 | fewer (ch:To) (k:Int)
 | away (n:To)
 | back (n:To)
noncomputable def Dd.d:Dd->D| hire n=>.tup [.str "hire",.str n]| put ch w xs=>.tup [.str "put",MG,Ou,Lx]| drop ch=>.tup [.str "drop",MG]| more ch w=>.tup [.str "more",MG,Ou]| fewer ch k=>.tup [.str "fewer",MG,PA]| away n=>.tup [.str "away",.str n]| back n=>.tup [.str "back",.str n]
def May (c:bC)(t:bw)(w0 w1:μ):Dd->Prop| .hire n=>n∈w0/\n∉'+'| .put ch w xs=>ch∈w1/\ch∉'%'/\1<=w/\w<=10^60/\xs≠[]/\xs.Nodup/\∀x∈xs,x∈'+'| .drop ch=>ch∈'%'| .more ch w=>ch∈'%'/\1<=w/\w<=10^60| .fewer ch k=>∃w ns,Uw ch t=se (w,ns)/\1<=k/\k<w| .away n=>Uw n c=BT| .back n=>Uw n c=Ty
theorem zck {f:α->D}{l:List (To×α)}(z:fa ρ h=.ok (.at i) h)(e:h[i]?=se [Ϻ,'/',f,l]):xbU fh fa ρ h=.ok (.lst ('a'.map .str)) h:=by unfold xbU;rw[z];show T5 (eK h (.at i)) _=_;rw[show eK h (.at i)=se ('/',Vt f l)by unfold eK;dsimp only;rw[aX,e]];exact zm
theorem zfg {f:α->D}{l:List (To×α)}(e:h[i]?=se [Ϻ,'/',f,l]):gEqE (.at i) (.dic [] []) h=.ok [M2,l=[]] h:=by unfold gEqE;rw[show eK h (.at i)=se ('/',Vt f l)by unfold eK;dsimp only;rw[aX,e]];cases l<;>rfl
theorem pJ {f:α->D}{l:List (To×α)}{x:α}(z1:fa ρ h=.ok (.at i) h)(e:h[i]?=se [Ϻ,'/',f,l])(z2:fb ρ h=.ok OK h)(z3:Uw k l=ω):TK fa fb ρ h=.ok (f x) h:=aH z1 z2 (by(have q:eK h (.at i)=se ('/',Vt f l):=by unfold eK;dsimp only;rw[aX,e]);rw[show isD (.at i) h=tj by unfold isD;rw[q]];unfold gDg;rw[q];show T5 (lk JU '/' (Vt f l)) _=_;rw[tI,z3];rfl)
theorem sTb {κ:Fl->TH->ta}(z:fT ρ h=[Ϥ,b])(hb:b=tj)(y:(TN fa ρ h1).bnd κ=r):(Ts (Uc fT (TN fa) f) g ρ h).bnd κ=r:=by subst hb;exact sT z y
theorem sFb {κ:Fl->TH->ta}(z:fT ρ h=[Ϥ,b])(hb:b=fh)(y:(g ρ h1).bnd κ=r):(Ts (Uc fT f TY) g ρ h).bnd κ=r:=by subst hb;exact sF z y
theorem N5 {w l:μ}(hl:l.length<w.length)(nd:w.Nodup):∃x,w.find? (λx=>[IT,x,l])=ω:=by cases e:w.find? (λx=>[IT,x,l])with| some x=>simp_all| none =>(have:=nd.length_le_of_subset λx hx=>by simpa using Bf.mp e x hx);exact(NAG.gl0 hl this).elim
theorem zP (n:Int)(ne:l≠[]):∃(k:Nat) (x:To),n%l.length=k/\l[k]?=ω:=by(have p:(0:Int)<l.length:=by have:=fM.mpr ne;simp_all);obtain⟨k,hk⟩:=kT (kU n (by exact dF p));have:=mZ n p;exact#[k,_,hk,aV ε]
theorem wE {A B M:Dd->Prop}(f:∀d,A d->B d)(z:∃d,A d/\M d):∃d,B d/\M d:=z.imp λd z=>#[f d z.1,z.2]
theorem zeE (cl:Ϭ)(N:WK h c t aw nt)(ok:∀x∈'+',ZG x)(ndc:'+'.Nodup)(ndt:'%'.Nodup)(l0:w0.length=4)(l1:w1.length=4)(n0:w0.Nodup)(n1:w1.Nodup)(s0:∀x∈'+',x∈w0)(s1:∀x∈'%',x∈w1):∃d:Dd,XJ [.int cell,Vf,YL w0 w1] h=.ok d.d h/\May c t w0 w1 d:=by obtain⟨m,m0,qm⟩:=rq (c:=cell) (k:=0) (by decide);obtain⟨m',m0',qm'⟩:=rq (c:=cell) (k:=1) (by decide);obtain⟨w,hw⟩:∃w,w=m%8:=#[_,rfl];have g0:VG Lq (.int 8) h=.ok Ou h:=(mod_int (by decide)).trans (by rw[hw]);(have lc:=by simpa [Tu,l0] using ndc.length_le_of_subset s0);(have lt:=by simpa [Tu,l1] using ndt.length_le_of_subset s1);have gl:Ur [.at 2] h=.ok (.int c.length) h:=(lI N.n0).trans (by simp[Tu]);have gw:Ur [.lst (w0.map .str)] h=.ok (.int w0.length) h:=eV;have gv:Ur [.lst (w1.map .str)] h=.ok (.int w1.length) h:=eV;(have nl:=by simpa [Tu] using congrArg rW N.nm);have gt:=(N1 N.n2).trans (by rw[nl]);have ge:VI fh (.at 2) (.lst []) h=.ok [M2,'+'=[]] h:=(ru (l':=[]) (om N.n0) rfl ok (by trivial)).trans (by simp);have gE:=zfg N.n2;obtain⟨few,hf⟩:∃f:Bool,f=((fh^^decide (w=7))||((fh^^decide (w%3=0))&&decide ((c.length:Int)<3))):=#[_,rfl];unfold XJ;by_cases B1:(decide ('+'=[])||(few&&decide ((c.length:Int)<w0.length)))=tj;(have hl:'+'.length<w0.length:=by rcases Bool.or_eq_true_iff.mp B1 with z | z;rw[Td z,l0];decide;have:=Td (mV.mp z).2;simp only[Tu,bq];simpa using this);obtain⟨x,hx⟩:=N5 hl n0;have pf:=Bw hx;have qi:=F8 (P:=λx=>[IT,x,'+']) (λx hx=>(lN N.n0).trans (by simp)) ε hx;exact#[.hire x,[ώ,sA [η,[ϋ,qm],g0] (sA [ϋ,qm'] (sA ((Gf [η,rfl,eq_int] (Gg [η,[η,rfl,mod_int (by decide)],eq_int] [η,[ϋ,gl],lt_int])).trans (by rw[<-hf])) (sTb (kr (aO [η,rfl,ge]) (ku (aO rfl) (aO (aH [ϋ,gl] [ϋ,gw] lt_int)))) B1 [ϣ,gY [Ϣ,[ν,[ϋ,qi]]] rfl])))],AZ hx,ε];have nc:'+'≠[]:=λz=>B1 (by rw[Tc z];rfl);obtain⟨k1,x,ek,hx⟩:=zP m' nc;have xc:x∈'+':=R7;(have cp:(0:Int)<c.length:=by have:=fM.mpr nc;simp[Tu] at this;simp_all);have g1:VG (.int m') (.int c.length) h=.ok (.int k1) h:=(mod_int cp).trans (by rw[<-ek];simp[Tu]);refine wE (λd z=>[ώ,sA [η,[ϋ,qm],g0] (sA [ϋ,qm'] (sA ((Gf [η,rfl,eq_int] (Gg [η,[η,rfl,mod_int (by decide)],eq_int] [η,[ϋ,gl],lt_int])).trans (by rw[<-hf])) (sFb (kr (aO [η,rfl,ge]) (ku (aO rfl) (aO (aH [ϋ,gl] [ϋ,gw] lt_int)))) (fJ.mpr B1) (sA (oq rfl N.n0 (aH rfl [ϋ,gl] g1) hx) z))))]) ?_;by_cases B2:((fh^^decide (w=5))||((fh^^decide (w=6))||(decide (1<w)&&decide (nt=[]))))=tj;by_cases xa:x∈'L';have gi:Ym fh Ϯ (.at 3) h=.ok ϻ h:=(pI N.n1).trans ε;exact#[.back x,sTb (kr (aO [η,rfl,eq_int]) (kr (aO [η,rfl,eq_int]) (ku (aO [η,rfl,gt_int]) (aO [η,rfl,gE])))) B2 [ϣ,gY (aI (aH (je rfl rfl) (aK [ν,[η,rfl,gi]] rfl) rfl) [ν,rfl]) rfl],'&'.mp xa];have gi:Ym fh Ϯ (.at 3) h=.ok SY h:=(pI N.n1).trans ε;refine#[.away x,sTb (kr (aO [η,rfl,eq_int]) (kr (aO [η,rfl,eq_int]) (ku (aO [η,rfl,gt_int]) (aO [η,rfl,gE])))) B2 [ϣ,gY (aI (aH (je rfl rfl) (aK [ν,[η,rfl,gi]] rfl) rfl) [ν,rfl]) rfl],?_];show Uw x c=BT;(match z:Uw x c with| some tj=>rfl| some fh=>exact absurd ('&'.mpr z) xa| none=>exact[KW,xc,z]);refine wE (λd z=>sFb (kr (aO [η,rfl,eq_int]) (kr (aO [η,rfl,eq_int]) (ku (aO [η,rfl,gt_int]) (aO [η,rfl,gE])))) (fJ.mpr B2) z) ?_;by_cases B3:(decide (w<2)&&decide ((t.length:Int)<w1.length))=tj;have hl:=Td (mV.mp B3).2;obtain⟨ch,v,xs,q,M⟩:=NZ (cell:=cell) cl N ok (by lia) (λz=>nc (by rw[z];rfl)) (Int.ofNat_lt.mp hl) ε n1 ndc;exact#[.put ch v xs,sTb (ku (aO [η,rfl,lt_int]) (aO (aH [ϋ,gt] [ϋ,gv] lt_int))) B3 [ϣ,[ϋ,q]],M];(have tn:Tu nt≠[]:=λz=>by(have z:=by simpa [Tu] using z);(have:t.length=0:=by rw[<-nl,z];rfl);simp[z] at B2 B3;lia);obtain⟨k2,ch,ek2,hc⟩:=zP (m'.fdiv 7) tn;(have tp:(0:Int)<t.length:=by have:=fM.mpr tn;simp[Tu] at this;simp_all);have g2:VG (.int (m'.fdiv 7)) (.int t.length) h=.ok (.int k2) h:=(mod_int tp).trans (by rw[<-ek2,<-nl];simp[Tu]);have cn:=JS;have ct:=N.nm▸cn;obtain⟨⟨_,a⟩,qa,rfl⟩:=aU.mp cn;obtain⟨_,v,ns,xs,lv,ha,_⟩:=N.at_ _ qa;have la:=d9 (N.nm▸ndt) qa;refine wE (λd z=>sFb (ku (aO [η,rfl,lt_int]) (aO (aH [ϋ,gt] [ϋ,gv] lt_int))) (fJ.mpr B3) (sA (gH (zck rfl N.n2) (aH [η,rfl,ie (by decide) (by decide)] [ϋ,gt] g2) hc) (sA (oq (g:=id) (l:=[Rx,Lx]) (pJ rfl N.n2 rfl la) ha rfl rfl) z))) ?_;by_cases B4:w=2;exact#[.drop _,sT (aO [η,rfl,eq_int.trans (by rw[Tc B4];rfl)]) [ϣ,rfl],ct];refine wE (λd z=>sF (aO [η,rfl,eq_int.trans (by rw[Tf B4];rfl)]) z) ?_;by_cases B5:((fh^^decide (w=3))&&decide (1<v))=tj;(obtain⟨u,hu,u1,u2⟩:∃u:Int,gMin [.int (v-1),.int 4] h=.ok (.int u) h/\0<u/\u<=v-1:=by refine#[_,rfl,?_];cases z:iLt 4 (v-1);exact#[ε,lT];have:=Td ((gX ..).symm.trans z);exact#[by show 0<4;decide,by exact Mx]);exact#[.fewer _ _,sTb (ku (aO [η,rfl,eq_int]) (aO [η,rfl,gt_int])) B5 [ϣ,gY [Ϣ,[Ϣ,[ν,aH rfl (aH [η,rfl,ie (by decide) (by decide)] (aK [ν,[η,rfl,sub_int]] hu) (mod_int u1)) add_int]]] rfl],v,ns,lv,by have:=kU (m'.fdiv 49) (show u≠0 by exact dF u1);lia,by have:=mZ (m'.fdiv 49) u1;lia];obtain⟨wk,k1',k2',qw⟩:=F6;exact#[.more _ wk,sFb (ku (aO [η,rfl,eq_int]) (aO [η,rfl,gt_int])) (fJ.mpr B5) [ϣ,gY [Ϣ,[Ϣ,[ν,[ϋ,qw]]]] rfl],ct,k1',k2']
end
noncomputable def wk (t:bw) (ch:To):Int:=((Uw ch t).getD (0,[])).1
noncomputable def Dd.cr (c:bC):Dd->bC| hire n=>c++[(n,tj)]| away n=>putS n fh c| back n=>putS n tj c| _=>c
noncomputable def Dd.tk (c:bC) (t:bw):Dd->bw| put ch w xs=>t++[(ch,(w,'+'.filter λy=>decide (y∈xs)))]| drop ch=>WH ch t| more ch w=>[Kz,ch,wk t ch+w]| fewer ch k=>[Kz,ch,wk t ch-k]| _=>t
section
variable {h:TH}{c:bC}{t:bw}{i:Nat}{w0 w1:μ}{R:xab}{qs:xaj}{d:Dd}{B:Int}
theorem zeG (hB:B.natAbs<2^n)(x0:0<=x)(hx:x<=B):Bd n x:=by obtain⟨k,rfl⟩:=kT x0;obtain⟨m,rfl⟩:=kT (hK x0 hx);exact ke (Int.ofNat_le.mp hx) hB
theorem Gh (h:Bd 300 x):[Gl,x]:=hZ h (oY (by decide) (by decide))
theorem ze0 (cl:Ϭ)(H:XZ c t R qs)(eh:h[i]?=[ϟ,2,Vl c t R qs])(lc:c.length<=4)(lt:t.length<=4)(o0:∀x∈w0,Km)(o1:∀x∈w1,Km)(wB:∀q∈t,1<=q.2.1/\q.2.1<=B)(hB:Bd 300 (B+10^60))(B0:0<=B)(M:May c t w0 w1 d):jf (X9 [.at i,d.d] h) h i c qs 'P' (d.tk c t):=by(have lk:∀{ch},ch∈'%'->∃ns,Uw ch t=se (wk t ch,ns)/\1<=wk t ch/\wk t ch<=B:=λ{ch} z=>by cases e:Uw ch t with| none=>exact[KW,z,e]| some a=>exact#[a.2,by simp[wk,e],by simpa [wk,e] using wB _ (cW e)]);have go:∀{ev:RX.R D} {c' t'},jf ev h i c qs c' t'->(∀{a:Row} {b:Row} {c' t' R' q'},ev=.ok (xbd a b) [ϭ,.mi 2 (Vl c' t' R' q')]->X9 [.at i,d.d] h=.ok (xbd a b) [ϭ,.mi 2 (Vl c' t' R' q')])->jf (X9 [.at i,d.d] h) h i c qs c' t':=λ#[R',q',e,k] f=>#[R',q',f e,k];have bl:∀{x},0<=x->x<=B+10^60->Bd 300 x:=zeG hB;cases d with| hire n=>exact go (FW cl H eh (o0 _ M.1) M.2 (by lia)) λe=>[ώ,sT rfl (sR (ZH eh rfl rfl e) (iT cl H eh))]| put ch w xs =>obtain⟨a,b,c1,c2,c3,c4,c5⟩:=M;(have xl:=by simpa [Tu] using c4.length_le_of_subset c5);exact go (NH cl H eh (o1 _ a) b c1 (bl (by exact cE c1) (NAG.gl41 B0 c2)) c3 c5 c4 (by lia) (by lia)) λe=>[ώ,[ϗ,sT rfl (sR (ZH eh rfl rfl e) (iT cl H eh))]]| drop ch =>obtain⟨ns,e,_⟩:=lk M;exact go (Nw cl H eh e) λe=>[ώ,[ϗ,[ϗ,sT rfl (sR (ZH eh rfl rfl e) (iT cl H eh))]]]| more ch w =>obtain⟨ns,e,e1,e2⟩:=lk M.1;obtain⟨_,m1,m2⟩:=M;exact go (zdZ cl H eh e m1 (bl (by lia) (NAG.gl40 e2 m2)) (Gh (bl (by exact cE m1) (by lia)))) λe=>[ώ,[ϗ,[ϗ,[ϗ,sT rfl (sR (ZH eh rfl rfl e) (iT cl H eh))]]]]| fewer ch k =>obtain⟨w,ns,e,m1,m2⟩:=M;obtain⟨ns',e',e1,e2⟩:=lk (ch:=ch) (aU.mpr #[_,fP,rfl]);(have ew:w=wk t ch:=ε);subst ew;exact go (NG cl H eh e m1 (by lia) (bl (by lia) (by lia)) (Gh (bl (by exact cE m1) (by lia)))) λe=>[ώ,[ϗ,[ϗ,[ϗ,[ϗ,sT rfl (sR (ZH eh rfl rfl e) (iT cl H eh))]]]]]| away n=>exact go (NA cl H eh M) λe=>[ώ,[ϗ,[ϗ,[ϗ,[ϗ,[ϗ,sT rfl (sR (ZH eh rfl rfl e) (iT cl H eh))]]]]]]| back n=>exact go (zeo cl H eh M) λe=>[ώ,[ϗ,[ϗ,[ϗ,[ϗ,[ϗ,[ϗ,sR (ZH eh rfl rfl e) (iT cl H eh)]]]]]]]
end
section
noncomputable def Lv (u:xaE):Prop:=0<=u.1/\1<=u.2/\[Gl,u.1]/\[Gl,u.2]
end
section
variable {α:Type}{l:List (To×α)}{x k:To}{a:α}{t:bw}{ch:To}{w:Int}
theorem tR:Tu (WH k l)='a'.filter λx=>decide (x≠k):=by simp[Tu,WH,rS];rfl
theorem N9:Uw x (WH k l)=if x=k then ng else Uw x l:=by induction l with| nil=>simp[WH,Uw]| cons p l ih =>unfold WH at ih ⊢;rw[jZ];by_cases e:p.1=k;rw[S9 (by simp_all),ih,dW];lia;rw[Ta (by simp_all),dW,dW,ih];lia
theorem zQ (n:k∉'a'):Uw x (l++[(k,a)])=if x=k then Ϸ else Uw x l:=by induction l with| nil=>simp[Uw,eq_comm]| cons p l ih =>(have n':k≠p.1/\k ∉ Tu l:=by simpa [Tu] using n);rw[oW,dW,dW,ih n'.2];by_cases y:p.1=x;rw[Ta y,Ta y,S9 (by rw[<-y];exact Ne.symm n'.1)];rw[S9 y,S9 y]
theorem zR:Tu [Kz,ch,w]='%':=by simp only[Tu,cD];refine cH λp _=>?_;simp only[Function.comp,Vj];split<;>rfl
theorem Oa:Uw x [Kz,ch,w]=(Uw x t).map λa=>if x=ch then(w,a.2)else a:=by induction t with| nil=>rfl| cons p t ih =>rw[bz,dW,dW,ih];(have:(Vj ch w p).1=p.1:=by unfold Vj;split<;>rfl);rw[this];by_cases y:p.1=x;rw[Ta y,Ta y,<-y];unfold Vj;by_cases z:p.1=ch;simp[z];simp[z];rw[S9 y,S9 y]
end
section
variable {h:TH}{c:bC}{t:bw}{w0 w1:μ}{aw:List (To×Bool)}{nt:List (To×Nat)}{d:Dd}
theorem sFE {κ:Fl->TH->ta}(z:fT ρ h=[Ϥ,fh])(k:κ Qd h1=r):(Uc fT f TY ρ h).bnd κ=r:=by rwa [lG z]
theorem sTE {κ:Fl->TH->ta}(z:fT ρ h=[Ϥ,tj])(y:f ρ h1=[ϳ,NO])(k:κ NO h2=r):(Uc fT f TY ρ h).bnd κ=r:=by rwa [iI z,y]
theorem WK.keep (N:WK h c t aw nt){c':bC}(n0:h'[2]?=[ϓ,'?'.map .str])(n1:h'[3]?=se [Ϻ,UH oN,D.bl,oN])(z:∀i,3<i->h'[i]?=h[i]?)(awi:∀x,x∈Tu oN↔Uw x c'=Ty)(an:(Tu oN).Nodup):WK h' c' t oN nt :={ N with n0:=n0,n1:=n1,n2:=by rw[z 4 (by decide)];exact N.n2,awi:=awi,an:=an,at_:=λq hq=>let #[q4,v,ns,xs,r]:=N.at_ q hq;#[q4,v,ns,xs,by grind]}
theorem Gi:ct n [Ϻ,'/',D.bl,l]:=cdm λ_=>by trivial
theorem Gj:∀{l:List (To×Nat)} {p q:To×Nat},(l.map Prod.snd).Nodup->p∈l->q∈l->p.2=q.2->p=q| a::l,p,q,n,hp,hq,e=>by rw[bz,eW] at n;rcases bi.mp hp with rfl | p'<;>rcases bi.mp hq with rfl | q';rfl;exact absurd (aU.mpr #[q,q',e.symm]) n.1;exact absurd (aU.mpr #[p,p',e]) n.1;exact Gj n.2 p' q' e
theorem Gk (z:∀q∈l,q.2<n):ct n [Ϻ,'/',D.at,l]:=λd hd=>by obtain⟨q,hq,rfl⟩:=PM;exact z q hq
theorem WK.lt (N:WK h c t aw nt):∀q∈nt,q.2<h.length:=λq hq=>by obtain⟨_,_,_,_,_,e,_⟩:=N.at_ q hq;exact 'Q'.1
theorem WK.setw (N:WK h c t aw nt){ns xs:μ}(ha:(ch,a)∈nt)(lv:Uw ch t=se (v,ns))(xi:xs.length<1000/\∀x∈xs,x∈ns)(a4:4<a)(al:a<h.length)(nd:(Tu nt).Nodup):WK [Sy,a,[.int v',Lx]] c [Kz,ch,v'] aw nt:=by refine{ N with n0:=by rw[bF (by lia)];exact N.n0,n1:=by rw[bF (by lia)];exact N.n1,n2:=by rw[bF (by exact eG a4)];exact N.n2,nm:=by rw[zR];exact N.nm,at_:=λq hq=>?_};rw[Oa];by_cases e:q.2=a;have:=Gj N.nd hq ha e;subst this;exact#[a4,v',ns,xs,by rw[lv];simp,by rw[fD al],xi];have q1:q.1≠ch:=λz=>e (by have:=(d9 nd hq).symm.trans (z▸d9 nd ha);exact dU this);obtain⟨q4,v,ns,xs,r1,r⟩:=N.at_ q hq;exact#[q4,v,ns,xs,ε,by rwa [[LX,e]]]
theorem Ob (z1:fv ρ h=[Ϥ,f a])(z2:fx ρ h1=[Ϥ,.at i])(z3:fy ρ h1=[Ϥ,OK])(e:h1[i]?=se [Ϻ,'/',f,l])(nd:'a'.Nodup)(hl:l.length<=1000):YQ fv fx fy ρ h=[IE,h1.set i [Ϻ,UH (putS k a l),f,putS k a l]]:=by have:=tK (fv:=λ_ h=>.ok (f a) h) rfl z2 z3 e nd hl;grind[YQ]
theorem zS {xs:μ}:ct n (.ml [.int v,Lx]):=λd hd=>by rcases QU with rfl | hd;trivial;rw[cO.mp hd];exact cdm λ_=>by trivial
theorem Oc (cl:Ϭ)(N:WK h c t aw nt)(ndc:'+'.Nodup)(ndt:'%'.Nodup)(lc:c.length<=4)(lt:t.length<=4)(M:May c t w0 w1 d){c2 t2 R qs}(H:XZ c2 t2 R qs)(eh:h[1]?=[ϟ,2,Vl c2 t2 R qs]):∃h' oN nt',Yo [Vf,d.d] h=[χ,.non]/\WK h' 'P' (d.tk c t) oN nt'/\Cl h'/\∀i,i<2->h'[i]?=h[i]?:=by have nd:=N.nm▸ndt;(have wh:∀{ch},ch∈'%'->∃(a:Nat) (v:Int) (ns xs:List To),(ch,a)∈nt/\Uw ch nt=Ϸ/\Uw ch t=se (v,ns)/\h[a]?=[ϓ,[.int v,Lx]]/\(xs.length<1000/\∀x∈xs,x∈ns)/\4<a/\a<h.length/\wk t ch=v:=λ{ch} z=>by obtain⟨⟨_,a⟩,qa,rfl⟩:=aU.mp (N.nm▸z:ch∈Tu nt);obtain⟨a4,v,ns,xs,lv,ha,xi⟩:=N.at_ _ qa;exact#[a,v,ns,xs,qa,d9 nd qa,lv,ha,xi,a4,N.lt _ qa,by unfold wk;rw[lv];rfl]);cases d with| hire n =>refine#[_,aw,nt,kn rfl (sG ((iI rfl).trans (fQ (lH rfl N.n0 rfl (by simp[Tu];exact NAG.gl108 lc)))) [ϗ,[ϗ,[ϗ,[ϗ,[ϗ,sFE rfl rfl]]]]]),N.keep ?_ ?_ (λi hi=>bF (by lia)) (λx=>?_) N.an,cl.set ?_,λi hi=>bF (by exact eG hi)];rw[fD (aQ.mp N.n0).1];simp[Tu,Dd.cr];rw[bF (by decide)];exact N.n1;rw['&'];show _↔Uw x (c++[(n,tj)])=_;rw[zQ M.2];by_cases y:x=n;rw[Ta y,y,US.mpr M.2];trivial;rw[S9 y];rw[show '+'.map D.str++[D.str n]=('+'++[n]).map D.str by simp];exact cdm λ_=>by trivial| away n =>(have na:n∉'L':=λz=>by have:=(N.awi n).mp z;rw[show Uw n c=BT from M] at this;cases this);(have al:=by simpa [Tu] using N.an.length_le_of_subset (l₂:=Tu c) λx hx=>aU.mpr #[_,cW ((N.awi x).mp hx),rfl]);refine#[_,aw++[(n,tj)],nt,kn rfl [ϗ,[ϗ,[ϗ,[ϗ,[ϗ,sG ((iI rfl).trans (tK rfl rfl rfl N.n1 N.an (by lia))) (sFE rfl rfl)]]]]],N.keep ?_ ?_ (λi hi=>bF (by exact cG hi)) (λx=>?_) ?_,cl.set Gi,λi hi=>bF (NAG.gl110 hi)];rw[bF (by decide)];show _=se (TM.ml ((Tu (putS n fh c)).map D.str));rw[mn (aU.mpr #[_,cW M,rfl])];exact N.n0;rw[fD (aQ.mp N.n1).1,rg na];show _↔Uw x (putS n fh c)=_;rw[wg,show Tu (aw++[(n,tj)])='L'++[n]by simp[Tu],dh,cO,'&'];by_cases y:n=x;rw[Ta y];simp_all;rw[S9 y];simp[Ne.symm y];rw[show Tu (aw++[(n,tj)])='L'++[n]by simp[Tu]];exact k7.mpr #[N.an,by simp,by rintro a ha b hb rfl;rw[cO.mp hb] at ha;exact na ha]| back n =>((obtain⟨b,lb⟩:∃b,Uw n aw=SW:=by cases e:Uw n aw with| none=>exact[KW,(N.awi n).mpr M,e]| some b=>exact#[b,rfl]);refine#[_,WH n aw,nt,kn rfl [ϗ,[ϗ,[ϗ,[ϗ,[ϗ,[ϗ,sTE rfl (fQ (zK cl H eh rfl rfl N.n1 lb)) rfl]]]]]],N.keep ?_ ?_ (λi hi=>bF (by exact cG hi)) (λx=>?_) ?_,cl.set Gi,λi hi=>bF (NAG.gl110 hi)];rw[bF (by decide)];show _=se (TM.ml ((Tu (putS n tj c)).map D.str));rw[mn (aU.mpr #[_,cW M,rfl])];exact N.n0;rw[fD (aQ.mp N.n1).1];show _↔Uw x (putS n tj c)=_;rw[wg,tR,bB,'&'];by_cases y:n=x;rw[Ta y];simp_all;rw[S9 y];simp[Ne.symm y];rw[tR];exact N.an.filter _)| drop ch =>((obtain⟨a,la⟩:∃a,Uw ch nt=Ϸ:=by cases e:Uw ch nt with| none=>exact[KW,N.nm▸M,e]| some b=>exact#[b,rfl]);(have sub:∀q∈WH ch nt,q∈nt/\q.1≠ch:=λq hq=>by simpa [WH] using hq);refine#[_,aw,WH ch nt,kn rfl [ϗ,[ϗ,sG ((iI rfl).trans (fQ (zK cl H eh rfl rfl N.n2 la))) [ϗ,[ϗ,[ϗ,sFE rfl rfl]]]]],{ N with n0:=by rw[bF (by decide)];exact N.n0,n1:=by rw[bF (by decide)];exact N.n1,n2:=by rw[fD (aQ.mp N.n2).1],nm:=by show _=Tu (WH ch t);rw[tR,tR,N.nm],nd:=N.nd.sublist '|',at_:=λq hq=>?_},cl.set (Gk λq hq=>N.lt q (sub q hq).1),λi hi=>bF (NAG.gl111 hi)];obtain⟨q4,v,ns,xs,r1,r⟩:=N.at_ q (sub q hq).1;exact#[q4,v,ns,xs,by show Uw q.1 (WH ch t)=_;rwa [N9,S9 (sub q hq).2],by rwa [bF (by exact cG q4)]])| more ch w =>obtain⟨a,v,ns,xs,ha,la,lv,hs,xi,a4,al,ew⟩:=wh M.1;refine#[_,aw,nt,kn rfl [ϗ,[ϗ,[ϗ,sG ((iI rfl).trans (tz (k:=0) [η,oq (g:=id) (l:=[Rx,Lx]) (k:=0) (pJ rfl N.n2 rfl la) hs rfl rfl,add_int] (pJ rfl N.n2 rfl la) rfl hs (by exact l7 _))) [ϗ,[ϗ,sFE rfl rfl]]]]],?_,cl.set ?_,λi hi=>bF (NAG.gl109 a4 hi)];show WK _ c [Kz,ch,wk t ch+w] aw nt;rw[ew];exact N.setw ha lv xi a4 al nd;exact zS| fewer ch w =>obtain⟨_,_,e0,_⟩:=M;obtain⟨a,v,ns,xs,ha,la,lv,hs,xi,a4,al,ew⟩:=wh (aU.mpr #[_,cW e0,rfl]);refine#[_,aw,nt,kn rfl [ϗ,[ϗ,[ϗ,[ϗ,sG ((iI rfl).trans (tz (k:=0) [η,oq (g:=id) (l:=[Rx,Lx]) (k:=0) (pJ rfl N.n2 rfl la) hs rfl rfl,sub_int] (pJ rfl N.n2 rfl la) rfl hs (by exact l7 _))) [ϗ,sFE rfl rfl]]]]],?_,cl.set ?_,λi hi=>bF (NAG.gl109 a4 hi)];show WK _ c [Kz,ch,wk t ch-w] aw nt;rw[ew];exact N.setw ha lv xi a4 al nd;exact zS| put ch w xs =>obtain⟨_,nw,_,_,_,xd,xi⟩:=M;(have xl:=by simpa [Tu] using xd.length_le_of_subset xi);have nn:=N.nm▸nw;have l4:=(aQ.mp N.n2).1;have g:∀{i o},i<h.length->(h++[o]:TH)[i]?=h[i]?:=λz=>iN z;refine#[_,aw,nt++[(ch,h.length)],kn rfl [ϗ,sG ((iI rfl).trans (Ob ((je [Ϣ,[ν,[ϋ,rfl]]] rfl).trans (by show[P5,D.at (hn _),_,_]=_;rw[gm,gq])) rfl rfl ((g l4).trans N.n2) nd (by have:=congrArg rW N.nm;simp[Tu] at this;lia))) [ϗ,[ϗ,[ϗ,[ϗ,sFE rfl rfl]]]]],{ N with n0:=?_,n1:=?_,n2:=?_,nm:=?_,nd:=?_,at_:=λq hq=>?_},(cl.app zS).set ?_,λi hi=>?_];rw[bF (by decide),g (by lia)];exact N.n0;rw[bF (by decide),g (by exact fF l4)];exact N.n1;rw[fD (by simp;exact fE l4),rg nn];show _=Tu (t++_);simpa [Tu] using N.nm;rw[dz];exact k7.mpr #[N.nd,by simp,by rintro a ha b hb rfl;obtain⟨q,hq,rfl⟩:=aU.mp ha;have:=N.lt q hq;simp at hb;simp_all];show _/\∃w' ns xs',Uw q.1 (t++[(ch,(w,'+'.filter λy=>decide (y∈xs)))])=_/\_;rw[zQ nw];rcases 's' with hq | hq;obtain⟨q4,v,ns,ys,r1,r⟩:=N.at_ q hq;have qc:q.1≠ch:=λz=>nn (z▸aU.mpr #[q,hq,rfl]);exact#[q4,v,ns,ys,by rwa [S9 qc],by rwa [bF (by exact cG q4),g (N.lt q hq)]];rw[cO.mp hq];exact#[l4,w,_,xs,by rw[Nk],by rw[bF (by exact cG l4)];simp,NAG.gl47 xl lc,λx hx=>ε];rw[rg nn];(exact Gk λq hq=>by rw[eE];rcases 's' with hq | hq;exact hZ (N.lt q hq) (jP _ _);rw[cO.mp hq];exact i9 _);rw[bF (NAG.gl111 hi),g (by lia)]
end
section
variable {h:TH}{c:bC}{t:bw}{i j:Nat}{R:xab}{qs:xaj}{ns:μ}
theorem zfi (H:XZ c t R qs)(eh:h[i]?=[ϟ,2,Vl c t R qs])(ej:h[j]?=[ϓ,L6])(ok:∀x∈ns,ZG x)(lt:t.length<=4):On (U8 (Vb [ϖ,2,U9,Tk]) (rN 5) Xb [se (.at i),La,se (.at j),se d3,se (.at h.length),ng,ng] (h++[.ml []])) fun ρ g=>(∃y,ρ=[se (.at i),La,se (.at j),se d3,se (.at h.length),y,ng])/\g=h++[.ml ((Wn c t R ns).map .str)]:=by have F:=fG (f:=Xb) (fg:=rN 5) (l:='%') (g:=D.str) (fi:=Vb [ϖ,2,U9,Tk]) (h:=h++[.ml []]) (ρ:=[se (.at i),La,se (.at j),se d3,se (.at h.length),ng,ng]) (λn ρ g=>(∃y,ρ=[se (.at i),La,se (.at j),se d3,se (.at h.length),y,ng])/\g=h++[.ml ((('%'.take n).filter (chQ c t R ns)).map .str)]) (eU (n6 rfl ((aX ..).trans MU) rfl (FN MU))) (λi _ _ _=>cY i) (by simp[Tu];exact NAG.gl39 lt) #[#[_,rfl],rfl] (by rintro n ch ρ g hc ⟨⟨y,rfl⟩,rfl⟩;have ct:ch∈'%':=JS;obtain⟨o,ho⟩:∃o:TM,o=.ml ((('%'.take n).filter (chQ c t R ns)).map .str):=#[_,rfl];have eq:=ru (neg:=tj) (h:=h++[o]) (l:=((shr c t R ch).filter λp=>decide (p.1∈ns)).map Prod.fst) (l':=[]) zN (zN (l:=[])) (λx hx=>by obtain⟨p,hp,rfl⟩:=NB;exact ok _ (Td (bB.mp hp).2)) (λx hx=>by cases hx);(have tk:'%'.take (n+1)='%'.take n++[ch]:=by rw[Bm,hc];rfl);have ll:(('%'.take n).filter (chQ c t R ns)).length<=4:=cf (fK ..) (by simp[Tu];lia);refine#[_,rfl,?_];rw[tk,nu];by_cases z:chQ c t R ns ch=tj;rw[uY z];refine nT (aO ([η,cM (l:=shr c t R ch) (g:=λp=>.tup [.str p.1,UO p.2]) (p:=λp=>decide (p.1∈ns)) (v:=λp=>.str p.1) (eU (n6 rfl ((aX ..).trans MU) rfl (zL H MU ct))) cY (by have:=wC (ch:=ch) H;exact Od) (λp hp=>#[_,by unfold YS;rfl,aO [η,rfl,(lN (bv ej)).trans (by simp)],λ_=>rfl]) (by rw[cD];rfl),ho▸eq].trans ?_)) (nE (fQ (lH (h:=h++[.ml ((('%'.take n).filter (chQ c t R ns)).map D.str)]) (l:=(('%'.take n).filter (chQ c t R ns)).map D.str) rfl (Um.trans rfl) rfl (by rw[bq];exact NAG.gl108 ll))) #[#[_,rfl],?_]);(have:((shr c t R ch).filter λp=>decide (p.1∈ns)).map Prod.fst≠[]:=by simpa [chQ] using z);rw[Tf this];rfl;rw[pq];simp;rw[uX z];refine nF (h1:=h++[.ml ((('%'.take n).filter (chQ c t R ns)).map D.str)]) (aO ([η,cM (l:=shr c t R ch) (g:=λp=>.tup [.str p.1,UO p.2]) (p:=λp=>decide (p.1∈ns)) (v:=λp=>.str p.1) (eU (n6 rfl ((aX ..).trans MU) rfl (zL H MU ct))) cY (by have:=wC (ch:=ch) H;exact Od) (λp hp=>#[_,by unfold YS;rfl,aO [η,rfl,(lN (bv ej)).trans (by simp)],λ_=>rfl]) (by rw[cD];rfl),ho▸eq].trans ?_)) (nE rfl #[#[_,rfl],?_]);(have:((shr c t R ch).filter λp=>decide (p.1∈ns)).map Prod.fst=[]:=by simpa [chQ] using z);rw[Tc this];rfl;simp);rwa [lY] at F
end
section
end
section
variable {h:TH}{i:Nat}
theorem zT (z:fa ρ h=.ok (.at i) h)(e:h[i]?=[ϓ,l]):Vb fa ρ h=.ok (X4 (.at i)) h:=by unfold Vb;rw[z];show T5 (eS h (.at i)) _=_;rw[(rr e).1];rfl
theorem zU (e:h[i]?=[ϓ,l])(k:Nat):X4 (.at i) h k=se (l[k]?):=by show Wm (eS h (.at i)) _=_;rw[(rr e).1];show se (eg l k)=_;rw[aX]
theorem Gm (z:fa ρ h=.ok (.at i) h)(e:h[i]?=[ϓ,l]):ZN 4 fa ρ h=.ok ϻ h:=by unfold ZN;rw[z];show T5 (tc h (.at i)) _=_;rw[show tc h (.at i)=se 4 by unfold tc;dsimp only;rw[aX,e]];rfl
theorem mw (x:fT ρ h=.ok b h):WV fT ρ h=.ok (! b) h:=by unfold WV;rw[x];rfl
end
noncomputable def geq (c:bC) (qs:xaj) (lv:xaE):μ:='#'.filter λx=>! xbv (ZA c qs x) lv
section
variable {h:TH}{c:bC}{t:bw}{R:xab}{qs:xaj}{x:To}{i:Nat}{b:Bool}
variable (H:XZ c t R qs)(eh:h[i]?=[ϟ,2,Vl c t R qs])
include H eh
omit H in
theorem zV (e:Uw x c=SW):VA [.at i,Ϯ] h=.ok Qt h :=
 [ώ,sD (ZH eh rfl rfl (wy eh (aU.mpr #[_,fP,rfl]))) [ϣ,ko [Ϗ,eh,rfl] rfl e]]
theorem Oe (e:Uw x c=Ty):Wc [.at i,Ϯ] h=.ok (.tup [UO (ZA c qs x),.lst [],.lst []]) h :=kn rfl (sA (ZH eh rfl rfl (pH H eh (aU.mpr #[_,fP,rfl]))) (sT (mw (aO (ZH eh rfl rfl (zV eh e)))) (sR rfl rfl)))
theorem zey (e:Uw x c=BT):Wc [.at i,Ϯ] h=.ok (.tup [UO (ZA c qs x),.at h.length,.at (h.length+1)]) (h++[.ml ((geq c qs (ZA c qs x)).map .str),.ml ((Wn c t R (geq c qs (ZA c qs x))).map .str)]):=by have cl:=H.ct.lc;have pl:=zr (c:=c);refine kn rfl (sA (ZH eh rfl rfl (pH H eh (aU.mpr #[_,fP,rfl]))) (sF (mw (aO (ZH eh rfl rfl (zV eh e)))) (sA (cM (eU (ZH eh rfl rfl (zbp eh))) cY (by simp[Tu];lia) (λy hy=>#[_,rfl,aO (cZ rfl eh rfl (zV eh (b:=decide (y∈'#')) ?_)),λ_=>rfl]) ?_) (sA (cMt QM cY (by lia) (λy hy=>#[_,rfl,mw (aO (aK (aI (cZ rfl eh rfl (pH H eh (mu hy))) [ν,rfl]) (NC (rp (jV H)).1 (rp (jV H)).2 (rp (jV H)).1 (rp (jV H)).2))),λ_=>rfl]) (show _=(geq c qs (ZA c qs x)).map D.str from rfl)) ?_))));obtain⟨⟨y,v⟩,hp,rfl⟩:=aU.mp hy;rw[d9 H.ct.ndc hp];cases v<;>simp[tL H.ct.ndc hp];congr 1;exact zw H.ct.ndc;have a3:=zaH H MU (Um (t:=[.ml ((geq c qs (ZA c qs x)).map .str)]));rw[eE,eF] at a3;exact sR (gY (wD rfl (wD rfl (wD [ϋ,a3] rfl))) rfl) rfl
end
section
variable {c:bC}{t:bw}{R:xab}{qs:xaj}{q:To×(Int× μ)}{x y:To}{k:Nat}{s:xaj}{P:To->Bool}
abbrev Upw (c:bC)(qs:xaj)(P:To->Bool):Prop:=∀{x y},P x=tj->(ZA c qs x).1*(ZA c qs y).2<=(ZA c qs y).1*(ZA c qs x).2->P y=tj
theorem Gn (H:XZ c t R qs)(u:Upw c qs P)(hq:[ϰ,t][k]?=Ϡ)(hc:(shr c t R q.1).any (λp=>decide (p.1∈'#'.filter P))=tj)(hy:y∈[MC,q]):P y=tj:=by obtain⟨s,hs,sl,so,_,es⟩:=F3 H hq;rw[es] at hc;obtain⟨p,hp,z⟩:=gU.mp hc;obtain⟨p1,p2⟩:=bB.mp hp;exact u (bB.mp (Td z)).2 (NI H hq hs p1 (Td p2) hy)
noncomputable def upP (c:bC) (P:To->Bool) (i:Nat):Bool:=P ('#'.getD i "")
theorem zaK (H:XZ c t R qs)(u:Upw c qs P)(hq:[ϰ,t][k]?=Ϡ)(hs:R[k]?=ϫ):Z2 (upP c P) ((Ww '#' q.2.2).zip s)=if chQ c t R ('#'.filter P) q.1 then q.2.1*M0 else 0:=by obtain⟨s',lR,sl,so,ss,es⟩:=F3 H hq;rw[hs] at lR;cases lR;have er:Ww '#' q.2.2=[MC,q].map λy=>'#'.idxOf y:=rfl;have din:∀y∈[MC,q],y∈'#':=λy hy=>Td 't'.2;(have e1:Z2 (upP c P) ((Ww '#' q.2.2).zip s)=(([MC,q].zip s).map λx=>if P x.1 then vl M0 x.2 else 0).sum:=by unfold Z2;rw[er,rR,cD];congr 1;refine cH λx hx=>?_;show(if upP c P ('#'.idxOf x.1)=tj then vl M0 x.2 else 0)=_;unfold upP;rw[lM (din x.1 'y'.1)]);rw[e1];by_cases z:chQ c t R ('#'.filter P) q.1=tj;rw[LN,<-ss];(have e2:(([MC,q].zip s).map λx=>if P x.1 then vl M0 x.2 else 0)=([MC,q].zip s).map λx=>vl M0 x.2:=cH λx hx=>by rw[Ta (Gn H u hq z (cg (b:=x.2) hx).1)]);rw[e2];congr 1;show([MC,q].zip s).map (vl M0∘Prod.snd)=_;grind[cD,va];rw[Sg];refine zbR λx hx=>?_;by_cases b:P x.1=tj;rw[Ta b];have xd:='y';have fo:=so x.2 xd.2;have np:=λpos=>z (by unfold chQ;rw[es,gU];exact#[x,bB.mpr #[hx,Tc pos],Tc (bB.mpr #[din _ xd.1,b])]);rw[zep fo.1 fo.2.1 np];exact lX _;rw[S9 b]
theorem ze1 (H:XZ c t R qs)(u:Upw c qs P):(((aT '#'.length).filter (upP c P)).map λj=>WS M0 (Uv (WC c t) R) j).sum=((Wn c t R ('#'.filter P)).map (wkT t)).sum*M0:=by(have inn:∀x∈Uv (WC c t) R,x.1<'#'.length:=λx hx=>by obtain⟨z,hz,hx⟩:=jO.mp hx;exact(H.deal.rows.2 z.1 (cg hz).1).2.2 x.1 'y'.1);rw[zbJ inn];(have s3:Z2 (upP c P) (Uv (WC c t) R)=(([ϰ,t].filter λq=>chQ c t R ('#'.filter P) q.1).map λq=>q.2.1).sum*M0:=by(have l2:R.length=[ϰ,t].length:=by rw[H.deal.ev.len];unfold WC;rw[bq]);unfold Uv;rw[NN];unfold WC;rw[rR,cD];(have e1:([ϰ,t].zip R).map ((λx=>Z2 (upP c P) (x.1.zip x.2))∘Prod.map (λq=>Ww '#' q.2.2) id)=([ϰ,t].zip R).map ((λq=>if chQ c t R ('#'.filter P) q.1 then q.2.1*M0 else 0)∘Prod.fst):=cH λz hz=>by obtain⟨k,hk⟩:=bH hz;obtain⟨k1,k2⟩:=Nh;exact zaK H u k1 k2);rw[e1,<-cD,vb ε];induction[ϰ,t]with| nil=>rw[oX,rU,Bs,oX,rU,lX]| cons q l ih =>grind);(have s4:((Wn c t R ('#'.filter P)).map (wkT t)).sum=(([ϰ,t].filter λq=>chQ c t R ('#'.filter P) q.1).map λq=>q.2.1).sum:=by(have e1:Wn c t R ('#'.filter P)=(t.filter λq=>chQ c t R ('#'.filter P) q.1).map Prod.fst:=by unfold Wn Tu;rw[rS];rfl);(have e2:t.filter (λq=>chQ c t R ('#'.filter P) q.1)=[ϰ,t].filter λq=>chQ c t R ('#'.filter P) q.1:=by unfold Va;rw[Bh];refine xD λq hq=>?_;cases z:chQ c t R ('#'.filter P) q.1 with| false=>rfl| true =>obtain⟨k,y,hy,e⟩:=F4 H z;have my:=aM hy;have a:=d9 H.ct.ndt (show(y.1,y.2)∈t from(kq my).1);rw[e,d9 H.ct.ndt (show(q.1,q.2)∈t from hq)] at a;rw[Prod.ext e.symm (dU a)];exact((bB.mp my).2).symm);rw[e1,cD,<-e2];congr 1;refine cH λq hq=>?_;show((Uw q.1 t).map λp=>p.1).getD 0=_;rw[d9 H.ct.ndt (show(q.1,q.2)∈t from(bB.mp hq).1)];rfl);rw[s3,s4]
theorem Gp (H:XZ c t R qs)(hx:x∈'#'):FV M0 (ZA c qs x) (WS M0 (Uv (WC c t) R) ('#'.idxOf x)):=H.deal.ldb _ _ (zM H hx)
theorem zbL (H:XZ c t R qs)(u:Upw c qs P):(('#'.filter P).map λx=>WS M0 (Uv (WC c t) R) ('#'.idxOf x)).sum=((Wn c t R ('#'.filter P)).map (wkT t)).sum*M0:=by rw[<-ze1 H u];(have e:'#'.filter P=((aT '#'.length).filter (upP c P)).map λi=>'#'.getD i "":=by(conv=>lhs;rw[NP]);rw[rS];rfl);rw[e,cD];congr 1;refine cH λj hj=>?_;have h1:=dA.mp (bB.mp hj).1;show WS M0 _ ('#'.idxOf ('#'.getD j ""))=_;(have e:'#'.getD j ""='#'[j]:=by rw[bO,aV h1];rfl);rw[e,(lK H.ct.ndc).idxOf_getElem]
theorem zc9 (ha:1<=a.2)(hb:1<=b.2)(hd:1<=d.2)(h1:xbv b d=tj)(h2:a.1*b.2<=b.1*a.2):xbv a d=tj:=by refine Tc ?_;have e1:b.1*d.2*a.2<d.1*b.2*a.2:=qz (Td h1) (by assumption);have e2:a.1*b.2*d.2<=b.1*a.2*d.2:=kS h2 (by exact cE hd);refine uP (a:=b.2) ?_ (by exact cE hb);lia
theorem Gq (H:XZ c t R qs):Upw c qs λx=>! xbv (ZA c qs x) (ZA c qs y):=λ{a b} h1 h2=>by cases z:xbv (ZA c qs b) (ZA c qs y)with| false=>simp[z]| true=>dsimp only at h1;rw[zc9 (jV H).1.1 (jV H).1.1 (jV H).1.1 z h2] at h1;cases h1
end
section
variable {h:TH}{c:bC}{t:bw}{i j j':Nat}{aw:List (To×Bool)}{nt:List (To×Nat)}{R:xab}{qs:xaj}{ns A:μ}{ch x:To}{v:Int}{P:To->Bool}
theorem Om (H:XZ c t R qs)(N:WK h c t aw nt)(u:Upw c qs P)(hc:ch∈Wn c t R ('#'.filter P))(e:Uw ch t=se (v,ns))(hx:x∈ns)(xc:x∈'+'):x∈'#'.filter P\/x∈'L':=by have hq:=(bB.mp hc).2;obtain⟨k,q,hk,rfl⟩:=F4 H hq;have eq:=d9 H.ct.ndt (bB.mp (aM hk)).1;by_cases xp:x∈'#';have:=Gn H u hk hq (bB.mpr #[ε,Tc xp]);exact .inl (bB.mpr #[xp,this]);refine .inr ('&'.mpr ?_);match z:Uw x c with| some fh=>rfl| some tj=>exact absurd (aU.mpr #[_,bB.mpr #[cW z,rfl],rfl]) xp| none=>exact[KW,xc,z]
theorem Oo (H:XZ c t R qs)(N:WK h c t aw nt)(hd:∀{ch v ns x},ch∈Wn c t R A->Uw ch t=se (v,ns)->x∈ns->x∈'+'->x∈A\/x∈'L')(ej:h[j]?=[ϓ,Ry])(ek:h[j']?=[ϓ,(Wn c t R A).map .str])(lt:t.length<=4)(g:TH)(hg:g=h++[.ml ((Wn c t R A).map .str)]):On (U8 J8 (rN 5) YJ [se (.at i),La,se (.at j),se (.at j'),se (.at h.length),y,z] g) fun ρ g'=>(∃y z,ρ=[se (.at i),La,se (.at j),se (.at j'),se (.at h.length),y,z])/\g'=g:=by have gk:=hg▸bv ek;refine fG (l:=Wn c t R A) (λ_ ρ g'=>(∃y z,ρ=[se (.at i),La,se (.at j),se (.at j'),se (.at h.length),y,z])/\g'=g) (zT rfl gk) (λn _ _ q=>q.2▸zU gk n) (ke (fK ..) (by simp[Tu];lia)) #[#[_,_,rfl],rfl] ?_;rintro n ch ρ g' hc ⟨⟨y,z,rfl⟩,rfl⟩;have cm:=JS;obtain⟨⟨_,a⟩,qa,rfl⟩:=aU.mp (N.nm▸(bB.mp cm).1);obtain⟨a4,v,ns,xs,lv',ha,xl,xi⟩:=N.at_ _ qa;refine#[_,rfl,nG ((lG (aO [η,rfl,(lN (hg▸Um)).trans (by simp only[cm,decide_true];rfl)])).trans rfl) ?_];refine fG (λ_ ρ g=>(∃y z,ρ=[se (.at i),La,se (.at j),se (.at j'),se (.at h.length),y,z])/\g=g') (eU (oq (g:=id) (l:=[Rx,Lx]) (pJ rfl (hg▸bv N.n2) rfl (d9 (N.nm▸H.ct.ndt) qa)) (hg▸bv ha) rfl rfl)) (λn _ _ _=>cY n) xl #[#[_,_,rfl],rfl] ?_;rintro n x ρ g hx ⟨⟨y,z,rfl⟩,rfl⟩;have xm:=xi x R7;refine#[_,rfl,nF ?_ (nE rfl #[#[_,_,rfl],rfl])];refine(ku (aO [η,rfl,lN (hg▸bv ej)]) (aO [η,rfl,pI (hg▸bv N.n1)])).trans ?_;rcases hd cm lv' xm ((H.ct.sub _ (cW lv')).subset xm)with z | z<;>simp[z]
theorem Op (cl:Ϭ)(H:XZ c t R qs)(eh:h[i]?=[ϟ,2,Vl c t R qs])(N:WK h c t aw nt)(hd:∀{ch v ns x},ch∈Wn c t R A->Uw ch t=se (v,ns)->x∈ns->x∈'+'->x∈A\/x∈'L')(ok:∀x∈A,ZG x)(ej:h[j]?=[ϓ,Ry])(ek:h[j']?=[ϓ,(Wn c t R A).map .str])(lt:t.length<=4):Yp [.at i,Vf,.at j,.at j'] h=.ok ϻ h:=by refine[ώ,sFb (kr (mw (aO (Gm rfl ej))) (mw (aO (Gm rfl ek)))) rfl (sA Zu (sL (zfi H eh ej ok lt) fun ρ g #[#[y,e1],e2]=>e1▸sL (Oo H N hd ej ek lt g e2) fun ρ g' #[#[y,z,e1],e3]=>?_))];subst e1 e3 e2;(have oc:∀x∈Wn c t R A,ZG x:=λx hx=>by obtain⟨q,hq,rfl⟩:=aU.mp '^'.1;exact H.ct.nt q hq);exact sR [η,rfl,(ru (om (bv ek)) (om Um) oc oc).trans (by rw[Tc rfl];rfl)] (n5 cl (by trivial))
end
section
variable {h:TH}{c:bC}{t:bw}{i:Nat}{aw:List (To×Bool)}{nt:List (To×Nat)}{R:xab}
theorem WK.app (N:WK h c t aw nt):WK (h++o) c t aw nt :={ N with n0:=OO,n1:=bv N.n1,n2:=bv N.n2,at_:=λq hq=>let #[a,v,ns,xs,r,s,u]:=N.at_ q hq;#[a,v,ns,xs,r,bv s,u]}
theorem Gu (z:fa ρ h=.ok (.at i) h)(e:h[i]?=[ϓ,l]):rClr fa ρ h=[Kf,[ϭ,.ml []]]:=by unfold rClr;rw[z];show T5 (XX h (.at i)) _=_;rw[show XX h (.at i)=se (i,l)by grind[XX,aX]];show RX.R.ok D.non (hs h i (.ml []))=_;rw[jc]
theorem pK {k:Nat}(z1:fa ρ h=.ok Of h)(z2:fb ρ h=.ok PA h)(e:ds[k]?=Ϫ):TK fa fb ρ h=.ok y h:=aH z1 z2 (by show T5 (eat ds k) _=_;rw[Xm,e];rfl)
end
section
variable {h:TH}{R:xab}
theorem zbF {l:Tm}:gSum [[L7,λx=>.int (f x)]] h=.ok (.int '>'.sum) h:=by show T5 (T6 xac (l.map λx=>.int (f x))) _=_;rw[show T6 xac (l.map λx=>D.int (f x))=se '>' from mj λp _=>rfl];show[MW,D.int (iSum _)]=_;rw[yJ]
theorem o8 {l:μ}{f:To->Int}(hf:∀x∈l,0<=f x/\f x<=M):0<='>'.sum/\'>'.sum<=l.length*M:=by induction l with| nil=>simp| cons x l ih =>have a:=hf x (.head _);have b:=ih λy hy=>hf y (.tail _ hy);simp only[bz,cq,fO,Int.natCast_add,oP];lia
end
section
variable {h:TH}{c:bC}{t:bw}{i:Nat}{aw:List (To×Bool)}{nt:List (To×Nat)}{R:xab}{qs:xaj}{a b:Int}{p q:xaE}{nm x:To}
theorem zag (b1:1<=b)(hB:Bd 9000 b):∃p,XT [.int a,.int b] h=.ok LH h/\LY/\p.1*b=a*p.2:=by obtain⟨j,hj⟩:∃j:Int,j=(bQ a b):=#[_,rfl];obtain⟨h1,h2,h3,h4,h5⟩:=yo (by exact dF b1) (hj.trans (S9 (by lia)).symm);exact#[(K9,Nl),[ώ,sA (aK [Ϣ,[ν,rfl]] (hj▸NS)) (sF (aO [η,rfl,qZ (by lia)]) [ϣ,gY (aI [η,rfl,ie h1 (qT hB h2 h1)] [ν,[η,rfl,ie h1 (qT hB h2 h1)]]) rfl])],#[h3,h4],h5]
theorem zb6 (hp:LY)(hq:ZI q)(ba:Bd 4000 p.1)(bb:Bd 4000 p.2)(bc:Bd 4000 q.1)(bd:Bd 4000 q.2):∃r,Y1 [LH,UO q] h=.ok (UO r) h/\ZI r/\r.1*(p.2*q.2)=(p.1*q.2+q.1*p.2)*r.2:=by have up:∀{v},Bd 4000 v->[Gl,v]:=λz=>z.le (by decide);obtain⟨r,z,l,e⟩:=zag (by have:=kX (show 0<p.2 from hp.1) (show 0<q.2 from hq.1);assumption) ((bb.mul bd).le (by decide));exact#[r,[ώ,[ϣ,aK (aI (aH [η,rfl,ic (up ba) (up bd)] [η,rfl,ic (up bc) (up bb)] rfl) [ν,[η,rfl,ic (up bb) (up bd)]]) z]],l,e]
theorem zc0 (l:ph p)(f:FV M0 p X):0<=X/\X<=2^430:=by obtain⟨_,e⟩:=f;obtain⟨l1,l2,l3,l4⟩:=l;have l4:p.1.natAbs<2^400:=l4;have b1:=l1.1;have m:p.1*M0<=2^400*M0:=kS (by lia) (by decide);(have m':2^400*M0<=2^430:=by decide);have n:0<=p.1*M0:=jq l2 (by decide);(have x0:0<=X:=by by_cases z:0<=X;exact z;have:=Int.mul_neg_of_pos_of_neg (show 0<p.2 by assumption) (show X<0 by simp_all);lia);have:=kS b1 x0;lia
theorem Gv (H:XZ c t R qs)(N:WK h c t aw nt)(hx:x∈'+'):decide (x∈'L')=[JH,x∈'#']:=by obtain⟨⟨y,v⟩,hp,rfl⟩:=NB;have a:=N.awi y;rw[d9 H.ct.ndc hp] at a;have b:=tL H.ct.ndc hp;cases v<;>simp_all
noncomputable abbrev hiP (c:bC) (qs:xaj) (nm:To) (x:To):Bool:=! xbv (ZA c qs x) (ZA c qs nm)
noncomputable abbrev bgx (c:bC) (t:bw) (R:xab) (x:To):Int:=WS M0 (Uv (WC c t) R) ('#'.idxOf x)
theorem Ov (H:XZ c t R qs)(eh:h[i]?=[ϟ,2,Vl c t R qs])(N:WK h c t aw nt)(hn:nm∈'+')(lc:c.length<=12):On (U8 (Vb [σ,[΢,0]]) (rN 6) Yd [se (.at i),La,se J3,told,se (.at h.length),se (UO (0,1)),ng] (h++[.ml []])) fun ρ g=>(∃T y,ρ=[se (.at i),La,se J3,told,se (.at h.length),se (UO T),y]/\FV M0 T (('#'.filter (hiP c qs nm)).map (bgx c t R)).sum)/\g=h++[.ml (('#'.filter (hiP c qs nm)).map .str)]:=by have F:=fG (f:=Yd) (fg:=rN 6) (l:='+') (g:=D.str) (fi:=Vb [σ,[΢,0]]) (ρ:=[se (.at i),La,se J3,told,se (.at h.length),se (UO (0,1)),ng]) (λn ρ g=>(∃T y,ρ=[se (.at i),La,se J3,told,se (.at h.length),se (UO T),y]/\FV M0 T ((('+'.take n).filter λx=>decide (x∈'#')&&hiP c qs nm x).map (bgx c t R)).sum)/\g=h++[.ml ((('+'.take n).filter λx=>decide (x∈'#')&&hiP c qs nm x).map .str)]) (zT rfl OO) (λn _ g q=>q.2▸zU OO n) (by simp[Tu];lia) #[#[(0,1),ng,rfl,FV.zero],rfl] (by rintro n x ρ g hx ⟨⟨T,y,rfl,fv⟩,rfl⟩;have xc:=R7;obtain⟨L,hL⟩:∃L,L=('+'.take n).filter λx=>decide (x∈'#')&&hiP c qs nm x:=#[_,rfl];rw[<-hL] at fv ⊢;(have tk:'+'.take (n+1)='+'.take n++[x]:=by rw[Bm,hx];rfl);(have ll:L.length<=12:=by rw[hL];exact cf (fK ..) (by simp[Tu];lia));rw[tk,nu,<-hL];have eg:∀{o},(h++o)[i]?=[ϟ,2,Vl c t R qs]:=MU;have ld:=rp (jV H (x:=x));have ln:=rp (jV H (x:=nm));(have cnd:YC [τ,Lu,ϸ,[σ,[΢,1]]] (WV (TJ (Ui WX (Tg [ϖ,2,Uu,Tg ϸ Tk] (Tg [ϖ,2,Uu,Tg ς Tk] Tk))))) [se (.at i),La,se J3,told,se (.at h.length),se (UO T),Md] (h++[.ml (L.map .str)])=.ok (decide (x∈'#')&&hiP c qs nm x) (h++[.ml (L.map .str)]):=by refine(ku (aO [η,rfl,pI (bv N.n1)]) (mw (aO (aK (aI (n6 rfl ((aX ..).trans eg) rfl (pH H eg xc)) [ν,n6 rfl ((aX ..).trans eg) rfl (pH H eg hn)]) (zcT ld.1 ld.2 ln.1 ln.2))))).trans ?_;rw[Gv H N xc];cases decide (x∈'#')<;>rfl);refine#[_,rfl,?_];by_cases z:(decide (x∈'#')&&hiP c qs nm x)=tj;rw[uY (p:=λx=>decide (x∈'#')&&hiP c qs nm x) z];have xp:=Td (mV.mp z).1;have fx:=Gp H xp;(have bx:∀y∈L,0<=bgx c t R y/\bgx c t R y<=(2^430):=λy hy=>by rw[hL] at hy;have yp:=Td (mV.mp 't'.2).1;have:=zc0 (jV H) (Gp H yp);assumption);have sm:=o8 bx;(have bS:Bd 1300 (L.map (bgx c t R)).sum:=by show Int.natAbs _<2^1300;have:(L.length:Int)*(2^430:Nat)<=12*(2^430):=kS (by lia) (by trivial);(have:(12*(2^430:Nat))<2^1300:=by decide);lia);obtain⟨b1,b2⟩:=fv.bd eY zi bS;obtain⟨r,qr,lr,er⟩:=zb6 (h:=h++[.ml (L.map .str++[Ϯ])]) fv.1 fx.1 (b1.le (by decide)) (b2.le (by decide)) ((jV H).2.2.2.le (by decide)) (by have:=(jV H (x:=x)).2.2.1;have:=fx.1.1;show _<_;lia);refine nT (cnd.trans (by rw[z])) (nD' (pr (h0:=h) (t:=[.ml (L.map D.str)]) (k:=0) rfl rfl rfl (by simp;lia)) (nE (jd (aK [Ϣ,[ν,n6 (fa:=ξ) rfl ((aX ..).trans eg) rfl (pH H eg xc)]] qr) rfl) #[#[r,_,rfl,?_],?_]));simpa using fv.plus fx lr.1 lr.2 er;simp;rw[uX (p:=λx=>decide (x∈'#')&&hiP c qs nm x) z];(have z:(decide (x∈'#')&&hiP c qs nm x)=fh:=by simpa using z);exact nF (cnd.trans (by rw[z])) (nE rfl #[#[T,_,rfl,by simpa using fv],by simp]));rw[lY] at F;rw[show '#'.filter (hiP c qs nm)='+'.filter λx=>decide (x∈'#')&&hiP c qs nm x by rw[show '#'.filter (hiP c qs nm)=('+'.filter λx=>decide (x∈'#')).filter (hiP c qs nm)by rw[zw H.ct.ndc],Bh];exact xD λx _=>Bool.and_comm ..];exact F
end
section
variable {h:TH}{c:bC}{t:bw}{i:Nat}{aw:List (To×Bool)}{nt:List (To×Nat)}{R:xab}{qs:xaj}{nm x:To}
variable (cl:Ϭ)(H:XZ c t R qs)(eh:h[i]?=[ϟ,2,Vl c t R qs])(N:WK h c t aw nt)
include cl H eh N
theorem Ow (e:Uw nm c=Ty):VP [.at i,Vf,J3] h=.ok ϻ h:=by have q:=Oe H eh e;(have np:nm∉'#':=λz=>by have:=tL H.ct.ndc fP;simp_all);rw[show ZA c qs nm=(0,1)by unfold ZA;rw[wt H.ct.ndc np]] at q;have ia:=(N.awi nm).mpr e;exact[ώ,sA [ϋ,q] [ϗ,sT (aO ([η,rfl,pI N.n1].trans (by rw[Tc ia];rfl))) [ϣ,[η,rfl,rfl]]]]
theorem zd7 (ok:∀x∈'+',ZG x)(lc:c.length<=12)(lt:t.length<=4)(e:Uw nm c=BT):VP [.at i,Vf,J3] h=.ok ϻ h:=by have hn:nm∈'+':=aU.mpr #[_,fP,rfl];obtain⟨A,hA⟩:∃A,A='#'.filter (hiP c qs nm):=#[_,rfl];obtain⟨C,hC⟩:∃C,C=Wn c t R A:=#[_,rfl];(have q:∀{h},h[i]?=[ϟ,2,Vl c t R qs]->Wc [.at i,J3] h=.ok (.tup [UO (ZA c qs nm),.at h.length,.at (h.length+1)]) (h++[.ml Ry,Lr]):=λeh=>by rw[hC,hA];exact zey H eh e);have oA:∀x∈A,ZG x:=λx hx=>ok x (by rw[hA] at hx;exact mu '^'.1);(have cm:∀{n} {l:List To},ct n (.ml KV):=cdm λ_=>by trivial);(have jk:Cl (h++[.ml Ry,Lr]++[.ml Ry]):=Cl.apps (Cl.apps cl λo ho=>by rcases bi.mp ho with rfl | ho;exact cm;rw[cO.mp ho];exact cm) λo ho=>by rw[cO.mp ho];exact cm);have e1:(h++[Kr,Lr])[h.length]?=[ϓ,Ry]:=Um;have e2:(h++[Kr,Lr])[h.length+1]?=[ϓ,C.map .str]:=XY;(have na:decide (nm∈'L')=fh:=by rw[Gv H N hn,Tc ((tL H.ct.ndc fP).mpr rfl)];rfl);(have hd:∀{ch v ns x},ch∈Wn c t R A->Uw ch t=se (v,ns)->x∈ns->x∈'+'->x∈A\/x∈'L':=λa b c d=>by rw[hA] at a ⊢;exact Om H N (Gq H) a b c d);refine[ώ,sA [ϋ,q eh] [ϗ,sFb (aO [η,rfl,pI (bv N.n1)]) (by rw[na];rfl) (sA Zu (sA (d:=UO (0,1)) rfl (sL (Ov H MU N.app hn lc) fun ρ g #[#[T,y,e3,fv],e4]=>?_)))]];rw[<-hA] at fv e4;subst e3 e4;have eg:∀{o},(h++[Kr,Lr]++o)[i]?=[ϟ,2,Vl c t R qs]:=bv MU;(have eT:T=(((C.map (wkT t)).sum),1):=by rw[hA,zbL H (Gq H),<-hA,<-hC] at fv;exact fv.whole eY);subst eT;refine sFb (kr (aO (aH (pK (k:=0) rfl rfl rfl) (n6 rfl ((aX ..).trans eg) rfl (pH H eg hn)) zu)) (kr (aO [η,pK rfl rfl rfl,ru (om (bv e1)) (om Um) oA oA]) (mw (aO (aK [Ϣ,[Ϣ,aI (pK (k:=1) rfl rfl rfl) [ν,pK (k:=2) rfl rfl rfl]]] (Op jk H eg N.app.app hd oA (bv e1) (hC▸bv e2) lt)))))) (by simp) ?_;refine sFb (aO (aH rfl (gY (aI (aK [ν,cA (v:=λch=>.int (wkT t ch)) (zT (pK (k:=2) rfl rfl rfl) (bv e2)) (zU (bv e2)) ?_ (λch hc=>#[_,rfl,?_]) rfl] zbF) [ν,rfl]) rfl) (zu (u:=((C.map (wkT t)).sum,1))))) (by simp) ?_;(have:C.length<='%'.length:=by rw[hC];exact fK ..);simp[Tu] at this;lia;obtain⟨⟨x0,a⟩,qa,rfl⟩:=aU.mp (N.nm▸(bB.mp (hC▸hc)).1);obtain⟨a4,v,ns,xs,lv',ha,_⟩:=N.at_ _ qa;(have ew:wkT t x0=v:=by unfold wkT;rw[show Uw x0 t=_ from lv'];rfl);show _=RX.R.ok (D.int (wkT t x0)) _;rw[ew];exact oq (g:=id) (l:=[Rx,Lx]) (pJ rfl (bv (bv N.n2)) rfl (d9 (N.nm▸H.ct.ndt) qa)) (bv (bv ha)) rfl rfl;(have g1:∀{o1 o2 o3:TM},(h++[o1,o2]++[o3]).set h.length (.ml [])=h++[.ml [],o2]++[o3]:=λ{o1 o2 o3}=>by rw[eF,eF];exact pq);(have g2:∀{o1 o2 o3:TM},(h++[o1,o2]++[o3]).set (h.length+1) (.ml [])=h++[o1,.ml []]++[o3]:=λ{o1 o2 o3}=>by rw[eF,eF];exact vW);refine sD ((Gu (pK rfl rfl rfl) (bv e1)).trans (by rw[g1])) (sD ((Gu (l:=C.map .str) (pK (k:=2) rfl rfl rfl) (bv XY)).trans (by rw[g2])) ?_);obtain⟨G,hG⟩:∃G,G=h++[TM.ml [],.ml []]++[.ml (A.map D.str)]:=#[_,rfl];have q2:=q (h:=G) (by rw[hG];exact bv MU);have e5:(G++[Kr,Lr])[G.length]?=[ϓ,Ry]:=Um;have e6:(G++[Kr,Lr])[(h++[Kr,Lr]).length]?=[ϓ,Ry]:=bv (by rw[show(h++[Kr,Lr]).length=(h++[TM.ml [],.ml []]).length by simp,hG];exact Um);rw[<-hG];refine sR [η,[η,[ϋ,q2],rfl],(ru (neg:=fh) (om e5) (om e6) oA oA).trans (by rw[Tc rfl])] ?_;rw[hG,eF,eF];exact n5 cl (by trivial)
end
section
variable {h:TH}{c:bC}{t:bw}{i j:Nat}{R:xab}{qs:xaj}{x:To}{fa:RE}{ρ:Ul}{bs:Nat->JG}{b:Bool}{k:Nat}
theorem Gw (z:fa ρ h=.ok (.at j) h)(e:h[j]?=se (.mx k))(eb:bs k=SW):YB bs fa ρ h=.ok Qt h:=by unfold YB;rw[z];show(match eg h j with| some (.mx c)=>T5 (bs c) λb=>[MW,Qt]| _=>.no:ta)=_;rw[aX,e];show T5 (bs k) _=_;rw[eb];rfl
theorem Oy (e:h[j]?=se IP):xaa [.at j,.int 5] h=.ok ϻ h:=by have X:∀{ρ:Ul} {m:Nat},YB (bX 10 m) ξ (se (.at j)::ρ) h=.ok (.bl (bW 4 m)) h:=λ{ρ m}=>Gw rfl e rfl;have Y:∀{ρ:Ul},YB (bV 10) ξ (se (.at j)::ρ) h=.ok ϻ h:=λ{ρ}=>Gw rfl e rfl;refine[ώ,sA (je (aI X (aI X [ν,X])) rfl) (sA (aH rfl (je (aI X (aI X [ν,X])) rfl) rfl) (sA (aH rfl (je (aI X (aI X [ν,X])) rfl) rfl) (sA (aH rfl (je [ν,X] rfl) rfl) (sF (h1:=h) ?_ [ϣ,?_]))))];rfl;exact Y (ρ:=[])
theorem za9 {n k c:Nat}(hn:ds.length=n)(z:f (Xq ds k) h=.ex c h'):UL tj n k f ds h=.ex c h':=by subst hn;unfold UL;rw[aW,show bW ds.length ds.length=tj from gG _,z];rfl
variable (eh:h[i]?=[ϟ,2,Vl c t R qs])(hx:x∉'+')
include eh hx
theorem zda:Ut [.at i,Ϯ] h=.ex 4 h:=by have a1:=aO (aH (o:=Lu) (fa:=ο) (fb:=[ϙ,2,0]) (ρ:=[se (.at i),Md]) rfl [Ϗ,eh,rfl] xbr);rw[Tf hx] at a1;exact DT rfl ((iI a1).trans rfl) rfl
theorem zef:Uu [.at i,Ϯ] h=.ex 4 h:=DT rfl (DR (by unfold Xx;rw[ZH eh rfl rfl (zda eh hx)];rfl)) rfl
theorem zeU:Wc [.at i,Ϯ] h=.ex 4 h:=za9 rfl (DR (by unfold TD;rw[ZH eh rfl rfl (zef eh hx)];rfl))
theorem zdk:XU [.at i,Ϯ] h=.ok (.at h.length) (h++[IP]):=by refine kn rfl (sA rfl (sG (ρ1:=[se (.at i),Md,se (.at h.length),ng]) ?_ (sR rfl rfl)));show xbT 3 yk _ _ (Wc [.at i,Ϯ] h)=_;rw[zeU eh hx];unfold xbT xbo;dsimp only;rw[show yk 4=tj from rfl,show Id=h.length from aW h,show hp h IP=h++[IP]from gj _ _];rfl
end
section
variable {h:TH}{c:bC}{t:bw}{i:Nat}{aw:List (To×Bool)}{nt:List (To×Nat)}{R:xab}{qs:xaj}{ns:xam}{w0 w1:μ}{B cell:Int}{d:Dd}{nm:To}
theorem wF (cl:Ϭ)(H:XZ c t R qs)(eh:h[i]?=[ϟ,2,Vl c t R qs])(N:WK h c t aw nt)(ok:∀x∈'+',ZG x)(lc:c.length<=12)(lt:t.length<=4)(hn:nm∈'+'):VP [.at i,Vf,J3] h=.ok ϻ h:=by obtain⟨⟨_,v⟩,hp,rfl⟩:=aU.mp hn;cases v with| false=>exact Ow cl H eh N (d9 H.ct.ndc hp)| true=>exact zd7 cl H eh N ok lc lt (d9 H.ct.ndc hp)
def Now (ns:xam)(w0 w1:μ)(B:Int)(h:TH):Prop:=∃c t R qs aw nt,Ϭ/\XZ c t R qs/\h[0]?=se Rt/\h[1]?=[ϟ,2,Vl c t R qs]/\WK h c t aw nt/\(∀x∈'+',x∈w0)/\(∀x∈'%',x∈w1)/\(∀q∈t,q.2.1<=B)/\('%'≠[]->'+'≠[])
theorem OE (B0:0<=B)(wB:∀q∈t,q.2.1<=B)(ch:To):wk t ch<=B:=by unfold wk;cases e:Uw ch t with| none=>exact B0| some a=>exact wB _ fP
theorem May.names (M:May c t w0 w1 d)(s0:∀x∈'+',x∈w0):∀x∈Tu 'P',x∈w0:=λx hx=>by cases d with| hire n =>(rcases(by grind[Tu,Dd.cr]:x∈'+'\/x=n)with z | rfl;exact s0 x z;exact M.1)| away n=>exact s0 x (by rwa [Dd.cr,mn (aU.mpr #[_,cW M,rfl])] at hx)| back n=>exact s0 x (by rwa [Dd.cr,mn (aU.mpr #[_,cW M,rfl])] at hx)| _=>exact s0 x hx
theorem May.ae (M:May c t w0 w1 d)(s1:∀x∈'%',x∈w1):∀x∈Tu (d.tk c t),x∈w1:=λx hx=>by cases d with| put ch w xs =>(rcases(by grind[Tu,Dd.tk]:x∈'%'\/x=ch)with z | rfl;exact s1 x z;exact M.1)| drop ch=>grind[Dd.tk,tR]| more ch w=>grind[Dd.tk,zR]| fewer ch w=>grind[Dd.tk,zR]| _=>exact s1 x hx
theorem May.works (M:May c t w0 w1 d)(B0:0<=B)(wB:∀q∈t,q.2.1<=B):∀q∈d.tk c t,q.2.1<=B+10^60:=λq hq=>by(have go:∀{q},q∈t->q.2.1<=B+10^60:=λz=>by grind);(have st:∀{ch v},v<=B+10^60->∀q∈[Kz,ch,v],q.2.1<=B+10^60:=λ{ch v} hv q hq=>by grind[Vj,hp]);have k:=OE B0 wB;cases d with| put ch w xs =>(rcases 's' with z | z;exact go z;rw[Nj];have:=M.2.2.2.1;lia)| drop ch=>exact go (bB.mp hq).1| more ch w=>exact st (by have:=M.2.2;grind) q hq| fewer ch w =>obtain⟨_,_,_,m,_⟩:=M;exact st (by grind) q hq| _=>exact go hq
theorem May.crew (M:May c t w0 w1 d)(tc:'%'≠[]->'+'≠[]):Tu 'P'≠[]:=by(have ne:∀{α:Type} {x:To} {l:List (To × α)},x∈'a'->'a'≠[]:=λz e=>by rw[e] at z;cases z);have lm:∀{x b},Uw x c=SW->x∈'+':=λe=>aU.mpr #[_,fP,rfl];cases d with| hire n=>simp[Dd.cr,Tu]| put ch w xs =>(obtain⟨_,_,_,_,x0,_,xi⟩:=M;match xs,x0,xi with| x::_,_,xi=>exact ne (xi x (.head _)))| drop ch=>exact tc (ne M)| more ch w=>exact tc (ne M.1)| fewer ch k =>obtain⟨w,ns,e,_⟩:=M;exact tc (ne (aU.mpr #[_,fP,rfl]))| away n=>rw[Dd.cr,mn (lm M)];exact ne (lm M)| back n=>rw[Dd.cr,mn (lm M)];exact ne (lm M)
variable (l0:w0.length=4)(l1:w1.length=4)(n0:w0.Nodup)(n1:w1.Nodup)(o0:∀x∈w0,Km)(o1:∀x∈w1,Km)
include l0 l1 n0 n1 o0 o1
theorem zer (hN:Now ns w0 w1 B h)(hB:Bd 300 (B+10^60))(B0:0<=B):On (xbR [se (.at 0),se (YL w0 w1),se (.at 1),La,[ϒ,cell],y,ng] h) fun ρ g=>(∃y z,ρ=[se (.at 0),se (YL w0 w1),se (.at 1),La,y,z,ng])/\Now ns w0 w1 (B+10^60) g:=by obtain⟨c,t,R,qs,aw,nt,cl,H,e0,e1,N,s0,s1,wB,tc⟩:=hN;(have lc:=by simpa [Tu,l0] using H.ct.ndc.length_le_of_subset s0);(have lt:=by simpa [Tu,l1] using H.ct.ndt.length_le_of_subset s1);obtain⟨d,qd,M⟩:=zeE cl N (λx hx=>(o0 x (s0 x hx)).ok) H.ct.ndc H.ct.ndt l0 l1 n0 n1 s0 s1;obtain⟨R',q',ed,H'⟩:=ze0 cl H e1 lc lt o0 o1 (λq hq=>#[H.ct.pos q hq,wB q hq]) hB B0 M;have hl:='n'.1;obtain⟨h2,oN,nt',q2,N2,jx,k2⟩:=Oc (cl.set wz) (N.keep (by rw[bF (by decide)];exact N.n0) (by rw[bF (by decide)];exact N.n1) (λi hi=>bF (by lia)) N.awi N.an) H.ct.ndc H.ct.ndt lc lt M H' (fD hl);have s0':=M.names s0;have s1':=M.ae s1;have ok':=λx hx=>(o0 x (s0' x hx)).ok;have jy:=(k2 1 (by decide)).trans (fD hl);(have lc':=by simpa [Tu,l0] using H'.ct.ndc.length_le_of_subset s0');(have lt':=by simpa [Tu,l1] using H'.ct.ndt.length_le_of_subset s1');have cr:=M.crew tc;obtain⟨m,m0,qm⟩:=rq (k:=4) (by decide);obtain⟨k,x,ek,hx⟩:=zP m cr;have gl:Ur [.at 2] h2=[ϳ,.int 'P'.length]:=(lI N2.n0).trans (by simp[Tu]);(have c0:0<('P'.length:Int):=by have:=fM.mpr cr;rw[show(Tu 'P').length='P'.length from bq ..] at this;simp_all);exact nA [ϋ,qd] (nD' [ϋ,ed] (nD' [ϋ,q2] (nF (mw (aO (aK [Ϣ,[Ϣ,[ν,oq rfl N2.n0 (aH [ϋ,qm] [ϋ,gl] ((mod_int c0).trans (by grind[Tu]))) hx]]] (wF jx H' jy N2 ok' (by lia) lt' R7)))) (nE rfl #[#[_,_,rfl],_,_,R',q',oN,nt',jx,H',(k2 0 (by decide)).trans ((bF (by decide)).trans e0),jy,N2,s0',s1',M.works B0 wB,λ_=>cr]))))
end
section
variable {h:TH}{ns:xam}{w0 w1:μ}{cell:Int}
theorem ze8:Now ns w0 w1 0 [Rt,.mi 2 (Vl [] [] [] []),.ml [],.md [] [],.md [] []]:=by refine#[[],[],[],[],[],[],?_,#[#[by decide,by decide,by decide,by decide,?_,?_,?_,?_],#[#[rfl,?_,?_,?_,?_,?_],rfl,?_,#[rfl,?_],by decide,by decide]],rfl,rfl,#[rfl,rfl,rfl,?_,by decide,rfl,by decide,?_],?_,?_,?_,?_];(.intro o ho;simp only[bi,gW,or_false] at ho;rcases ho with rfl | rfl | rfl | rfl | rfl;trivial;exact wz;all_goals exactλd hd=>by cases hd);all_goals first |(simp[Tu,Uw];done)|exactλr hr=>by cases hr
noncomputable abbrev nsh:To:="nosuchhandat"
theorem nosuch:xae nsh:=#[by decide +kernel,by decide +kernel,by decide +kernel]
theorem law_ok (hn:ns.length<=63):e_law [.at 0] [Rt]=.ok ϻ [Rt]:=by obtain⟨w0,q0,l0,n0,o0⟩:=Ge (cell:=[Jr,0]);obtain⟨w1,q1,l1,n1,o1⟩:=Ge (cell:=[Jr,1]);obtain⟨L,hL⟩:∃L,L=(ns.drop (NAH.V1 ns.length 0 (se 2))).take (NAH.V1 ns.length ns.length (se 12)-NAH.V1 ns.length 0 (se 2)):=#[_,rfl];(have LL:L.length<=63:=by rw[hL];simp only[jr,Bo];omega);(have sl:∀{h:TH} {ρ:Ul},h[0]?=se Rt->rSl fh ξ (rO1 [΢,2]) (rO1 [΢,12]) (se (.at 0)::ρ) h=.ok (.lst (L.map .int)) h:=λ{h ρ} e=>by show T5 (eS h (.at 0)) _=_;rw[show eS h (.at 0)=se Nn by unfold eS;dsimp only;rw[aX,e]];show[MW,D.lst (cutD Nn (se 2) (se 12))]=_;rw[hL];unfold cutD;rw[bq,BG,BH]);(have bd:∀n:Nat,n<=63->Bd 300 (n*10^60+10^60):=λn hn=>by show Int.natAbs _<2^300;omega);refine[ώ,sA (je (aI (aK [ν,[ϋ,F5 (k:=0) rfl]] q0) [ν,aK [ν,[ϋ,F5 (k:=1) rfl]] q1]) rfl) (sA (d:=.at 1) rfl (sA (d:=Vf) (h1:=[Rt,.mi 2 (Vl [] [] [] []),.ml [],.md [] [],.md [] []]) rfl (sL (fG (l:=L) (g:=D.int) (λn ρ g=>(∃y z,ρ=[se (.at 0),se (YL w0 w1),se (.at 1),La,y,z,ng])/\Now ns w0 w1 (n*10^60) g) (eU (sl rfl)) (λn _ _ _=>cY n) (by omega) #[#[_,_,rfl],by simpa using ze8] ?_) ?_)))];rintro n x ρ g hx ⟨⟨y,z,rfl⟩,N⟩;have nl:='r'.1;refine#[_,rfl,?_];rw[show((n+1:Nat):Int)*10^60=n*10^60+10^60 by omega];exact zer (cell:=x) l0 l1 n0 n1 o0 o1 N (bd n (by exact fF (hZ nl LL))) (by omega);rintro ρ g ⟨⟨y,z,rfl⟩,c,t,R,qs,aw,nt,cl,H,e0,e1,N,s0,s1,_⟩;(have lc:c.length<=4:=by simpa [Tu,l0] using H.ct.ndc.length_le_of_subset s0);(have lt:t.length<=4:=by simpa [Tu,l1] using H.ct.ndt.length_le_of_subset s1);have ok:∀x∈'+',ZG x:=λx hx=>(o0 x (s0 x hx)).ok;(have gl:∀{ρ:Ul} {g:TH},TP (VD fh) [Hb,[σ,[΢,0]],[σ,[΢,1]]] (Un fh (Tg [Ϲ,"nosuchhandat"] (Tg [Ϲ,""] Tk))) (se (.at 0)::se (YL w0 w1)::ρ) g=.ok (.lst ((w0++w1++[nsh,""]).map .str)) g:=λ{ρ g}=>by match w0,w1,l0,l1 with| [_,_,_,_],[_,_,_,_],_,_=>rfl);(have clx:∀k,Cl (g++bh k IP):=λk=>Cl.apps cl λo ho=>by rw[w7 ho];trivial);refine sL (fG (l:=w0++w1++[nsh,""]) (λn ρ g'=>(∃x,ρ=[se (.at 0),se (YL w0 w1),se (.at 1),La,y,z,x])/\∃k,g'=g++bh k IP) (eU gl) (λn _ _ _=>cY n) (by simp[l0,l1]) #[#[_,rfl],0,by simp] ?_) ?_;rintro n x ρ g' hx ⟨⟨x',rfl⟩,k,rfl⟩;refine#[_,rfl,?_];by_cases xi:x∈'+';exact nT (aO ([η,rfl,lN OO].trans (by rw[Tc xi];rfl))) (nF (mw (aO [ϋ,wF (clx k) H (bv e1) N.app ok (by lia (verbose:=false)) lt xi])) (nE rfl #[#[_,rfl],k,rfl]));refine nF (aO ([η,rfl,lN OO].trans (by rw[Tf xi];rfl))) (nF (h1:=g++bh k IP++[IP]) (tw (aO (aK (wD [ϋ,zdk (bv e1) xi] rfl) (Oy Um)))) (nE rfl #[#[_,rfl],k+1,?_]));rw[eF,List.replicate_succ'];rintro ρ g' ⟨⟨x',rfl⟩,k,rfl⟩;have N':=N.app (o:=bh k IP);have jy:(g++bh k IP)[1]?=[ϟ,2,Vl c t R qs]:=bv e1;have e0':(g++bh k IP)[0]?=se Rt:=bv e0;have oK:=clx k;generalize g++bh k IP=G at N' jy e0' oK ⊢;(have fin:∀{G:TH},G[0]?=se Rt->trunc 1 ϻ G=.ok ϻ [Rt]:=λ{G} e=>by match G,e with| _::g2,e =>cases e;exact n5 (h:=[Rt]) (λo ho=>by rw[cO.mp ho];trivial) (by trivial));by_cases xi:nsh∈'+';exact sF (aO ([η,rfl,lN N'.n0].trans (by rw[Tc xi];rfl))) (sR [ϋ,wF oK H jy N' ok (by lia (verbose:=false)) lt xi] (fin e0'));obtain⟨R',q',ed,H'⟩:=FW oK H jy nosuch xi (by lia (verbose:=false));have hl:=(aQ.mp jy).1;have h2:=(aQ.mp N'.n0).1;obtain⟨G1,hG1⟩:∃G1,G1=G.set 1 (.mi 2 (Vl (c++[(nsh,tj)]) t R' q')):=#[_,rfl];rw[<-hG1] at ed;(have n0:G1[2]?=[ϓ,'+'.map .str]:=by rw[hG1,bF (by decide)];exact N'.n0);(have e2:(G1.set 2 (.ml ('+'.map .str++[.str nsh])))[1]?=[ϟ,2,Vl (c++[(nsh,tj)]) t R' q']:=by rw[bF (by decide),hG1,fD hl]);have N2:WK (G1.set 2 (.ml ('+'.map .str++[.str nsh]))) (c++[(nsh,tj)]) t aw nt:=N'.keep (by rw[fD (by rw[hG1,eX];exact h2)];simp[Tu]) (by rw[bF (by decide),hG1,bF (by decide)];exact N'.n1) (λi hi=>by rw[bF (by lia (verbose:=false)),hG1,bF (by lia (verbose:=false))]) (λx=>by rw[N'.awi x,zQ xi];by_cases y:x=nsh;rw[Ta y,y,US.mpr xi];simp;rw[S9 y]) N'.an;have jx:Cl (G1.set 2 (.ml ('+'.map .str++[.str nsh]))):=Cl.set (hG1▸oK.set wz) (by rw[show '+'.map D.str++[.str nsh]=('+'++[nsh]).map .str by simp];exact cdm λ_=>by trivial);(have ok2:∀x∈Tu (c++[(nsh,tj)]),ZG x:=λx hx=>by rw[show Tu (c++[(nsh,tj)])='+'++[nsh]by simp[Tu]] at hx;rcases dh.mp hx with z | z;exact ok x z;rw[Nj];exact nosuch.ok);refine sG (ρ1:=[se (.at 0),se (YL w0 w1),se (.at 1),La,y,z,x']) ((iI (aO ([η,rfl,lN N'.n0].trans (by rw[Tf xi];rfl)))).trans ?_) (sR [ϋ,wF jx H' e2 N2 ok2 (by simp;lia (verbose:=false)) lt (by simp[Tu])] (fin (by rw[bF (by decide),hG1,bF (by decide)];exact e0')));exact(nY (fQ (n6 rfl ((aX ..).trans jy) rfl ed))).trans (fQ (lH rfl n0 rfl (by simp[Tu];lia (verbose:=false))))
end
end NAY
namespace NAL.RZ
open PySem PySem.Spec PyProof.Rows NAL NAL.EX NAL.RX
inductive Ro where
 | dat (o:UK) | pin (o:UK) | slo (o:UK) | own (i:Nat) | loc | tab (k:Nat)
noncomputable def Ro.fix:Ro->Bool| .dat _=>tj| .pin _=>tj| .slo _=>tj| _=>fh
structure Gs where
 G:Tn->Option Ro
 ι:LM
structure Cb where
 C:CT
 P:TF
 w:Ud
abbrev WL:=List (D×Value)
noncomputable abbrev Xy (us:Ϛ) (n:Nat):UK:={ cls:=.type "list",data:=.seq us.toArray n}
abbrev Fz (g:Gs)(a:Tn)(φ:TU->Prop):Prop:=∃o,Ϙ=ND/\∀h:TU,'@'=ζ->φ h
inductive DU (B:Cb) (g:Gs):D->Value->Prop
 | non:DU B g .non .none
 | bl {b:Bool}:DU B g Qt (.bool b)
 | int {i:Int} {t:Tok}:DU B g JE (.int i t)
 | str {x:To} {t:Tok}:DU B g Ϯ (.str x t)
 | fn {k:Nat} {a:Tn} (f:Fz g a λh=>∃o es,'@'=ζ/\o.data=.dict es k):DU B g (.fn k) ψ
 | at_ {i:Nat} {a:Tn} (e:g.ι[i]?=Ϸ):DU B g (.at i) ψ
 | lst {a:Tn} {ds:θ} {us:Ϛ} {n:Nat} (f:Ϙ=se (.dat (Xy us n))) (l:ds.length=us.length) (z:us.length<=sizeLine) (A:∀w∈Ϩ,DU B g w.1 w.2):DU B g (.lst ds) ψ
 | tup {a:Tn} {ds:θ} {us:Ϛ} (f:Fz g a λh=>IsTup h a us.toArray) (l:ds.length=us.length) (z:us.length<=sizeLine) (A:∀w∈Ϩ,DU B g w.1 w.2):DU B g Of ψ
 | dic {a:Tn} {ks:Ϟ} {ds:θ} {us:Ϛ} (f:Fz g a λh=>h.DictOf (Ue B.P B.w) a 'C') (n:(a==Vv)=fh) (k:ks.length=ds.length) (l:ds.length=us.length) (z:us.length<=sizeLine) (A:∀w∈Ϩ,DU B g w.1 w.2):DU B g (.dic ks ds) ψ
abbrev cI (B:Cb)(g:Gs)(ws:WL):Prop:=∀w∈ws,DU B g w.1 w.2
inductive Th (B:Cb) (g:Gs) (h:TU) (i:Nat) (a:Tn):TM->Prop
 | ml {ds:θ} {us:Ϛ} {n:Nat} (r:Ϙ=Sf) (e:'@'=se (Xy us n)) (l:ds.length=us.length) (z:us.length<=sizeLine) (A:cI B g Ϩ):Th B g h i a (.ml ds)
 | mr {ns:xam} {us:Ϛ} {n:Nat} (f:Ϙ=se (.dat (Xy us n))) (l:ns.length=us.length) (z:us.length<=sizeLine) (A:∀w∈ns.zip us,∃t,w.2=.int w.1 t):Th B g h i a Rt
 | md {ks:Ϟ} {ds:θ} {us:Ϛ} (r:Ϙ=Sf) (e:h.DictOf (Ue B.P B.w) a 'C') (n:(a==Vv)=fh) (k:ks.length=ds.length) (l:ds.length=us.length) (z:us.length<=sizeLine) (A:cI B g Ϩ):Th B g h i a (.md ks ds)
 | mi {c:Nat} {ds:θ} {us:Ϛ} {dx:Tn} (r:Ϙ=Sf) (r':g.G dx=Sf) (e:xaX h a dx (B.C.cl c) λf=>((B.C.nm c).zip us).lookup f) (l:ds.length=us.length) (z:us.length<=(B.C.nm c).length) (A:cI B g Ϩ):Th B g h i a (.mi c ds)
 | mx {c:Nat} (r:Ϙ=Sf) (e:Y9 a (B.C.xc c) h):Th B g h i a (.mx c)
 | mf {k:Nat} {pm:Value} {c:Tn} {ctv:Value} (r:Ϙ=Sf) (e:'@'=se (Cm "<lambda>" '!'.qual '!'.params '!'.body '!'.scope [] pm c ctv)) (f:Fz g c λh=>h.CodeRec Jp '!'.qual):Th B g h i a (.mf k)
 | no:Th B g h i a .no
def Tb (B:Cb)(g:Gs)(h:TU)(k:Nat):Prop:=(∃j,g.G (B.C.tb k)=se (.tab j))/\∃ps,h.get? (B.C.tb k)=se { cls:=.none,data:=.fields ps}/\TriplesOk ps.toList/\∀pos c,Yb pos ps.toList=ϛ->∃c',c=.ref c'/\Fz g c' λh=>h.CodeRec (.ref c') '!'.qual
abbrev NF (o:UK):Prop:=∀vs,o.data≠KL
structure Hk (B:Cb)(g:Gs)(h:TH)(H:TU):Prop where
 st:∀a o,Ϙ=ND\/Ϙ=[gV,o]->'H'=ζ
 sl:∀a o,Ϙ=se Zj->NF o/\∃sl,'H'=se { o with slots:=sl}
 al:∀a r,Ϙ=ϊ->∃o,'H'=ζ
 len:g.ι.length=h.length
 th:∀(i:Nat) t a,h[i]?=se t->g.ι[i]?=Ϸ->Th B g H i a t
 tb:∀k,k<B.C.nl->Tb B g H k
structure Le (g g':Gs):Prop where
 d:∀a o,Ϙ=ND->Pc=ND
 i:∃l,g'.ι=g.ι++l
section
variable {B:Cb}{g g':Gs}{h:TH}{H H':TU}{a b:Tn}{o o':UK}{i:Nat}{t:TM}{d:D}{u:Value}{ws:WL}{r:Ro}
theorem Le.refl:Le g g:=#[λ_ _ z=>z,[],by simp]
theorem Le.fz (x:Le g g')(f:Fz g a φ):Fz g' a φ:=by obtain⟨o,e,q⟩:=f;exact#[o,x.d _ _ e,q]
theorem Le.du (x:Le g g')(q:DU B g d u):DU B g' d u:=by induction q with| non=>exact .non| bl=>exact .bl| int=>exact .int| str=>exact .str| fn f=>exact .fn (x.fz f)| at_ e=>exact .at_ (by obtain⟨l,f⟩:=x.i;grind)| lst f l z _ ih=>exact .lst (x.d _ _ f) l z ih| tup f l z _ ih=>exact .tup (x.fz f) l z ih| dic f n k l z _ ih=>exact .dic (x.fz f) n k l z ih
theorem Le.held (x:Le g g')(q:cI B g ws):cI B g' ws:=λw z=>x.du (q w z)
theorem Th.go (x:Le g g')(ow:∀b,Ϝ=Sf->Ku=Sf)(k:∀b o,Ϝ=Sf->'8'=ζ->'0'=ζ)(q:Th B g H i a t):Th B g' H' i a t:=by cases q with| ml r e l z A=>exact .ml (ow _ r) (k _ _ r e) l z (x.held A)| mr f l z A=>exact .mr (x.d _ _ f) l z A| md r e n kk l z A =>obtain⟨o,es,ep,e1,e2⟩:=e;exact .md (ow _ r) #[o,es,ep,k _ _ r e1,e2] n kk l z (x.held A)| mi r r' e l z A =>exact .mi (ow _ r) (ow _ r') #[k _ _ r e.obj,e.ns.at λo=>k _ o r',e.ne] l z (x.held A)| mx r e=>obtain⟨o,vs,e1,e2⟩:=e;exact .mx (ow _ r) #[o,vs,k _ _ r e1,e2]| mf r e f=>exact .mf (ow _ r) (k _ _ r e) (x.fz f)| no=>exact .no
theorem Tb.go (x:Le g g')(ow:∀b k,Ϝ=se (.tab k)->Ku=se (.tab k))(k:∀b o j,Ϝ=se (.tab j)->'8'=ζ->'0'=ζ)(q:Tb B g H n):Tb B g' H' n:=by obtain⟨⟨j,r⟩,ps,e,q1,q2⟩:=q;exact#[#[j,ow _ _ r],ps,k _ _ _ r e,q1,λpos c z=>by obtain⟨c',e,f⟩:=q2 pos c z;exact#[c',e,x.fz f]]
theorem Hk.go (q:Hk B g h H)(x:Le g g')(hi:g'.ι=g.ι)(ow:∀b r,Ϝ=ϊ->(∃i,r=.own i\/r=.tab i)->Ku=ϊ/\∀o,'8'=ζ->'0'=ζ) (st:∀a o,Pc=ND\/Pc=[gV,o]->Lz=ζ) (sl:∀a o,Pc=se Zj->NF o/\∃sl,Lz=se { o with slots:=sl}) (al:∀a r,Pc=ϊ->∃o,Lz=ζ):Hk B g' h H' :=#[st,sl,al,by exact hi▸q.len,λi t a e1 e2=>(q.th i t a e1 (by rwa [<-hi])).go x (λb z=>(ow b _ z #[i,lS]).1) λb o z=>(ow b _ z #[i,lS]).2 o,λk z=>(q.tb k z).go x (λb j z=>(ow b _ z #[j,Kl]).1) λb o j z=>(ow b _ z #[j,Kl]).2 o]
theorem Hk.kept (q:Hk B g h H)(k:∀b o,'8'=ζ->'0'=ζ):Hk B g h H' :=q.go .refl rfl (λb r z _=>#[z,λo=>k b o]) (λa o z=>k _ _ (q.st a o z)) (λa o z=>by obtain⟨n,s,e⟩:=q.sl a o z;exact#[n,s,k _ _ e]) λa r z=>let #[o,e]:=q.al a r z;#[o,k _ _ e]
theorem Hk.fresh (q:Hk B g h H)(z:'H'=ng):Ϙ=none:=by cases e:Ϙ with| none=>rfl| some r=>obtain⟨o,e1⟩:=q.al a r e;rw[z] at e1;cases e1
noncomputable def Gs.upd (g:Gs) (a:Tn) (r:Option Ro):Gs:=#[λb=>if b=a then r else Ϝ,g.ι]
theorem Gs.upd_same:(g.upd a r').G a=r':=Nk
theorem Gs.upd_ne (n:b≠a):(g.upd a r').G b=Ϝ:=S9 n
def Gs.free (g:Gs)(a:Tn):Prop:=∀r,Ϙ=ϊ->(∃o,r=Qo\/r=Zj)\/r=.loc
theorem Le.upd (f:g.free a):Le g (g.upd a r'):=#[λb o z=>by by_cases e:b=a;subst e;rcases f _ z with ⟨_,y | y⟩ | y<;>cases y;rwa [Gs.upd_ne e],[],by simp[Gs.upd]]
theorem Hk.role (q:Hk B g h H)(f:g.free a)(r':Option Ro)(k:∀b o,b≠a->'8'=ζ->'0'=ζ)(ok:∀r,r'=ϊ->∃o,Lz=ζ/\(∀o',r=.dat o'\/r=.pin o'->o=o')/\∀o',r=.slo o'->NF o'/\∃sl,o={ o' with slots:=sl}):Hk B (g.upd a r') h H':=by refine q.go (.upd f) rfl (λb r z y=>?_) (λb o z=>?_) (λb o z=>?_) λb r z=>?_;(have n:b≠a:=by rintro rfl;obtain⟨i,y⟩:=y;rcases f _ z with ⟨_,x | x⟩ | x<;>subst x<;>rcases y with y | y<;>cases y);exact#[by rwa [OH],λo=>k b o n];(all_goals by_cases n:b=a);subst n;rw[Gs.upd_same] at z;rcases z with z | z<;>obtain⟨o1,e1,e2,_⟩:=ok _ z<;>rw[e1,e2 o (by simp)];rw[OH] at z;exact k b o n (q.st b o z);subst n;rw[Gs.upd_same] at z;obtain⟨o1,e1,_,e2⟩:=ok _ z;obtain⟨m,s,e3⟩:=e2 o rfl;exact#[m,s,by rw[e1,e3]];rw[OH] at z;obtain⟨m,s,e⟩:=q.sl b o z;exact#[m,s,k b _ n e];subst n;rw[Gs.upd_same] at z;obtain⟨o1,e1,_⟩:=ok _ z;exact#[o1,e1];rw[OH] at z;obtain⟨o,e⟩:=q.al b r z;exact#[o,k b o n e]
theorem Hk.dat (q:Hk B g h H)(n:Ϙ=ng)(k:∀b o,'8'=ζ->'0'=ζ)(e:Lz=ζ):Hk B (g.upd a ND) h H' :=q.role (λr z=>by rw[n] at z;cases z) _ (λb o _=>k b o) λr z=>#[o,e,λo' y=>by cases z;rcases y with y | y<;>cases y;rfl,λo' y=>by cases z;cases y]
theorem Hk.set (q:Hk B g h H)(k:∀b o,Ϝ≠Sf->'8'=ζ->'0'=ζ)(al:∀b,Ϝ=Sf->∃o,'0'=ζ)(new:∀a,g.ι[i]?=Ϸ->Th B g H' i a t):Hk B g [ϭ,t] H':=by have nf:∀{b r},Ϝ=ϊ->r≠.own i->∀o,'8'=ζ->'0'=ζ:=λ{b r} z n o=>k b o (by exact z▸λy=>n (dU y));refine#[λa o z=>k a o (by rcases z with z | z<;>rw[z]<;>simp) (q.st a o z),λa o z=>by obtain⟨n,s,e⟩:=q.sl a o z;exact#[n,s,nf z (by simp) _ e],λa r z=>?_,by rw[eX];exact q.len,λj t' a e1 e2=>?_,λj z=>(q.tb j z).go .refl (λ_ _ z=>z) λb o j z=>nf z (by simp) o];by_cases n:r=.own i;subst n;exact al a z;obtain⟨o,e⟩:=q.al a r z;exact#[o,nf z n o e];by_cases n:i=j;subst n;rw[fD (by have:='n'.1;simpa using this)] at e1;cases e1;exact new a e2;rw[bF n] at e1;exact(q.th j t' a e1 e2).go .refl (λ_ z=>z) λb o z=>nf z (λy=>n (by cases y;rfl)) o
theorem Hk.mut (q:Hk B g h H)(as:LM)(n:∀b∈as,Ϝ=ng)(al:∀b∈as,∃o,'8'=ζ) (new:∀g',g'.G=(λb=>if b∈as then M5 else Ϝ)->g'.ι=g.ι++[a]->Le g g'->Th B g' H h.length a t):Le g #[λb=>if b∈as then M5 else Ϝ,g.ι++[a]]/\Hk B #[λb=>if b∈as then M5 else Ϝ,g.ι++[a]] (h++[t]) H:=by have x:Le g #[λb=>if b∈as then M5 else Ϝ,g.ι++[a]]:=#[λb o z=>by by_cases y:b∈as;rw[n b y] at z;cases z;show(if b∈as then _ else _)=_;rwa [S9 y],[a],rfl];(have old:∀b r,Ϝ=ϊ->(if b∈as then se (Ro.own h.length)else Ϝ)=ϊ:=λb r z=>by by_cases y:b∈as;rw[n b y] at z;cases z;rwa [S9 y]);refine#[x,λb o z=>?_,λb o z=>?_,λb r z=>?_,by simp[q.len],λj t' c e1 e2=>?_,λj z=>(q.tb j z).go x (λb j=>old b _) λb o j _ z=>z];dsimp only at z;by_cases y:b∈as;rw[Ta y] at z;rcases z with z | z<;>cases z;rw[S9 y] at z;exact q.st b o z;dsimp only at z;by_cases y:b∈as;rw[Ta y] at z;cases z;rw[S9 y] at z;exact q.sl b o z;dsimp only at z;by_cases y:b∈as;exact al b y;rw[S9 y] at z;exact q.al b r z;dsimp only at e2;by_cases y:j<h.length;exact(q.th j t' c (by rwa [iN y] at e1) (by rwa [iN (by rwa [q.len])] at e2)).go x (λb=>old b _) λb o _ z=>z;(have e:j=h.length:=by have:='n'.1;simp at this;lia);subst e;rw[w5] at e1;rw[<-q.len,w5] at e2;cases e1;cases e2;exact new _ rfl rfl x
theorem Hk.gone (q:Hk B g h H)(e:'H'=ζ)(r:Ϙ=Sf):Le g (g.upd a ND)/\Hk B (g.upd a ND) [ϭ,.no] H:=by have x:Le g (g.upd a ND):=#[λb o' z=>by by_cases n:b=a;subst n;rw[r] at z;cases z;rwa [OH],[],by simp[Gs.upd]];refine#[x,λb o' z=>?_,λb o' z=>?_,λb r' z=>?_,by rw[eX];exact q.len,λj t' c e1 e2=>?_,λj z=>(q.tb j z).go x (λb j z=>?_) λb o j _ z=>z];by_cases n:b=a;subst n;rw[Gs.upd_same] at z;rcases z with z | z<;>cases z;exact e;rw[OH] at z;exact q.st b o' z;by_cases n:b=a;subst n;rw[Gs.upd_same] at z;cases z;rw[OH] at z;exact q.sl b o' z;by_cases n:b=a;subst n;exact#[o,e];rw[OH] at z;exact q.al b r' z;by_cases n:i=j;subst n;rw[fD (by have:='n'.1;simpa using this)] at e1;cases e1;exact .no;rw[bF n] at e1;refine(q.th j t' c e1 e2).go x (λb z=>?_) λb o _ z=>z;(have nb:b≠a:=by rintro rfl;rw[r] at z;cases z;exact n rfl);rwa [Gs.upd_ne nb];(have nb:b≠a:=by rintro rfl;rw[r] at z;cases z);rwa [Gs.upd_ne nb]
end
structure Gr (g g':Gs):Prop where
 f:∀a r,Ϙ=ϊ->r.fix=tj\/r=.loc->Pc=ϊ
 i:∃l,g'.ι=g.ι++l
abbrev ERt:=Rg->Gs->Tj->(Nat->TH->Prop)->Value->Tj->Prop
structure Bz where
 B:Cb
 mg:To->Hc
 base:TU
 ER:ERt
structure Cz extends Bz where
 A:TC
 N:μ
 g₀:Gs
 s₀:Tj
 env:Env
 outer:Rg
 stack:Rg
 fn:To->Bool
 calm:Bool
 E:Nat->TH->Prop
 xe:Value->Tj->Prop
abbrev Cz.wp (X:Cz)(t:Sem α)(Q:α->Tj->Prop)(s:Tj):Prop:=Tv [Zh,X.B.w] X.A t Q X.xe s
structure Cz.Ok (X:Cz):Prop where
 mod:Mod X.B.C.K X.mg X.base
 kind:X.env.scope.kind=.function
 glob:X.env.globals=TB
 blt:X.env.builtins=builtinsNs
 inj:∀x y c,P9=ϛ->RL=ϛ->x=y
 has:∀x,(K4=RM\/K4=J0)->∃c,P9=ϛ
 hd:X.calm=tj->X.A.handled=ng
 frames:X.A.frames=se X.stack
 fr:∀env∈X.stack,env.scope.kind≠.module/\∃L,env.frame=se L/\(L=X.env.locals\/∃o,X.g₀.G L=se Zj)
structure Iv (X:Cz)(g:Gs)(ρ:Ul)(h:TH)(s:Tj):Prop where
 ok:X.Ok
 os:s.os=X.s₀.os
 bare:XO s.gens
 hk:Hk X.B g h s.heap
 bs:∀b o,X.base.get? b=ζ->Ϝ=ND
 kp:∀a r,X.g₀.G a=ϊ->r.fix=tj->Ϙ=ϊ
 ip:∃l,g.ι=X.g₀.ι++l
 lf:g.G X.env.locals=rv
 lc:∃m,s.heap.Ns X.env.locals m/\∀(i:Nat) x d,X.N[i]?=ω->ρ[i]?=SX->Vis X.env.scope x->∃u,DU X.B g d u/\Look X.env s.heap m x u
 ce:∀x c,P9=ϛ->(∃v,[KN,v])/\(g.G c=rv\/(∃o,g.G c=[gV,o])/\X.fn x=fh)
 len:ρ.length=X.N.length
inductive J (X:Cz) (pins:List (Tn×UK)) (ρ:Ul) (h:TH) (ws:WL) (s:Tj):Prop
 | mk (g:Gs) (I:Iv X g ρ h s) (p:∀p∈pins,g.G p.1=[gV,p.2]) (W:cI X.B g ws)
section
variable {X:Cz}{g g':Gs}{ρ:Ul}{h h':TH}{s s':Tj}{H H':TU}{pins:List (Tn×UK)}{ws:WL}{a b:Tn}{o:UK}{d:D}{u:Value}
theorem Gr.refl:Gr g g:=#[λ_ _ z _=>z,[],by simp]
theorem Gr.le (x:Gr g g'):Le g g':=#[λa o z=>x.f a _ z lS,x.i]
theorem Gr.upd (n:Ϙ=ng):Gr g (g.upd a r):=#[λb r z _=>by rwa [Gs.upd_ne (by rintro rfl;rw[n] at z;cases z)],[],by simp[Gs.upd]]
theorem Gr.ip (x:Gr g g')(y:∃l,g.ι=l0++l):∃l,g'.ι=l0++l:=by obtain⟨l,e⟩:=x.i;obtain⟨m,f⟩:=y;exact#[m++l,by rw[e,f,eF]]
theorem Iv.bk (I:Iv X g ρ h s):∀b o,X.base.get? b=ζ->ϧ=ζ:=λb o e=>[Re,b,o,I.bs b o e]
theorem Iv.kIn (I:Iv X g ρ h s):Ll:=I.ok.mod.kin.keeps I.bk
theorem Iv.nolimit (I:Iv X g ρ h s):s.heap.NoLimit:=I.ok.mod.nolimit.keeps I.bk
theorem Iv.cne (I:Iv X g ρ h s)(e:P9=ϛ):c≠X.env.locals:=by rintro rfl;obtain⟨⟨v,o,ho,hd⟩,_⟩:=I.ce x _ e;obtain⟨m,⟨o',es,ep,ho',kM,_⟩,_⟩:=I.lc;rw[ho'] at ho;cases ho;rw[kM] at hd;cases hd
theorem Iv.go (I:Iv X g ρ h s)(x:Gr g g')(q:Hk X.B g' h' H')(k:∀b o,Ϝ=rv->ϧ=ζ->'0'=ζ)(t:Nat):Iv X g' ρ h' { s with heap:=H',toks:=t}:=by(have cl:∀{y c},RL=ϛ->∀{v},[KN,v]->H'.IsCell c v:=λ{y c} e {v} #[o,ho,hd]=>by rcases(I.ce y c e).2 with z | ⟨⟨o',z⟩,_⟩;exact#[o,k _ _ z ho,hd];have e1:=[O1,c,o',z];rw[ho] at e1;cases e1;exact#[_,q.st c _ (.inr (x.f _ _ z lS)),hd]);refine#[I.ok,I.os,I.bare,q,λb o e=>x.f _ _ (I.bs b o e) lS,λa r e f=>x.f _ _ (I.kp a r e f) (.inl f),x.ip I.ip,x.f _ _ I.lf Kl,?_,λy c e=>?_,I.len];obtain⟨m,⟨o,es,ep,ho,r⟩,hl⟩:=I.lc;refine#[m,#[o,es,ep,k _ _ I.lf ho,r],λi y d e1 e2 e3=>?_];obtain⟨u,dq,l⟩:=hl i y d e1 e2 e3;refine#[u,x.le.du dq,?_];rcases l with l | ⟨kk,c,e,z⟩;exact .inl l;exact .inr #[kk,c,e,cl e z];obtain⟨⟨v,z⟩,r⟩:=I.ce y c e;refine#[#[v,cl e z],?_];rcases r with r | ⟨⟨o,r⟩,f⟩;exact .inl (x.f _ _ r Kl);exact .inr #[#[o,x.f _ _ r lS],f]
theorem Iv.nf (I:Iv X g ρ h s):∀o,s.heap.get? X.env.locals=ζ->NF o:=λo e vs z=>by obtain⟨m,⟨o',es,ep,ho,hd,_⟩,_⟩:=I.lc;rw[e] at ho;cases ho;rw[hd] at z;cases z
theorem J.kept (j:J X pins ρ h ws s)(k:∀b o,ϧ=ζ->'0'=ζ)(t:Nat):J X pins ρ h ws { s with heap:=H',toks:=t}:=by cases j with | mk g I p W=>exact#[g,I.go .refl (I.hk.kept k) (λb o _=>k b o) t,p,W]
theorem J.tok (j:J X pins ρ h ws s)(t:Nat):J X pins ρ h ws { s with toks:=t}:=j.kept (λ_ _ z=>z) t
theorem J.sub (j:J X pins ρ h ws s)(f:∀w∈ws',w∈ws):J X pins ρ h ws' s:=by cases j with | mk g I p W=>exact#[g,I,p,λw q=>W w (f w q)]
theorem J.tl (j:J X pins ρ h (w::ws) s):J X pins ρ h ws s:=j.sub λ_=>a7 _
theorem J.add (j:J X pins ρ h ws s)(q:∀g,DU X.B g d u):J X pins ρ h ((d,u)::ws) s:=by cases j with | mk g I p W=>exact#[g,I,p,λw z=>by rcases 'B' with rfl | z;exact q _;exact W w z]
theorem J.at (j:J X pins ρ h ws s)(m:(d,u)∈ws):Ex2 (Hk X.B · h s.heap) (DU X.B · d u):=by cases j with | mk g I p W=>exact#[g,I.hk,W _ m]
theorem J.int (j:J X pins ρ h ((JE,u)::ws) s):∃t,u=.int i t:=by obtain⟨_,_,q⟩:=j.at aR;cases q;exact#[_,rfl]
theorem J.str (j:J X pins ρ h ((.str i,u)::ws) s):∃t,u=.str i t:=by obtain⟨_,_,q⟩:=j.at aR;cases q;exact#[_,rfl]
theorem J.bl (j:J X pins ρ h ((.bl i,u)::ws) s):u=.bool i:=by obtain⟨_,_,q⟩:=j.at aR;cases q;rfl
theorem J.non (j:J X pins ρ h ((.non,u)::ws) s):u=.none:=by obtain⟨_,_,q⟩:=j.at aR;cases q;rfl
theorem J.via (I:Iv X g ρ h s)(p:∀p∈pins,g.G p.1=[gV,p.2])(x:Gr g g')(q:Hk X.B g' h' H')(k:∀b o,Ϝ=rv->ϧ=ζ->'0'=ζ)(W:cI X.B g' ws)(t:Nat):J X pins ρ h' ws { s with heap:=H',toks:=t} :=#[g',I.go x q k t,λy z=>x.f _ _ (p y z) lS,W]
inductive RP (X:Cz) (pins:List (Tn×UK)) (ρ:Ul) (ws:WL) (P:D->TH->Prop) (u:Value) (s:Tj):Prop
 | mk (d:D) (h:TH) (j:J X pins ρ h ((d,u)::ws) s) (p:P d h)
inductive AR (X:Cz) (pins:List (Tn×UK)) (ρ:Ul) (ws:WL) (P:θ->TH->Prop) (us:Ϛ) (s:Tj):Prop
 | mk (ds:θ) (h:TH) (l:ds.length=us.length) (j:J X pins ρ h (Ϩ++ws) s) (p:P ds h)
inductive TR (X:Cz) (pins:List (Tn×UK)) (ρ:Ul) (ws:WL) (P:α->TH->Prop) (b:α) (s:Tj):Prop
 | mk (h:TH) (j:J X pins ρ h ws s) (p:P b h)
def SR (X:Cz)(pins:List (Tn×UK))(ws:WL)(P:RX.Fl->TH->Prop)(f:Flow)(s:Tj):Prop:=match f with| .next=>∃ ρ h,J X pins ρ h ws s/\P Qd h| .ret u=>∃d ρ h,J X pins ρ h ((d,u)::ws) s/\P (.rt d) h| _=>False
theorem J.gint (j:J X pins ρ h ws s)(p:P JE h):RP X pins ρ ws P (.int i t) { s with toks:=t'}:=#[_,_,(j.tok _).add λ_=>.int,p]
theorem J.gbl (j:J X pins ρ h ws s)(p:P (.bl i) h):RP X pins ρ ws P (.bool i) s:=#[_,_,j.add λ_=>.bl,p]
theorem J.gstr (j:J X pins ρ h ws s)(p:P (.str i) h):RP X pins ρ ws P (.str i t) { s with toks:=t'}:=#[_,_,(j.tok _).add λ_=>.str,p]
theorem J.gnon (j:J X pins ρ h ws s)(p:P .non h):RP X pins ρ ws P .none s:=#[_,_,j.add λ_=>.non,p]
theorem Hk.loc (q:Hk B g h H)(k:∀b o,Ϝ≠rv->'8'=ζ->'0'=ζ)(al:∀b o,'8'=ζ->∃o,'0'=ζ):Hk B g h H' :=q.go .refl rfl (λb r z y=>#[z,λo=>k b o (by rw[z];obtain⟨i,y | y⟩:=y<;>subst y<;>simp)]) (λa o z=>k a o (by rcases z with z | z<;>rw[z]<;>simp) (q.st a o z)) (λa o z=>by obtain⟨n,s,e⟩:=q.sl a o z;exact#[n,s,k _ _ (by rw[z];simp) e]) λa r z=>let #[o,e]:=q.al a r z;al a o e
theorem J.store (j:J X pins ρ h ((d,u)::ws) s)(nd:X.N.Nodup)(hi:X.N[i]?=ω)(hx:Loc X.env.scope x)(hf:X.fn x=tj\/NL=XL) (q:∀s',J X pins (ρ.set i ϩ) h ws s'->Q () s'):Tv M A (storeName X.env x u) Q E s:=by cases j with | mk g I p W =>obtain⟨m,hn,hl⟩:=id I.lc;(have hiρ:=by exact I.len▸'U'.1);(have fin:∀{a:Tn} {H':TU} {t:Nat} {m':To->Option Value},Ϙ=rv->[OP,a,H']->(∃o,Lz=ζ)->H'.Ns X.env.locals m'->(∀y c,RL=ϛ->∃v,H'.IsCell c v)->(∀y v,y≠x->Look X.env s.heap m y v->Look X.env H' m' y v)->Look X.env H' m' x u->J X pins (ρ.set i ϩ) h ws { s with heap:=H',toks:=t}:=λ{a H' t m'} r sb ho qn hc hy g8=>by refine#[g,#[I.ok,I.os,I.bare,I.hk.loc (λb o z e=>(sb.2 b (by rintro rfl;exact z r)).trans e) (λb o e=>?_),I.bs,I.kp,I.ip,I.lf,#[m',qn,λj y d' e1 e2 e3=>?_],λy c e=>#[hc y c e,(I.ce y c e).2],by simpa using I.len],p,λw z=>W w (a7 _ z)];by_cases n:b=a;subst n;exact ho;exact#[o,(sb.2 b n).trans e];by_cases n:i=j;subst n;rw[hi] at e1;cases e1;rw[fD hiρ] at e2;cases e2;exact#[u,W _ aR,g8];rw[bF n] at e2;obtain⟨v,dq,l⟩:=hl j y d' e1 e2 e3;exact#[v,dq,hy y v (λe=>n (xaz nd hi (e▸e1))) l]);rcases hx with hk | hk;refine wpAny_storeName_local hk hn (λH' qn hs=>q _ (fin I.lf hs (by obtain⟨o,_,_,e,_⟩:=qn;exact#[o,e]) qn (λy c e=>?_) (λy v n l=>?_) (.inl #[hk,by simp]))) (by rw[I.ok.kind];rfl);obtain⟨⟨v,z⟩,_⟩:=I.ce y c e;exact#[v,z.sameBut hs ME];rcases l with ⟨k,e⟩ | ⟨k,c,e,z⟩;exact .inl #[k,by simp[n,e]];exact .inr #[k,c,e,z.sameBut hs ME];(have hfn:X.fn x=tj:=by rcases hf with z | z;exact z;rw[z] at hk;cases hk);obtain⟨c,hc⟩:=I.ok.has x (.inl hk);obtain⟨⟨w',z⟩,r⟩:=I.ce x c hc;rcases r with r | ⟨_,r⟩;refine wpAny_storeName_cell I.ok.kind hk hc z (λH' qq hs=>q _ (fin r hs (by obtain⟨o,e,_⟩:=qq;exact#[o,e]) (hn.sameBut hs (Ne.symm (I.cne hc))) (λy c' e=>?_) (λy v n l=>?_) (.inr #[.inl hk,c,hc,qq])));by_cases n:c'=c;subst n;exact#[_,qq];obtain⟨⟨v,z⟩,_⟩:=I.ce y c' e;exact#[v,z.sameBut hs n];rcases l with l | ⟨k,c',e,z⟩;exact .inl l;exact .inr #[k,c',e,z.sameBut hs λy=>n (I.ok.inj _ _ _ (y▸e) hc)];rw[hfn] at r;cases r
noncomputable def Gs.hid (g:Gs) (H:TU) (L:Tn):Gs:=#[λa=>match Ϙ with| some .loc=>'H'.map (if a=L then Ro.slo else Ro.pin)| r=>r,g.ι]
noncomputable def Gs.back (g g':Gs):Gs:=#[λa=>match Ϙ with| some .loc=>rv| _=>Pc,g'.ι]
theorem jg (n:Ϙ≠rv):(g.hid H L).G a=Ϙ:=by unfold Gs.hid;dsimp only;split;rename_i e;exact absurd e n;rfl
theorem lQ (e:Ϙ=rv)(e1:'H'=ζ):(g.hid H L).G a=se (if a=L then Zj else Qo):=by unfold Gs.hid;dsimp only;rw[e,e1];by_cases n:a=L<;>simp[n]
theorem Le.hid:Le g (g.hid H L):=#[λa o z=>by rw[jg (by rw[z];simp),z],[],by simp[Gs.hid]]
theorem Hk.hid (q:Hk B g h H)(nf:∀o,H.get? L=ζ->NF o):Hk B (g.hid H L) h H:=by(have cs:∀{a r},(g.hid H L).G a=ϊ->Ϙ=ϊ\/(∃o,'H'=ζ/\((r=Zj/\a=L)\/r=Qo)):=λ{a r} z=>by by_cases n:Ϙ=rv;obtain⟨o,e⟩:=q.al a _ n;rw[lQ n e] at z;cases z;exact .inr #[o,e,by by_cases y:a=L<;>simp[y]];rw[jg n] at z;exact .inl z);refine q.go .hid rfl (λb r z y=>#[by rw[jg (by rw[z];obtain⟨i,y | y⟩:=y<;>subst y<;>simp),z],λ_ e=>e]) (λa o z=>?_) (λa o z=>?_) λa r z=>?_;rcases z with z | z<;>rcases cs z with y | ⟨o',e,⟨y,_⟩ | y⟩;exact q.st a o (.inl y);cases y;cases y;exact q.st a o (.inr y);cases y;cases y;exact e;rcases cs z with y | ⟨o',e,⟨y,rfl⟩ | y⟩;exact q.sl a o y;cases y;exact#[nf _ e,o.slots,e];cases y;rcases cs z with y | ⟨o,e,_⟩;exact q.al a r y;exact#[o,e]
theorem zW (e:Ϙ=rv):'J'.G a=rv:=by unfold Gs.back;dsimp only;rw[e]
theorem ky (n:Ϙ≠rv):'J'.G a=Pc:=by unfold Gs.back;dsimp only;split;rename_i e;exact absurd e n;rfl
theorem Iv.back (I:Iv X g ρ h s)(x:Gr [MO,s.heap] g')(q:Hk X.B g' h' s'.heap)(os:s'.os=s.os)(br:SS):Iv X 'J' ρ h' s'/\Gr g 'J':=by(have ol:∀{a},Ϙ=rv->∃o,MV=ζ/\Pc=se (if a=X.env.locals then Zj else Qo):=λ{a} z=>by obtain⟨o,e⟩:=[Q7,a,z];exact#[o,e,x.f _ _ (lQ z e) (.inl (by by_cases y:a=X.env.locals<;>simp[y,Ro.fix]))]);(have nl:∀{a r},Pc=ϊ->(∀o,r≠Zj)->(∀o,r≠Qo)->Ϙ≠rv:=λ{a r} z n1 n2 y=>by obtain⟨o,_,e⟩:=ol y;rw[z] at e;cases e;by_cases w:a=X.env.locals;rw[Ta w] at n1;exact n1 o rfl;rw[S9 w] at n2;exact n2 o rfl);have gr:Gr g 'J':=#[λa r z f=>by by_cases n:Ϙ=rv;rw[n] at z;cases z;exact zW n;rw[ky n];exact x.f a r (by rwa [jg n]) f,x.i];(have hk:Hk X.B 'J' h' s'.heap:=by refine q.go #[λa o z=>by rwa [ky (nl z (by simp) (by simp))],[],by simp[Gs.back]] rfl (λb r z y=>#[by rwa [ky (nl z (by obtain⟨i,y | y⟩:=y<;>subst y<;>simp) (by obtain⟨i,y | y⟩:=y<;>subst y<;>simp))],λ_ e=>e]) (λa o z=>?_) (λa o z=>?_) λa r z=>?_;(all_goals by_cases n:Ϙ=rv);rw[zW n] at z;rcases z with z | z<;>cases z;rw[ky n] at z;exact q.st a o z;rw[zW n] at z;cases z;rw[ky n] at z;exact q.sl a o z;obtain⟨o,_,e⟩:=ol n;exact q.al a _ e;rw[ky n] at z;exact q.al a r z);(have cl:∀{y c},RL=ϛ->∀{v},[KN,v]->s'.heap.IsCell c v:=λ{y c} e {v} #[o,ho,hd]=>by rcases(I.ce y c e).2 with z | ⟨⟨o',z⟩,_⟩;obtain⟨o',e1,e2⟩:=ol z;rw[S9 ME] at e2;rw[ho] at e1;cases e1;exact#[_,q.st c _ (.inr e2),hd];have e1:=[O1,c,o',z];rw[ho] at e1;cases e1;exact#[_,hk.st c _ (.inr (gr.f _ _ z lS)),hd]);refine#[#[I.ok,os.trans I.os,br,hk,λb o e=>gr.f _ _ (I.bs b o e) lS,λa r e f=>gr.f _ _ (I.kp a r e f) (.inl f),gr.ip I.ip,gr.f _ _ I.lf Kl,?_,λy c e=>?_,I.len],gr];obtain⟨m,⟨o,es,ep,ho,dd,r⟩,hl⟩:=I.lc;obtain⟨o',e1,e2⟩:=ol I.lf;rw[ho] at e1;cases e1;rw[Nk] at e2;obtain⟨_,sl,e3⟩:=q.sl _ _ e2;refine#[m,#[_,es,ep,e3,dd,r],λi y d e1 e2 e3=>?_];obtain⟨u,dq,l⟩:=hl i y d e1 e2 e3;refine#[u,gr.le.du dq,?_];rcases l with l | ⟨kk,c,e,z⟩;exact .inl l;exact .inr #[kk,c,e,cl e z];obtain⟨⟨v,z⟩,r⟩:=I.ce y c e;refine#[#[v,cl e z],?_];rcases r with r | ⟨⟨o,r⟩,f⟩;exact .inl (gr.f _ _ r Kl);exact .inr #[#[o,gr.f _ _ r lS],f]
end
structure QE (X:Cz)(e:TV)(f:RE):Prop where
 h:∀{pins ρ h ws s P},J X pins ρ h ws s->(f ρ h).sat P X.E->X.wp [Ϧ,e] (RP X pins ρ ws P) s
structure QA (X:Cz)(es:LI)(f:RA):Prop where
 h:∀{pos pins ρ h ws s P},J X pins ρ h ws s->(f ρ h).sat P X.E->X.wp (spliced (backTo pos [ϵ,es])) (AR X pins ρ ws P) s
structure QT (X:Cz)(e:TV)(f:RT):Prop where
 h:∀{pins ρ h ws s P},J X pins ρ h ws s->(f ρ h).sat P X.E->X.wp (isTrue e X.env [Ϧ,e]) (TR X pins ρ ws P) s
structure QW (X:Cz)(e:TV)(f:RT):Prop where
 h:∀{w pins ρ h ws s P},J X pins ρ h ws s->(f ρ h).sat P X.E->X.wp (isTrue e X.env w) (TR X pins ρ ws P) s
structure QS (X:Cz)(st:UW)(f:RS):Prop where
 h:∀{pins ρ h ws s P},J X pins ρ h ws s->(f ρ h).sat P X.E->X.wp (exec st X.env) (SR X pins ws P) s
structure QB (X:Cz)(st:List UW)(f:RS):Prop where
 h:∀{pins ρ h ws s P},J X pins ρ h ws s->(f ρ h).sat P X.E->X.wp (execs st X.env) (SR X pins ws P) s
class Xw (X:Cz) (op:CmpOp) (g:D->D->TH->ta):Prop where
 h:∀{pins ρ h ws s P x y u v},J X pins ρ h ((y,v)::(x,u)::ws) s->(g x y h).sat P X.E->X.wp (compareOp op u v) (RP X pins ρ ws P) s
class xaL (X:Cz) (op:Operator) (g:D->D->TH->ta):Prop where
 h:∀{pins ρ h ws s P x y u v},J X pins ρ h ((y,v)::(x,u)::ws) s->(g x y h).sat P X.E->X.wp (binaryOp op u v) (RP X pins ρ ws P) s
abbrev Gx (X:Cz)(v:Value)(g:θ->TH->ta):Prop:=∀{pins ρ h ws s P} {ds:List D} {us:List Value},ds.length=us.length->J X pins ρ h (Ϩ++ws) s->(g ds h).sat P X.E->X.wp (call v us) (RP X pins ρ ws P) s
class BOk (X:Cz) (x:To) (g:θ->TH->ta):Prop where
 ex:∃v,X.mg x=ng/\T9 x=se v/\((∃i,v=.builtin i)\/∃i,v=.type i)/\Gx X v g
noncomputable def bltN:μ:=["abs","all","any","bool","dict","enumerate","int","isinstance","len","list","max","min","range","reversed","set","sorted","str","sum","tuple","zip","ValueError"]
abbrev NAG (X:Cz)(x:To):Prop:=K4=se .globalImplicit
class Yx (X:Cz) (k:outParam Nat):Prop where
 room:UM k X.A
 calm:X.calm=tj
 blt:∀x∈bltN,X.mg x=ng
 nd:X.N.Nodup
 po:PassesOwn [Zh,X.B.w] X.A X.env X.xe
 xp:∀{g ρ h s e s'},Iv X g ρ h s->X.ER X.stack [MO,s.heap] s X.E e s'->X.xe e s'
 en:∀{st g s e s'},X.ER st g s (λ_ _=>False) e s'->False
 fld:∀c f,'9'.contains f=tj->ClsF X.B.C.K JK f
theorem Yx.no (Y:Yx X k)(x:To)(h:bltN.contains x=tj:=by decide +kernel):X.mg x=none:=Y.blt x (kY.mp h)
structure RCst (B:Cb)(mg:To->Hc)(base:TU)(x:To)(d:D):Prop where
 is:∃u,mg x=MT/\∀g:Gs,(∀b o,Rs=ζ->Ϝ=ND)->DU B g d u
section
variable {X:Cz}{k:Nat}{m:Bool}{a b c e:TV}{es rest:LI}{x y f:To}{pos p q:VX}{fa fb fc:RE}{fA:RA}{fT fU:RT}{g g':D->D->TH->ta}{i j:Nat}{iv:Int}{st:UW}{sts body WT:List UW}{fs fu:RS}
theorem J.inv (z:J X pins ρ h ws s):∃g,Iv X g ρ h s:=by cases z with | mk g I p W=>exact#[g,I]
theorem pL (z:J X pins ρ h ws s)(hg:NAG X x)(hm:X.mg x=MT)(q:Q u s)(hd:(x==("__debug__"))=fh):Tv [Zh,X.B.w] X.A [Ϧ,[QY,pos]] Q E s:=by obtain⟨g,I⟩:=z.inv;exact Calls.Name_function_global I.ok.kind hg (Calls.loadGlobal_global (by exact I.ok.glob▸'6') hm q) hd
theorem gZ (z:J X pins ρ h ws s)(hg:NAG X x)(hm:X.mg x=ng)(hv:T9 x=MT)(q:Q u s)(hn:x≠"__name__")(hd:(x==("__debug__"))=fh):Tv [Zh,X.B.w] X.A [Ϧ,[QY,pos]] Q E s:=by obtain⟨g,I⟩:=z.inv;obtain⟨mb,h1,h2⟩:=I.ok.mod.blt;exact Calls.Name_function_global I.ok.kind hg (Calls.loadGlobal_builtin (by exact I.ok.glob▸'6') hm (by exact I.ok.blt▸h1.keeps I.bk) ((h2 x hn).trans hv) q) hd
theorem q_v (hN:X.N[i]?=ω:=by rfl)(hv:Vis X.env.scope x:=by first |exact Or.inl rfl |exact r8 (Or.inl rfl) |exact r8 (r8 rfl))(hd:(x==("__debug__"))=fh:=by decide)(hcd:(x==("__classdict__"))=fh:=by decide):QE X [QY,pos] (rV i):=#[λz q=>by cases z with | mk g I p W =>unfold rV at q;split at q;rename_i v e;rw[aX] at e;obtain⟨m,hn,hl⟩:=I.lc;obtain⟨u,r,l⟩:=hl i x v hN e hv;have fin:RP X _ _ _ _ u _:=#[v,_,#[g,I,p,λw' z=>by rcases 'B' with rfl | z;exact r;exact W w' z],q];rcases l with ⟨hk,hm⟩ | ⟨hk | hk,c,hc,hcell⟩;exact wpAny_Name (wpAny_loadName_local I.ok.kind hk hn hm fin) hd;exact wpAny_Name (wpAny_loadName_cell I.ok.kind hk hc hcell fin) hd;exact wpAny_Name (wpAny_loadName_free I.ok.kind hk hc hcell fin hcd) hd;exact q.elim]
theorem zX:QE X (.Constant (.int iv) j pos) [΢,iv]:=#[λz q=>wpAny_Constant_int (z.gint q)]
theorem zb5:QE X (.Constant (.bool m) j pos) (rC (.bl m)):=#[λz q=>Constant_bool (z.gbl q)]
theorem zd8:QE X (.Constant .none j pos) Ss:=#[λz q=>Constant_none (z.gnon q)]
theorem zcc:QE X (.Constant Ϯ j pos) (rC Ϯ):=#[λz q=>Calls.Constant_str (z.gstr q)]
theorem OL (h:RCst X.B X.mg X.base x d:=by assumption)(hg:NAG X x:=by rfl)(hd:(x==("__debug__"))=fh:=by decide):QE X [QY,pos] (rC d):=#[λz q=>by obtain⟨u,h1,h3⟩:=h.is;refine pL z hg h1 #[_,_,?_,q] hd;cases z with | mk g I p W=>exact#[g,I,p,λw z=>by rcases 'B' with rfl | z;exact h3 g I.bs;exact W w z]]
theorem ON [B:xaL X op g] (ha:QE X a fa)(hb:QE X b fb):QE X (.BinOp a op b pos) (TP g fa fb):=#[λz q=>wpAny_BinOp (Uy [CX,z] λ_ _ #[_,_,z,q]=>Uy (hb.h z q.bnd) λ_ _ #[_,_,z,q]=>B.h z q)]
theorem zeA [B:Xw X op g] (ha:QE X a fa)(hb:QE X b fb)(hm:behindInMarks op b=fh:=by rfl):QE X (.Compare a [op] [b] pos) (TP g fa fb):=#[λz q=>wpAny_Compare1 (Uy [CX,z] λ_ _ #[_,_,z,q]=>Uy (hb.h z q.bnd) λ_ _ #[_,_,z,q]=>B.h z q) hm]
theorem Gy (t:RP X pins ρ ws (λx h=>(match x with | .bl b=>.ok b h| _=>.no:RX.R Bool).sat P (X.E)) u s):X.wp (truthy u) (TR X pins ρ ws P) s:=by obtain⟨d,h,z,q⟩:=t;split at q;cases z.bl;exact UC #[_,z.tl,q];exact q.elim
theorem zci [B:Xw X op g] (ha:QE X a fa)(hb:QE X b fb)(hm:behindInMarks op b=fh:=by rfl):QT X (.Compare a [op] [b] pos) [τ,g,fa,fb]:=#[λz q=>wpAny_isTrue_Compare1 (Uy (ha.h z q.bnd.bnd) λ_ _ #[_,_,z,q]=>Uy (hb.h z q.bnd) λ_ _ #[_,_,z,q]=>Uy (B.h z q) λ_ _=>Gy) hm]
theorem zaz [B:Xw X op g] [B':Xw X op' g'] (ha:QE X a fa)(hb:QE X b fb)(hc:QE X c fc)(hm:lastMarks [op,op'] [b,c]=fh:=by with_unfolding_all rfl):QE X (.Compare a [op,op'] [b,c] pos) (xav g g' fa fb fc):=#[λ{pins ρ h ws s P} z q =>Compare_chain (Uy [CX,z] λ_ _ #[_,_,z,q]=>chain_link (Uy (hb.h z q.bnd) λv _ #[y,_,z,q]=>Uy (B.h (ws:=(y,v)::ws) (z.sub ε) q.bnd) λ_ _ #[_,_,z,q]=>by split at q;rename_i k;cases z.bl;refine UC ?_;(cases k with| false=>exact ite_ff (z.tl.tl.gbl q)| true=>exact ite_tt (chain_last (Uy (hc.h z.tl q.bnd) λ_ _ #[_,_,z,q]=>B'.h z q)));exact q.elim)) hm]
theorem OT (ha:QE X a fa):QE X (.UnaryOp .USub a pos) (rUn xaG fa):=#[λz q=>UnaryOp_ (Uy [CX,z] λ_ _ #[_,_,z,q]=>by unfold xaG at q;split at q;obtain⟨t,rfl⟩:=z.int;exact neg_int (z.tl.gint q);exact q.elim)]
theorem zcg (ha:QE X a fa):QE X (.UnaryOp .Not a pos) (rNotV fa):=#[λz q=>UnaryOp_ (Uy [CX,z] λ_ _ #[_,_,z,q]=>by split at q;cases z.bl;exact not_of (UC (z.tl.gbl q));exact q.elim)]
theorem zfo (ha:QE X a fa)(hb:QE X [Sc,.And,b::rest] fb):QE X [Sc,.And,a::b::rest] (Wa fa fb):=#[λz q=>BoolOp_and (Uy [CX,z] λ_ _ #[_,_,z,q]=>by split at q;rename_i k;cases z.bl;refine UC ?_;(cases k with| true=>exact hb.h z.tl q| false=>exact z.tl.gbl q);exact q.elim)]
theorem OW (ha:QE X a fa)(hb:QE X [Sc,.Or,b::rest] fb):QE X [Sc,.Or,a::b::rest] (xaS fa fb):=#[λz q=>BoolOp_or (Uy [CX,z] λ_ _ #[_,_,z,q]=>by split at q;rename_i k;cases z.bl;refine UC ?_;(cases k with| false=>exact hb.h z.tl q| true=>exact z.tl.gbl q);exact q.elim)]
theorem OX (hc:QT X c fT)(ha:QE X a fa)(hb:QE X b fb):QE X (.IfExp c a b pos) (rIf fT fa fb):=#[λz q=>wpAny_IfExp (Uy (hc.h z q.bnd) λd _ #[_,z,q]=>by cases d with| true=>exact ha.h z q| false=>exact hb.h z q)]
theorem OY (ha:QE X e fa)(he:∀whole,isTrue e X.env whole=(do let v <-whole;standAt e.pos;holding [v] (truthy v)):=by intro _;rfl):QT X e (TJ fa):=#[λz q=>isTrue_plain (Uy [CX,z] λ_ _=>Gy) (he _)]
theorem OZ (ha:QT X a fT):QT X (.UnaryOp .Not a pos) (WV fT):=#[λz q=>isTrue_not (Uy [CX,z] λ_ _ #[_,z,q]=>#[_,z,q])]
theorem Gz (ha:QT X a fT)(hb:QW X [Sc,.And,b::rest] fU):QW X [Sc,.And,a::b::rest] (YC fT fU):=#[λz q=>isTrue_and (Uy [CX,z] λk _ #[_,z,q]=>by cases k with| true=>exact hb.h z q| false=>exact#[_,z,q])]
theorem GA (ha:QT X a fT)(hb:QW X [Sc,.Or,b::rest] fU):QW X [Sc,.Or,a::b::rest] (rOr fT fU):=#[λz q=>isTrue_or (Uy [CX,z] λk _ #[_,z,q]=>by cases k with| false=>exact hb.h z q| true=>exact#[_,z,q])]
theorem O0 (h:QE X a fa):QE X [Sc,op,[a]] fa:=#[λz q=>BoolOp_one (h.h z q)]
theorem GC (h:QW X a fT):QT X a fT:=#[h.h]
theorem zdY (h:QT X a fT):QW X [Sc,.And,[a]] fT:=#[λz q=>isTrue_and (Uy (h.h z q) λk _ t=>by cases k with| true=>exact isTrue_and_nil t| false=>exact t)]
theorem O2 (h:QT X a fT):QW X [Sc,.Or,[a]] fT:=#[λz q=>isTrue_or (Uy (h.h z q) λk _ t=>by cases k with| false=>exact isTrue_or_nil t| true=>exact t)]
theorem rx:QA X [] Tk:=#[λz q=>Calls.spliced_nil #[[],_,rfl,z,q]]
theorem tS (ha:QE X e fa)(hr:QA X es fA)(hs:[ϵ,e::es]=(fh,[Ϧ,e])::[ϵ,es]:=by rfl):QA X (e::es) (Tg fa fA):=#[λ{pos} {pins} {ρ} {h} {ws} {s} {P} z q=>by exact hs▸[Nu,[CX,z],λ_ _ #[_,_,z,q]=>Uy (hr.h z q.bnd) λ_ _ #[ds,_,l,z,q]=>#[_::ds,_,by simp[l],z.sub (by simp +contextual [or_imp]),q]]]
theorem zfh:QS X st Wu:=#[λ_ q=>q.elim]
theorem O4:QB X [] TY:=#[λz q=>Vi #[_,_,z,q]]
theorem GD (h:QS X st fs):QB X [st] fs:=#[λz q=>X2 (Uy (h.h z q) λf _ t=>by cases f with| next=>exact Vi t| ret v=>exact t| brk=>exact t| cont=>exact t)]
theorem O5 (h:QS X st fs)(h2:QB X sts fu):QB X (st::sts) (Ts fs fu):=#[λz q=>X2 (Uy (h.h z q.bnd) λf _ t=>by cases f with| next=>obtain⟨_,_,z,q⟩:=t;exact h2.h z q| ret v=>exact t| brk=>exact t| cont=>exact t)]
theorem O6 (h:QE X e fa)(hs:VU e ng pos.line X.env=Sj:=by rfl):QS X (.Expr e pos) (Xx fa):=#[λz q=>by obtain⟨_,I⟩:=z.inv;exact wpAny_Expr_any (Uy (h.h z q.bnd) λ_ _ #[_,_,z,q]=>#[_,_,z.tl,q]) (by simp[interactive,I.ok.kind]) hs]
theorem zfu (h:QE X e fa):QS X (.Return (se e) pos) (TN fa):=#[λz q=>wpAny_Return_some (Uy (h.h z q.bnd) λ_ _ #[_,_,z,q]=>#[_,_,_,z,q])]
theorem O8 (hc:QT X c fT)(ha:QB X body fs)(hb:QB X WT fu):QS X (.If c body WT pos) (Uc fT fs fu):=#[λz q=>wpAny_If (Uy (hc.h z q.bnd) λd _ #[_,z,q]=>by cases d with| true=>exact ha.h z q| false=>exact hb.h z q)]
end
inductive OS (X:Cz) (pins:List (Tn×UK)) (ρ:Ul) (h:TH) (ws:WL) (s:Tj) (φ:Tn->Ϛ->Prop) (ds:θ) (u:Value):Prop
 | mk (a:Tn) (us:Ϛ) (e:u=ψ) (l:ds.length=us.length) (z:us.length<=sizeLine) (f:φ a us) (j:J X pins ρ h (Ϩ++ws) s)
section
variable {X:Cz}{g g':Gs}{ρ:Ul}{h:TH}{s:Tj}{H H':TU}{pins:List (Tn×UK)}{ws ws':WL}{a b:Tn}{o:UK}{d x:D}{u:Value}{ds ds':θ}{us us':Ϛ}{P:D->TH->Prop}{k i c n t:Nat}{m:Bool}{ks:Ϟ}
@[elab_as_elim] theorem zY {α β:Type}{M:ϐ->QX->Prop}(nil:M [] [])(cons:∀a as b bs,as.length=bs.length->M as bs->M (a::as) (b::bs)){as bs}(l:as.length=bs.length):M as bs:=by revert bs;induction as with| nil=>(intro bs l;cases bs with| nil=>exact nil| cons _ _=>cases l)| cons a as ih=>intro bs l;cases bs with| nil=>cases l| cons b bs=>exact cons a as b bs (lh l) (ih (lh l))
@[elab_as_elim] theorem wG {α β γ:Type}{M:ϐ->QX->Tm->Prop}(nil:M [] [] [])(cons:∀a as b bs c cs,as.length=bs.length->bs.length=cs.length->M as bs cs->M (a::as) (b::bs) (c::cs)){as bs cs}(l:as.length=bs.length)(l2:bs.length=cs.length):M as bs cs:=by refine@zY α β (λas bs=>∀cs,bs.length=cs.length->M as bs cs) (λcs e=>?_) (λa as b bs l ih cs e=>?_) as bs l cs l2;(cases cs with| nil=>exact nil| cons _ _=>cases e);cases cs with| nil=>cases e| cons c cs=>exact cons a as b bs c cs l (lh e) (ih cs (lh e))
theorem RP.tl (r:RP X pins ρ (w::ws) P u s):RP X pins ρ ws P u s:=by cases r with | mk d h j p=>exact#[d,h,j.sub (by simp +contextual),p]
theorem ig:s.heap.get? s.heap.objs.size=none:=Heap.get?_none_of_le ϱ
theorem jW (A:cI B g ws)(W:cI B g ws'):cI B g (ws++ws'):=λw z=>(dh.mp z).elim (A w) (W w)
theorem pM (q:DU B g d u)(W:cI B g ws):cI B g ((d,u)::ws):=λw z=>'B'.elim (λe=>e▸q) (W w)
theorem J.opS (j:J X pins ρ h ws s)(m:(x,u)∈ws)(e:eS h x=bj):OS X pins ρ h ws s (λa us=>bif ϴ then IsTup s.heap a us.toArray else∃n,MV=se (Xy us n)) ds u:=by cases j with | mk g I p W =>have q:=W _ m;unfold eS at e;split at e;cases e;(cases q with | tup f l z A=>obtain⟨o,e,f⟩:=f;exact#[_,_,rfl,l,z,f _ [Re,_,_,e],g,I,p,jW A W]);cases e;(cases q with | lst f l z A=>exact#[_,_,rfl,l,z,#[_,[Re,_,_,f]],g,I,p,jW A W]);(cases q with | at_ e0 =>split at e;rename_i e1;cases e;rw[aX] at e1;(cases[Kw,_,_,_,e1]with | ml r e l z A=>exact#[_,_,rfl,l,z,#[_,e],g,I,p,jW A W]);rename_i e1;cases e;rw[aX] at e1;(cases[Kw,_,_,_,e1]with | mr f l z A=>exact#[_,_,rfl,by simpa using l,z,#[_,[Re,_,_,f]],g,I,p,jW (λw q=>by rw[rR] at q;obtain⟨y,y1,rfl⟩:=aU.mp q;obtain⟨t,e⟩:=A y y1;exact e▸.int) W]);cases e);cases e
theorem zej (e:eL h x=bj):eS h x=bj/\ϴ=fh:=by unfold eL at e;unfold eS;split at e;exact#[e,rfl];split at e;rename_i e1;dsimp only;exact e1▸#[e,rfl];cases e;cases e
theorem J.opL (j:J X pins ρ h ws s)(m:(x,u)∈ws)(e:eL h x=bj):OS X pins ρ h ws s (λa us=>∃n,MV=se (Xy us n)) ds u:=by obtain⟨e1,e2⟩:=zej e;obtain⟨a,us,e,l,z,f,j⟩:=j.opS m e1;rw[e2] at f;exact#[a,us,e,l,z,f,j]
theorem J.opD (j:J X pins ρ h ws s)(m:(x,u)∈ws)(e:eK h x=se (ks,ds)):ks.length=ds.length/\OS X pins ρ h ws s (λa us=>(a==Vv)=fh/\s.heap.DictOf [MI,X.B.w] a 'C') ds u:=by cases j with | mk g I p W =>have q:=W _ m;unfold eK at e;split at e;cases e;(cases q with | dic f n k l z A=>obtain⟨o,e,f⟩:=f;exact#[k,_,_,rfl,l,z,#[n,f _ [Re,_,_,e]],g,I,p,jW A W]);(cases q with | at_ e0 =>split at e;rename_i e1;cases e;rw[aX] at e1;(cases[Kw,_,_,_,e1]with | md r e n k l z A=>exact#[k,_,_,rfl,l,z,#[n,e],g,I,p,jW A W]);cases e);cases e
theorem GE (I:Iv X g ρ h s)(p:∀p∈pins,g.G p.1=[gV,p.2])(W:cI X.B g (ws'++ws))(n:Ϙ=ng)(k:∀b o,ϧ=ζ->'0'=ζ)(e:Lz=ζ)(mk:∀g,cI X.B g ws'->Ϙ=ND->DU X.B g d ψ)(t:Nat):J X pins ρ h ((d,ψ)::ws) { s with heap:=H',toks:=t}:=by have x:=Gr.upd (r:=ND) n;refine J.via I p x (I.hk.dat n k e) (λb o _=>k b o) (pM (mk _ (x.le.held λw z=>W w (df _ z)) Gs.upd_same) (x.le.held λw z=>W w (dG _ z))) t
theorem J.dat (j:J X pins ρ h (ws'++ws) s)(n:MV=ng)(k:∀b o,ϧ=ζ->'0'=ζ)(e:Lz=ζ)(mk:∀g,cI X.B g ws'->Ϙ=ND->DU X.B g d ψ)(t:Nat):J X pins ρ h ((d,ψ)::ws) { s with heap:=H',toks:=t}:=by cases j with | mk g I p W=>exact GE I p W (I.hk.fresh n) k e mk t
theorem tU (I:Iv X g ρ h s)(p:∀p∈pins,g.G p.1=[gV,p.2])(W:cI X.B g (ws'++ws))(as:LM)(n:∀b∈as,Ϝ=ng)(k:∀b o,ϧ=ζ->'0'=ζ)(al:∀b∈as,∃o,'0'=ζ) (mk:∀g',Le g g'->cI X.B g' ws'->(∀b∈as,Ku=M5)->Th X.B g' H' h.length a tm) (t:Nat):J X pins ρ (h++[tm]) ((.at h.length,ψ)::ws) { s with heap:=H',toks:=t}:=by(obtain⟨x,q⟩:=(I.hk.kept k).mut as n al λg' e _ x=>mk g' x (x.held λw z=>W w (df _ z)) λb z=>by exact e▸LN);refine J.via I p #[λb r z _=>?_,_,rfl] q (λb o _=>k b o) (pM (.at_ (by exact I.hk.len▸w5)) (x.held λw z=>W w (dG _ z))) t;show(if b∈as then _ else _)=_;rw[S9 λy=>by rw[n b y] at z;cases z];exact z
theorem J.mut (j:J X pins ρ h (ws'++ws) s)(as:LM)(n:∀b∈as,ϧ=ng)(k:∀b o,ϧ=ζ->'0'=ζ)(al:∀b∈as,∃o,'0'=ζ) (mk:∀g,cI X.B g ws'->(∀b∈as,Ϝ=M5)->Th X.B g H' h.length a tm) (t:Nat):J X pins ρ (h++[tm]) ((.at h.length,ψ)::ws) { s with heap:=H',toks:=t}:=by cases j with | mk g I p W=>exact tU I p W as (λb z=>I.hk.fresh (n b z)) k al (λg _=>mk g) t
theorem zZ (I:Iv X g ρ h s)(p:∀p∈pins,g.G p.1=[gV,p.2])(W:cI X.B g (Ϩ++ws))(l:ds.length=us.length)(z:us.length<=sizeLine)(n:Ϙ=ng)(k:∀b o,ϧ=ζ->'0'=ζ)(e:Lz=se (Xy us c))(q:(RX.mk m ds h).sat P E)(t:Nat):RP X pins ρ ws P ψ { s with heap:=H',toks:=t}:=by unfold RX.mk at q;cases m with| false=>exact#[_,_,GE I p W n k e (λg A r=>.lst r l z A) t,q]| true =>rw[show Id=h.length from aW h,show hp h (.ml ds)=h++[.ml ds]from gj _ _] at q;exact#[_,_,tU I p W [a] (by simpa using n) k (by simpa using #[_,e]) (λg _ A r=>.ml (r a (by simp)) e l z A) t,q]
theorem J.mkL (j:J X pins ρ h (Ϩ++ws) s)(l:ds.length=us.length)(z:us.length<=sizeLine)(n:MV=ng)(k:∀b o,ϧ=ζ->'0'=ζ)(e:Lz=se (Xy us c))(q:(RX.mk m ds h).sat P E)(t:Nat):RP X pins ρ ws P ψ { s with heap:=H',toks:=t}:=by cases j with | mk g I p W=>exact zZ I p W l z (I.hk.fresh n) k e q t
theorem J.pushL (j:J X pins ρ h (Ϩ++ws) s)(l:ds.length=us.length)(z:us.length<=sizeLine)(q:(RX.mk m ds h).sat P E)(t:Nat):RP X pins ρ ws P VK { s with heap:=s.heap.push (Xy us c),toks:=t} :=j.mkL l z ig (λ_ _=>Heap.get?_push_of_some _) (Heap.get?_push_size _ rfl) q t
theorem J.mkD (j:J X pins ρ h (Ϩ++ws) s)(kl:ks.length=ds.length)(l:ds.length=us.length)(z:us.length<=sizeLine)(n:MV=ng)(k:∀b o,ϧ=ζ->'0'=ζ)(ns:(a==Vv)=fh)(e:H'.DictOf [MI,X.B.w] a 'C')(q:(mkD m ks ds h).sat P E)(t:Nat):RP X pins ρ ws P ψ { s with heap:=H',toks:=t}:=by unfold RX.mkD at q;obtain⟨o,es,ep,e1,e2⟩:=id e;cases m with| false=>exact#[_,_,j.dat n k e1 (λg A r=>.dic #[_,r,λ_ e=>#[o,es,ep,e,e2]] ns kl l z A) t,q]| true =>rw[show Id=h.length from aW h,show hp h (.md ks ds)=h++[.md ks ds]from gj _ _] at q;exact#[_,_,j.mut [a] (by simpa using n) k (by simpa using #[_,e1]) (λg A r=>.md (r a (by simp)) e ns kl l z A) t,q]
theorem J.set (j:J X pins ρ h ws s)(m:(.at i,ψ)∈ws)(r:∀g,Hk X.B g h s.heap->g.ι[i]?=Ϸ->Ϙ=Sf)(k:∀b o,b≠a->ϧ=ζ->'0'=ζ)(e:∃o,Lz=ζ)(new:∀g,cI X.B g ws->Ϙ=Sf->Th X.B g H' i a tm)(t:Nat) :J X pins ρ [ϭ,tm] ws { s with heap:=H',toks:=t}:=by cases j with | mk g I p W =>cases W _ m with | at_ e0 =>have r0:=r g I.hk e0;refine J.via I p .refl (I.hk.set (λb o z=>k b o (by rintro rfl;exact z r0)) (λb z=>?_) λa' e1=>?_) (λb o z=>k b o (by rintro rfl;rw[r0] at z;cases z)) W t;by_cases n:b=a;subst n;exact e;obtain⟨o,e⟩:=[Q7,b,z];exact#[o,k b o n e];rw[e0] at e1;cases e1;exact new g W r0
theorem ze7 (e:h[i]?=[ϓ,ds])(g:Gs)(q:Hk B g h H)(e0:g.ι[i]?=Ϸ):Ϙ=Sf:=by cases q.th _ _ _ e e0 with | ml r _ _ _ _=>exact r
theorem tV (e:h[i]?=se (.md ks ds))(g:Gs)(q:Hk B g h H)(e0:g.ι[i]?=Ϸ):Ϙ=Sf:=by cases q.th _ _ _ e e0 with | md r _ _ _ _ _ _=>exact r
inductive OM (X:Cz) (pins:List (Tn×UK)) (ρ:Ul) (h:TH) (ws:WL) (s:Tj) (φ:Tn->Ϛ->Prop) (i:Nat) (tm:TM) (x:D) (ds:θ) (u:Value):Prop
 | mk (a:Tn) (us:Ϛ) (ex:x=.at i) (e:u=ψ) (eh:h[i]?=se tm) (l:ds.length=us.length) (z:us.length<=sizeLine) (f:φ a us) (j:J X pins ρ h (Ϩ++ws) s)
theorem J.opM (j:J X pins ρ h ws s)(m:(x,u)∈ws)(e:XX h x=se (i,ds)):OM X pins ρ h ws s (λa us=>∃n,MV=se (Xy us n)) i (.ml ds) x ds u:=by unfold XX at e;split at e;split at e;rename_i e1;cases e;rw[aX] at e1;(cases j with | mk g I p W =>cases W _ m with | at_ e0 =>cases[Kw,_,_,_,e1]with | ml r e l z A=>exact#[_,_,rfl,rfl,e1,l,z,#[_,e],g,I,p,jW A W]);cases e;cases e
theorem J.opMd (j:J X pins ρ h ws s)(m:(x,u)∈ws)(e:eMd h x=se (i,ks,ds)):ks.length=ds.length/\OM X pins ρ h ws s (λa us=>(a==Vv)=fh/\s.heap.DictOf [MI,X.B.w] a 'C') i (.md ks ds) x ds u:=by unfold eMd at e;split at e;split at e;rename_i e1;cases e;rw[aX] at e1;(cases j with | mk g I p W =>cases W _ m with | at_ e0 =>cases[Kw,_,_,_,e1]with | md r e n k l z A=>exact#[k,_,_,rfl,rfl,e1,l,z,#[n,e],g,I,p,jW A W]);cases e;cases e
theorem J.setL (j:J X pins ρ h ws s)(m:(.at i,ψ)∈ws)(eh:h[i]?=[ϓ,ds])(k:∀b o,b≠a->ϧ=ζ->'0'=ζ)(e:Lz=se (Xy us' n))(l:ds'.length=us'.length)(z:us'.length<=sizeLine)(sub:∀w∈JI,w∈ws)(t:Nat) :J X pins ρ (hs h i (.ml ds')) ws { s with heap:=H',toks:=t}:=by rw[show hs h i (.ml ds')=[ϭ,.ml ds']from eI _ _ _];exact j.set m (ze7 eh) k #[_,e] (λg W r=>.ml r e l z λw q=>W w (sub w q)) t
theorem J.setD (j:J X pins ρ h ws s)(m:(.at i,ψ)∈ws)(eh:h[i]?=se (.md ks ds))(k:∀b o,b≠a->ϧ=ζ->'0'=ζ)(ns:(a==Vv)=fh)(e:H'.DictOf [MI,X.B.w] a (ks'.zip us'))(kl:ks'.length=ds'.length)(l:ds'.length=us'.length)(z:us'.length<=sizeLine)(sub:∀w∈JI,w∈ws)(t:Nat) :J X pins ρ (hs h i (.md ks' ds')) ws { s with heap:=H',toks:=t}:=by rw[show hs h i (.md ks' ds')=[ϭ,.md ks' ds']from eI _ _ _];obtain⟨o,es,ep,e1,e2⟩:=id e;exact j.set m (tV eh) k #[_,e1] (λg W r=>.md r e ns kl l z λw q=>W w (sub w q)) t
theorem J.frz (j:J X pins ρ h ws s)(m:(x,u)∈ws)(e:eMd h x=se (i,ks,ds)):J X pins ρ (hs h i .no) ((.dic ks ds,u)::ws) s:=by obtain⟨kl,a,us,rfl,rfl,eh,l,z,⟨ns,dd⟩,j⟩:=j.opMd m e;obtain⟨o,es,ep,e1,e2⟩:=id dd;cases j with | mk g I p W =>cases W _ (dG _ m)with | at_ e0 =>obtain⟨x,q⟩:=I.hk.gone e1 (tV eh g I.hk e0);rw[show hs h i .no=[ϭ,.no]from eI _ _ _];exact J.via (t:=s.toks) I p #[λb r z f=>by(have n:b≠a:=by rintro rfl;rw[tV eh g I.hk e0] at z;cases z;rcases f with f | f<;>cases f);rwa [OH],x.i] q (λ_ _ _ e=>e) (pM (.dic #[o,Gs.upd_same,λ_ e=>#[o,es,ep,e,e2]] ns kl l z (x.held λw z=>W w (df _ z))) (x.held λw z=>W w (dG _ z)))
end
section
variable {X:Cz}{ρ:Ul}{h:TH}{s:Tj}{pins:List (Tn×UK)}{ws:WL}{d x y:D}{u v:Value}{ds:θ}{us:Ϛ}{P:D->TH->Prop}{k i n:Nat}{m:Bool}
inductive TI (p:Int->Int->Bool) (Q:Int->Int->Prop) (u v:Value):Prop
 | mk (i k:Int) (t t':Nat) (e:u=.int i t) (e':v=.int k t') (b:p i k=tj) (q:Q i k)
theorem pN (j:J X pins ρ h ((y,v)::(x,u)::ws) s)(q:(gI p g x y h).sat P E):TI p (λi k=>P (g i k) h) u v:=by unfold gI at q;split at q;obtain⟨t,rfl⟩:=j.int;obtain⟨t',rfl⟩:=j.tl.int;obtain⟨e,q⟩:=q.i;exact#[_,_,t',t,rfl,rfl,e,q];exact q.elim
instance:xaL X .Sub Z6:=#[λj q=>by obtain⟨i,k,t,t',rfl,rfl,_,q⟩:=pN j q;exact PyProof.Rows.sub_int NT]
instance:xaL X .FloorDiv Xk:=#[λj q=>by obtain⟨i,k,t,t',rfl,rfl,e,q⟩:=pN j q;unfold pDiv at e;rw[cC,cF,lF] at e;exact floordiv_int ε NT (.inl (PyProof.noPylong_of_log2 e.2))]
instance:xaL X .Mod VG:=#[λj q=>by obtain⟨i,k,t,t',rfl,rfl,e,q⟩:=pN j q;unfold xb7 at e;rw[gX,decide_eq_true_iff] at e;exact mod_int' (by exact dF e) (by exact(Int.fmod_eq_emod_of_nonneg i (by exact cE e))▸NT)]
instance:xaL X .Pow gPow:=#[λj q=>by obtain⟨i,k,t,t',rfl,rfl,e,q⟩:=pN j q;obtain⟨h1,h2⟩:=KC e;refine pow_int h1 h2 ?_;rw[show k.toNat=k.natAbs by lia];exact NT]
instance:Xw X .Lt gLt:=#[λj q=>by obtain⟨i,k,t,t',rfl,rfl,e,q⟩:=pN j q;rw[gX] at q;exact BS Kq]
instance:Xw X .Gt gGt:=#[λj q=>by obtain⟨i,k,t,t',rfl,rfl,e,q⟩:=pN j q;rw[gX] at q;exact PyProof.Rows.gt_int Kq]
instance:Xw X .GtE gGe:=#[λj q=>by obtain⟨i,k,t,t',rfl,rfl,e,q⟩:=pN j q;refine PyProof.Rows.ge_int (j.tl.tl.gbl ?_);rwa [show decide (k<=i)=! iLt i k by rw[gX,gb];simp]]
instance:Xw X .LtE gLe:=#[λj q=>by unfold gLe at q;split at q;obtain⟨t,rfl⟩:=j.int;obtain⟨t',rfl⟩:=j.tl.int;refine PyProof.Rows.le_int (j.tl.tl.gbl ?_);rename_i i k;rwa [show decide (i<=k)=! iLt k i by rw[gX,gb];simp];obtain⟨t,rfl⟩:=j.str;obtain⟨t',rfl⟩:=j.tl.str;rw[DG] at q;exact PySem.P.le_str Kq;exact q.elim]
theorem GF (q:DU B g d u):(u==.none)=isN d:=by cases q<;>rfl
instance:Xw X .Is (gIs fh):=#[λj q=>by unfold gIs at q;split at q;obtain⟨_,_,r⟩:=j.tl.at aR;cases j.non;rw[mW,<-GF r] at q;exact is_none_gen Kq;exact q.elim]
instance:Xw X .IsNot (gIs tj):=#[λj q=>by unfold gIs at q;split at q;obtain⟨_,_,r⟩:=j.tl.at aR;cases j.non;rw[wY,<-GF r] at q;exact isnot_none_gen Kq;exact q.elim]
instance:xaL X .Add (VD m):=#[λ{pins ρ h ws s P x y u v} j q=>by unfold VD at q;split at q;obtain⟨t,rfl⟩:=j.int;obtain⟨t',rfl⟩:=j.tl.int;exact PyProof.Rows.add_int NT;rename_i a b;obtain⟨t,rfl⟩:=j.str;obtain⟨t',rfl⟩:=j.tl.str;obtain⟨e,q⟩:=q.i;rw[dH,aW,aW] at e;rw[zeP] at q;exact add_str (λt' tk=>J.gstr j.tl.tl q) (by rw[Vc];simpa [Str.length] using e);obtain⟨ds,e1,q⟩:=q.o;obtain⟨es,e2,q⟩:=q.o;obtain⟨e,q⟩:=q.i;rw[dH,aW,aW] at e;rw[gj] at q;obtain⟨b,vs,rfl,l2,z2,⟨n2,f2⟩,j⟩:=j.opL aR e2;obtain⟨a,us,rfl,l1,z1,⟨n1,f1⟩,j⟩:=j.opL (dG _ (a7 _ aR)) e1;(have hz:(us++vs).length<=sizeLine:=by exact eE▸l1▸l2▸e);rw[<-eF,<-nH l1] at j;refine PySem.P.add_list f1 f2 ?_ (by simpa using hz);rw[show us.toArray++vs.toArray=(us++vs).toArray by simp];exact(j.pushL (by simp[l1,l2]) hz q _).tl.tl]
theorem Pb:∀n,(List.replicate n d).zip (bh n u)=bh n (d,u):=by intro n;induction n with| zero =>exact rfl| succ n ih =>simp[oU,ih]
theorem mul_list {k:Int}(e:RW=se (Xy cJ n))(hz:cJ.length*k.toNat<=sizeLine)(h1:-(2^63)<=k)(h2:k<2^63) (q:Q VK { s with heap:=s.heap.push (Xy (bh k.toNat cJ).flatten 0)}):Tv [ϑ,w] A (binaryOp .Mult Qg (.int k t)) Q E s:=by(have eN:cJ.toArray.size*k.toNat<=sizeLine:=by rwa [hV]);(have hcap:¬cJ.toArray.size*k.toNat>(2^63-1)/8:=by(have:sizeLine<=(2^63-1)/8:=by decide);lia);refine wpAny_binaryOp_repeat_ref (by decide) #[_,e,rfl] (λs'=>typeIs_int s' k t) noFill_list_mul F.fills_int_mul F.slot_int_rmul repeat_list F.slot_int_index.lookup (Vy F.slot_int_rmul (typeIs_int s k t) F.entry_int_rmul (F.args_int_rmul_2 _ _) (int___rmul___int_list k t l cJ.toArray n) #[e,rfl,#[_,e,rfl],Vy F.slot_list_mul #[_,e,rfl] F.entry_list_mul (F.args_list_mul_2 _ _) (AutoListH.list___mul___list_int_3 l cJ.toArray n k t (by rw[fitsIndex_both h1 h2];exact rG) hcap (by rw[CD eN];exact rG)) #[e,?_]]);(have f0:=λm=>by exact foldl_rep cJ m []);rw[f0,show(bh (if cJ.toArray.isEmpty=tj then 0 else k.toNat) cJ).flatten=(bh k.toNat cJ).flatten by cases cJ<;>simp];exact q
instance:xaL X .Mult (V0 m):=#[λ{pins ρ h ws s P x y u v} j q=>by unfold V0 at q;split at q;obtain⟨t,rfl⟩:=j.int;obtain⟨t',rfl⟩:=j.tl.int;obtain⟨e,q⟩:=q.i;unfold pMul at e;rw[cC,cF,cF] at e;exact PyProof.Rows.mul_int NT (zdQ e.1 e.2 (by decide));rename_i n _;obtain⟨ds,e1,q⟩:=q.o;split at q;rename_i d;obtain⟨eb,q⟩:=q.i;rw[dH] at eb;rw[DF] at q;obtain⟨t,rfl⟩:=j.int;obtain⟨l,us,rfl,l1,z1,⟨n1,e⟩,j⟩:=j.opL (a7 _ aR) e1;obtain⟨u,rfl⟩:∃u,us=[u]:=w9.mp l1.symm;(have sz:n<=sizeLine:=by exact Vc▸eb);refine mul_list e (by simpa using sz) ε (by rw[Vc] at sz;lia) ?_;rw[show((rJ n).toNat)=n from rfl,KB];exact(J.sub (ws':=(bh n d).zip (bh n u)++ws) j (by rw[Pb];simp +contextual [List.mem_replicate,or_imp])).pushL (by simp) (by simpa using sz) q _;exact q.elim;exact q.elim]
end
section
variable {X:Cz}{B:Cb}{g:Gs}{H:TU}{ρ:Ul}{h:TH}{s:Tj}{pins:List (Tn×UK)}{ws:WL}{d x y:D}{u v:Value}{ds:θ}{us:Ϛ}{P:D->TH->Prop}{k i n:Nat}{m neg:Bool}
theorem GG {f:D->R5}(r:∀{x d u},DU B g x u->f x=ϩ->WG n d=tj->∃as,Reads H u (py d) as):∀{ds es:List D} {us:List Value},T6 f ds=se es->ds.length=us.length->cI B g Ϩ->xbt n es=tj->∃as,ReadsAll H us (pys es) as:=by intro ds;induction ds with| nil =>(rintro es us e l A _;cases e;cases us with| nil=>exact#[_,.nil]| cons _ _=>cases l)| cons d ds ih =>rintro es us e l A f;obtain⟨d',es,e1,e2,rfl⟩:=TW.mp e;rw[yG,cC] at f;cases us with| nil=>cases l| cons u us =>obtain⟨as,ra⟩:=r (A (d,u) aR) e1 f.1;obtain⟨bs,rb⟩:=ih e2 (by simpa using l) (λw z=>A w (a7 _ z)) f.2;exact#[_,.cons ra rb]
theorem GH (q:Hk B g h H):∀(m n:Nat) {x d:D} {u:Value},DU B g x u->fz h 0 m x=ϩ->WG n d=tj->∃as,Reads H u (py d) as:=by intro m;induction m with| zero=>intro _ _ _ _ _ e;cases e| succ m ih =>intro n x d u r e f;cases n with| zero=>cases f| succ n =>have ih:=@ih n;(have lis:∀{ds us a} {c:Nat},H.get? a=se (Xy us c)->ds.length=us.length->cI B g (ds.zip us)->Wm (T6 (fz h 0 m) ds) D.lst=se d->∃as,Reads H (.ref a) (py d) as:=λ{ds us a c} e1 l A e=>by obtain⟨es,e2,rfl⟩:=iQ e;obtain⟨as,ra⟩:=GG ih e2 l A f;exact#[_,.list e1 rfl rfl (by exact ra)]);cases r with| non=>cases e;exact#[_,.none]| bl=>cases e;exact#[_,.bool _]| int=>cases e;exact#[_,.int _ _]| str=>cases e;exact#[_,.str _ _]| fn=>cases e;cases f| lst e1 l z A=>exact lis (q.st _ _ (.inl e1)) l A e| tup e1 l z A =>obtain⟨es,e2,rfl⟩:=iQ e;obtain⟨as,ra⟩:=GG ih e2 l A f;obtain⟨o,e3,e4⟩:=e1;obtain⟨o,e5,c,nn,hd⟩:=e4 _ (q.st _ _ (.inl e3));exact#[_,.tuple e5 c hd (by exact ra)]| dic e1 nn kk l z A=>obtain⟨es,e2,rfl⟩:=iQ e;cases f| at_ e0 =>replace e:(match eg h _ with| some (.ml ds)=>Wm (T6 (fz h 0 m) ds) D.lst| _=>ng)=se d:=e;split at e;rename_i e1;rw[aX] at e1;(cases q.th _ _ _ e1 e0 with | ml r e1 l z A=>exact lis e1 l A e);cases e
theorem GI (j:J X pins ρ h ((y,v)::(x,u)::ws) s)(q:(VI neg x y h).sat P E):∃d e as bs,Reads s.heap u (py d) as/\Reads s.heap v (py e) bs/\WG 60 d=tj/\WG 60 e=tj/\P (.bl (neg^^PyData.eqv (py d) (py e))) h:=by obtain⟨d,e1,q⟩:=q.o;obtain⟨e,e2,q⟩:=q.o;obtain⟨eb,q⟩:=q.i;obtain⟨b,e3,q⟩:=q.o;rw[cC] at eb;cases j with | mk g I p W =>obtain⟨as,ra⟩:=GH I.hk 9 60 (W _ (a7 _ aR)) e1 eb.1;obtain⟨bs,rb⟩:=GH I.hk 9 60 (W _ aR) e2 eb.2;exact#[d,e,as,bs,ra,rb,eb.1,eb.2,by rw[zdL _ e3];exact q]
instance [Y:Yx X k]:Xw X .Eq ϯ:=#[λj q=>by obtain⟨d,e,as,bs,ra,rb,f1,f2,q⟩:=GI j q;rw[mW] at q;exact SeqAt.compareEq_shaped ra rb (sN _ _ f1).shaped (sN _ _ f2).shaped (ya Y.room) Kq]
instance [Y:Yx X k]:Xw X .NotEq (VI tj):=#[λj q=>by obtain⟨d,e,as,bs,ra,rb,f1,f2,q⟩:=GI j q;rw[wY] at q;exact SeqAt.compareNe_shaped ra rb (sN _ _ f1).shaped (sN _ _ f2).shaped (ya Y.room) Kq]
theorem pO (q:DU B g d u)(e:dk d=se kk):(Ue P' w').is kk u=tj:=by cases q<;>first |(cases e;exact zek _ _ _ _)|(cases e;exact zeM _ _ _ _)|cases e
theorem wH (kk:T4)(l:ks.length=ds.length)(l2:ds.length=us.length):(lk kk ks ds=ng/\valueAt 'C' kk=ng)\/∃d u,lk kk ks ds=ϩ/\valueAt 'C' kk=MT/\(d,u)∈Ϩ:=by refine wG (.inl #[rfl,rfl]) (λj ks d ds u us _ _ ih=>?_) l l2;rw[KG,pi];by_cases z:j=kk;subst z;exact .inr #[d,u,by simp,by simp[valueAt],aR];rw[Tf z];rcases ih with ⟨a,b⟩ | ⟨d',u',a,b,c⟩;exact .inl #[a,by simpa [valueAt,By,z] using b];exact .inr #[d',u',a,by simpa [valueAt,By,z] using b,a7 _ c]
noncomputable def eqS (v u:Value):Bool:=match u,v with| .none,.none=>tj| .bool a,.bool b=>a==b| .int a _,.int b _=>a==b| .str a _,.str b _=>a==b| _,_=>fh
inductive SV:V->Value->Prop
 | non:SV .non .none
 | bl {b:Bool}:SV Qt (.bool b)
 | int {i:Int} {t:Tok}:SV JE (.int i t)
 | str {x:To} {t:Tok}:SV Ϯ (.str x t)
theorem DU.sc (q:DU B g x v)(e:RX.xb0 x=ϛ):SV c v:=by cases q<;>first |(cases e;constructor)|cases e
theorem SV.eq {c y:V}(a:SV c v)(b:SV y u)(k:ZL y=ZL c):SeqAt.EqAt A s u v (eqS v u)/\eqS v u=vEq y c:=by(cases a<;>cases b<;>first |(simp[ZL] at k)|skip);exact#[SeqAt.EqAt.same _,rfl];exact#[SeqAt.EqAt.bool_bool _ _,by simp only[eqS,vEq,bEq];grind];exact#[SeqAt.EqAt.int_int _ _ _ _,by simp only[eqS,vEq,lF];rfl];exact#[SeqAt.EqAt.str_str _ _ _ _,by simp only[eqS,vEq,nX];rfl]
theorem zby {A:TC}{c:V}(q:SV c v):∀{ds:List D} {vs:List V} {us:List Value} {b:Bool},T6 RX.xb0 ds=se vs->vIn c vs=SW->ds.length=us.length->cI B g Ϩ->(∀u∈us,SeqAt.EqAt A s u v (eqS v u))/\us.any (eqS v)=b:=by intro ds;induction ds with| nil =>(intro vs us b e1 e2 l W;cases e1;cases e2;cases us with| nil=>exact#[λ_ z=>by simp at z,rfl]| cons _ _=>cases l)| cons d ds ih =>intro vs us b e1 e2 l W;obtain⟨y,ys,h1,h2,rfl⟩:=TW.mp e1;replace e2:(bif bW (ZL y) (ZL c) then Wm (vIn c ys) λr=>vEq y c||r else ng)=se b:=e2;cases hb:bW (ZL y) (ZL c) with| false=>rw[hb] at e2;cases e2| true =>rw[hb] at e2;obtain⟨r,e3,rfl⟩:=iQ e2;cases us with| nil=>cases l| cons u us =>obtain⟨k1,k2⟩:=ih h2 e3 (by simpa using l) λw z=>W w (a7 _ z);have one:=q.eq (A:=A) (s:=s) ((W (d,u) aR).sc h1) (nJ hb);exact#[λw z=>(bi.mp z).elim (λe=>e▸one.1) (k1 w),by rw[xH,k2,one.2]]
theorem GJ (j:J X pins ρ h ((y,v)::(x,u)::ws) s)(q:(Ym neg x y h).sat P E):(∃a f kk,v=ψ/\(a==Vv)=fh/\s.heap.MapOf [MI,X.B.w] a f/\[MI,X.B.w].is kk u=tj/\P (.bl (neg^^(f kk).isSome)) h)\/∃a us,v=ψ/\(s.heap.IsTuple a us\/s.heap.IsList a us)/\(∀w∈us,SeqAt.EqAt A s w u (eqS u w))/\P (.bl (neg^^us.any (eqS u))) h:=by unfold Ym at q;split at q;rename_i p e1;obtain⟨kk,e2,q⟩:=q.o;obtain⟨_,_,r⟩:=j.at (a7 _ aR);obtain⟨kl,a,us,rfl,l,z,⟨ns,dd⟩,j⟩:=j.opD aR e1;refine .inl #[a,_,kk,rfl,ns,dd.mapOf,pO r e2,?_];rcases wH kk kl l with ⟨a,b⟩ | ⟨_,_,a,b,_⟩<;>rw[a] at q<;>rw[b]<;>exact q;obtain⟨c,e1,q⟩:=q.o;obtain⟨ds,e2,q⟩:=q.o;obtain⟨vs,e3,q⟩:=q.o;obtain⟨b,e4,q⟩:=q.o;obtain⟨a,us,rfl,l,z,f,j⟩:=j.opS aR e2;cases j with | mk g I p W =>obtain⟨k1,k2⟩:=zby ((W _ (dG _ (a7 _ aR))).sc e1) e3 e4 l λw z=>W w (df _ z);refine .inr #[a,us.toArray,rfl,?_,λw z=>k1 w (by simpa using z),by rw[show us.toArray.any (eqS u)=b by simpa using k2];exact q];cases ht:Ug y with| true=>rw[ht] at f;exact .inl f| false=>rw[ht] at f;obtain⟨n,f⟩:=f;exact .inr #[_,f,rfl,n,rfl]
instance:Xw X .In Rv:=#[λj q=>by rcases GJ j q with ⟨a,f,kk,rfl,ns,mo,ik,q⟩ | ⟨a,us,rfl,hl | hl,he,q⟩<;>rw[mW] at q;exact wpAny_in_of ik ns mo ((j.tok _).tl.tl.gbl q);exact SeqAt.in_tupleAt _ hl he Kq;exact SeqAt.in_listAt _ hl he Kq]
instance:Xw X .NotIn Lu:=#[λj q=>by rcases GJ j q with ⟨a,f,kk,rfl,ns,mo,ik,q⟩ | ⟨a,us,rfl,hl | hl,he,q⟩<;>rw[wY] at q;exact wpAny_notIn_of ik ns mo ((j.tok _).tl.tl.gbl q);exact SeqAt.notIn_tupleAt _ hl he Kq;exact SeqAt.notIn_listAt _ hl he Kq]
instance [Y:Yx X k]:Xw X .Eq gEqE:=#[λj q=>by obtain⟨⟨ks,ds⟩,e1,q⟩:=R.sat.o q;obtain⟨⟨ls,es⟩,e2,q⟩:=q.o;obtain⟨kl2,b,vs,rfl,l2,_,⟨n2,d2⟩,j⟩:=j.opD aR e2;obtain⟨kl,a,us,rfl,l,_,⟨n1,d1⟩,j⟩:=j.opD (dG _ (a7 _ aR)) e1;cases ls with| cons _ _=>exact q.elim| nil =>(have hz:'C'.length=ks.length:=by simp[kl,l]);refine PySem.W.keq_eq (r:=tj) n1 n2 d1 d2 (BM (hu1 Y.room)) (λe=>?_) (J.gbl (j.sub (by simp +contextual [or_imp])) ?_);rw[oQ.mp e];exact .nil;rw[hz];cases ks<;>exact q]
end
section
variable {X:Cz}{ρ:Ul}{h:TH}{s:Tj}{pins:List (Tn×UK)}{ws:WL}{d x y:D}{u:Value}{ds:θ}{us:Ϛ}{P:D->TH->Prop}{k i n:Nat}{m:Bool}{a b c e o:TV}{es:LI}{pos:VX}{fa fb:RE}{fA:RA}
theorem Aa (e:big l=tj):l.length<=sizeLine:=by unfold big at e;rw[dH,aW] at e;rwa [Vc]
theorem Pd (hA:QA X es fA):QE X (.Tuple es t pos) (VF fA):=#[λz q=>wpAny_Tuple_spliced (Uy (hA.h z q.bnd) λus s1 #[ds,h1,l,z,q]=>by obtain⟨e,q⟩:=q.i;have zl:=l▸Aa e;exact#[zl,_,_,z.dat ig (λ_ _=>Heap.get?_push_of_some _) (Heap.get?_push_size _ rfl) (λg A r=>.tup #[_,r,λ_ e=>#[_,e,rfl,_,rfl]] l zl A) s1.toks,q])]
theorem zaP (hA:QA X es fA):QE X (.List es pos) (Un m fA):=#[λz q=>wpAny_List_spliced (Uy (hA.h z q.bnd) λus s1 #[ds,h1,l,z,q]=>by obtain⟨e,q⟩:=q.i;have zl:=l▸Aa e;exact#[zl,z.pushL l zl q s1.toks])]
theorem J.big (z:J X pins ρ h ws s):(s.heap.objs.size==Vv)=fh:=by obtain⟨_,I⟩:=z.inv;have h:='6'.lt;exact beq_eq_false_iff_ne.mpr (Ne.symm (cG (vf (by decide) h)))
theorem zdp:QE X (.Dict [] [] pos) (YR m):=#[λ{_ _ _ _ s _} z q=>wpAny_Dict_empty (J.mkD (us:=[]) z rfl rfl (ja _) ig (λ_ _=>Heap.get?_push_of_some _) z.big LA q s.toks)]
theorem zeC (ha:QE X e fa):QE X e (rFz fa):=#[λz q=>Uy [CX,z] λu s1 #[_,_,z,q]=>by obtain⟨⟨i,ks,ds⟩,e,q⟩:=q.o;exact#[_,_,(z.frz aR e).sub (by simp +contextual),q]]
theorem J.item (j:J X pins ρ h (Ϩ++ws) s)(l:ds.length=us.length)(e:ds[i]?=ϩ):Ex2 (us[i]?=se ·) λu=>J X pins ρ h ((d,u)::ws) s:=by have lt:='Q'.1;have e2:us[i]?=se (us[i]'(l▸lt)):=aV _;refine#[_,e2,j.sub λw z=>?_];rcases 'B' with rfl | z;exact df _ (aM (i:=i) (by simp[bU,e,e2]));exact dG _ z
theorem Pi {i:Int}(j:J X pins ρ h ws s)(hm:(x,u)∈ws)(e:eS h x=bj)(e2:eat ds i=ϩ):∃T id,s.TypeIs u T/\[Pa,T,"__getitem__"]=pure [TO,id]/\∀{Q:Value->Tj->Prop} {t:Tok},(∀u',J X pins ρ h ((d,u')::ws) s->Q u' s)->X.wp (getItem u (.int i t)) Q s:=by obtain⟨a,us,rfl,l,z,f,j⟩:=j.opS hm e;obtain⟨k,e3,e4⟩:=DE e2;obtain⟨h1,h2,h3,h4⟩:=CB e3;obtain⟨u',e5,j⟩:=j.item l e4;rw[l] at h1 h2 h3 h4;have hn:=vy;rw[Vc] at z;cases ht:ϴ with| true =>rw[ht] at f;exact#["tuple",_,f.typeIs,slot_tuple_getitem.lookup,λq=>getItem_tuple (j:=k) f (by lia) (by lia) (by exact hV▸h1) (by simpa using e5) (q _ j)]| false =>rw[ht] at f;obtain⟨n,f⟩:=f;have il:[Jt,a]:=#[_,f,rfl,n,rfl];refine#["list",_,il.typeIs,slot_list_getitem.lookup,λ{Q t} q=>?_];by_cases h0:0<=i;rw[seqIndex_of h0 h4] at h1;exact wpAny_getItem_list il h0 (by lia) (by rw[dU h1];simpa using e5) (q _ j);rw[seqIndex_neg ε h3] at h1;exact wpAny_getItem_list_neg il ε (by exact h3) (by lia) (by rw[hV,dU h1];simpa using e5) (q _ j)
theorem RP.of (j:J X pins ρ h ((d,u)::ws') s)(p:P d h)(f:∀w∈ws,w∈ws'):RP X pins ρ ws P u s:=#[d,h,j.sub (by simp +contextual [f,or_imp]),p]
theorem zdg (ha:QE X a fa)(hb:QE X b fb)(hs:zbN b:=by exact λ_ _=>rfl):QE X [N7,a,b] (TK fa fb):=#[λ{pins ρ _ ws _ P} z q=>Subscript_ (Uy [CX,z] λu s1 #[x,_,z,q]=>Uy (hb.h z q.bnd) λv s2 #[y,h,z,q]=>by dsimp only at q;cases hd:isD x h with| true =>(rw[hd] at q;obtain⟨⟨ks,ds⟩,e1,q⟩:=q.o;obtain⟨kk,e2,q⟩:=q.o;obtain⟨d,e3,q⟩:=q.o;obtain⟨_,_,r⟩:=z.at aR;obtain⟨kl,a,us,rfl,l,_,⟨ns,dd⟩,z⟩:=z.opD (a7 _ aR) e1;rcases wH kk kl l with ⟨y1,_⟩ | ⟨d',u',y1,y2,y3⟩;rw[e3] at y1;cases y1;rw[e3] at y1;cases y1;exact X3 dd.typeIs F.slot_dict_getitem.lookup (wpAny_getItem_of (pO r e2) dd.mapOf y2 #[d,h,(z.tok _).sub (by simp +contextual [y3,or_imp]),q]) (hs _ _))| false =>rw[hd] at q;replace q:=q;unfold gIx at q;split at q;rename_i st i _ _ _;obtain⟨c,e1,q⟩:=q.o;obtain⟨e2,q⟩:=q.i;obtain⟨t,rfl⟩:=z.int;obtain⟨t',rfl⟩:=z.tl.str;obtain⟨k,e3,e4⟩:=DE e1;obtain⟨h1,h2,h3,h4⟩:=CB e3;rw[dH,aW] at e2;(have hl:st.cps.toList.length=st.length:=by simp[Str.length]);rw[hl] at h1 h3 h4 e2;exact X3 (typeIs_str s2 st t') slot_str_getitem.lookup (getItem_str (by have e1:decide (i< -(2^63))=fh:=Tf (by lia);have e2:decide (i≥2^63)=fh:=Tf (by lia);rw[e1,e2,wX]) (by rw[h1];simpa using e4) (z.tl.tl.gstr q)) (hs _ _);obtain⟨ds,e1,q⟩:=q.o;obtain⟨d,e2,q⟩:=q.o;obtain⟨t,rfl⟩:=z.int;obtain⟨T,id,h1,h2,h3⟩:=Pi z (a7 _ aR) e1 e2;exact X3 h1 h2 (h3 λu' z=>RP.of z q (by simp +contextual)) (hs _ _);exact q.elim)]
end
section
variable {X:Cz}{B:Cb}{g:Gs}{H H':TU}{ρ:Ul}{h:TH}{s:Tj}{pins:List (Tn×UK)}{ws:WL}{d x y:D}{u v:Value}{ds:θ}{us:Ϛ}{k i n:Nat}
theorem pP (l:n+1=us.length):∃u r,us=u::r/\n=r.length:=by cases us with| nil=>cases l| cons u r=>exact#[u,r,rfl,lh l]
theorem one (l:[x].length=us.length)(j:J X pins ρ h ([x].zip us++ws) s):Ex2 (us = [·]) λu=>J X pins ρ h ((x,u)::ws) s:=by obtain⟨u,rfl⟩:∃u,us=[u]:=w9.mp l.symm;exact#[u,rfl,j]
theorem two (l:[x,y].length=us.length)(j:J X pins ρ h ([x,y].zip us++ws) s):∃u v,us=[u,v]/\J X pins ρ h ((y,v)::(x,u)::ws) s:=by obtain⟨u,r,rfl,l2⟩:=pP l;obtain⟨v,r,rfl,l3⟩:=pP l2;obtain rfl:=oQ.mp l3.symm;exact#[u,v,rfl,j.sub (by simp +contextual [or_imp])]
theorem J.hd (j:J X pins ρ h ws s)(Y:Yx X k):X.A.handled=none:=by obtain⟨_,I⟩:=j.inv;exact I.ok.hd Y.calm
theorem J.walked (j:J X pins ρ h ws s)(hk:∀b ob,b∉[s.heap.objs.size]->(s.heap.push o).get? b=Mo->'0'=Mo)(t:Nat):J X pins ρ h ws { s with heap:=H',toks:=t} :=j.kept (λb ob e=>hk b ob (λz=>by have e2:=QR;rw[Nj] at e2;exact o5 _ e2) (Heap.get?_push_of_some _ e)) t
theorem GK {f:D->MY}{ns:QX}(e:T6 f ds=se ns)(l:ds.length=us.length)(W:cI B g Ϩ)(h:us[i]?=MT):∃d n,ns[i]?=se n/\f d=se n/\DU B g d u:=by have hd:=aV (l.symm▸'l'.1);obtain⟨n,hn,hf⟩:=(jT e).2 i _ hd;exact#[_,n,hn,hf,W (_,u) [LV,#[hd,h]]]
theorem Ab (e:T6 xac ds=se ns)(l:ds.length=us.length)(W:cI B g Ϩ)(h:us[i]?=MT):∃t,u=.int [Jr,i] t:=by obtain⟨d,n,hn,f,q⟩:=GK e l W h;rw[bO,hn];cases q<;>cases f;exact#[_,rfl]
theorem GL (e:T6 dBl ds=se ns)(l:ds.length=us.length)(W:cI B g Ϩ)(h:us[i]?=MT):u=.bool (ns.getD i fh):=by obtain⟨d,n,hn,f,q⟩:=GK e l W h;rw[bO,hn];cases q<;>cases f;rfl
theorem GM (e:'H'=ζ):∀b ∈[H.objs.size,a],b<(H.push o').objs.size:=λb hb=>by have:=QR;rw[Heap.size_push];simp only[bi,gW,or_false] at hb;lia
variable [Y:Yx X k]
instance:BOk X "len" Ur:=#[_,H2,PySem.boot_len,.inl #[_,rfl],λl j q=>by unfold Ur at q;have hn:=vy;split at q;rename_i x;obtain⟨u,rfl,j⟩:=one l j;obtain⟨t,rfl⟩:=j.str;obtain⟨e,q⟩:=q.i;rw[dH,aW] at e;(have hl:x.cps.toList.length=x.length:=by simp[Str.length]);rw[aW,hl] at q;rw[hl] at e;exact len_str (by lia) (j.tl.gint q);rename_i x _;obtain⟨u,rfl,j⟩:=one l j;split at q;rename_i p e1;obtain⟨kl,a,us,rfl,l',z,⟨ns,dd⟩,j⟩:=j.opD aR e1;rw[Vc] at z;(have hz:(p.1.zip us).length=p.1.length:=by simp[kl,l']);refine call_len_dict ns dd (by lia) ?_;rw[hz];rw[aW] at q;exact(j.sub (by simp +contextual)).gint q;obtain⟨ds,e1,q⟩:=q.o;obtain⟨a,us,rfl,l',z,f,j⟩:=j.opS aR e1;rw[aW,l'] at q;rw[Vc] at z;(cases ht:ϴ with| true=>rw[ht] at f;exact len_tuple f (by exact NAG.gl38 z) (by exact(j.sub (by simp +contextual)).gint q)| false=>rw[ht] at f;obtain⟨n,f⟩:=f;exact Calls.call_len_list #[_,f,rfl,n,rfl] (by exact NAG.gl38 z) (by exact(j.sub (by simp +contextual)).gint q));exact q.elim]
instance:BOk X "abs" xbs:=#[_,H2,zaR,.inl #[_,rfl],λl j q=>by unfold xbs at q;split at q;rename_i i;obtain⟨u,rfl,j⟩:=one l j;obtain⟨t,rfl⟩:=j.int;rw[gX] at q;refine call_abs_int λu tk=>?_;rw[show(if i<0 then-i else i)=bif decide (i<0)then-i else i by by_cases z:i<0<;>simp[z]];exact j.tl.gint q;exact q.elim]
instance:BOk X "int" gInt:=#[_,H2,zcO,.inr #[_,rfl],λl j q=>by unfold gInt at q;split at q;rename_i b;obtain⟨u,rfl,j⟩:=one l j;cases j.bl;refine call_int_bool ?_;rw[show(if b then(1:Int)else 0)=bif b then 1 else 0 by cases b<;>rfl];exact j.tl.gint q;obtain⟨u,rfl,j⟩:=one l j;obtain⟨t,rfl⟩:=j.int;exact call_int_int #[_,_,j,q];exact q.elim]
instance:BOk X "any" Ji:=#[_,H2,Jf,.inl #[_,rfl],λ{_ _ _ _ s _ _ _} l j q=>by unfold xal at q;split at q;obtain⟨ds,e1,q⟩:=q.o;obtain⟨bs,e2,q⟩:=q.o;obtain⟨u,rfl,j⟩:=one l j;obtain⟨a,us,rfl,l',z,⟨n,f⟩,j⟩:=j.opL aR e1;have il:[Jt,a]:=#[_,f,rfl,n,rfl];refine call_any_walk (Uo il #[s.heap.objs.size,_,_,_,_,_,λi=>[PB,i],rfl,[RY,vB (j.hd Y),a,[QJ,f],_],#[#[_,Heap.get?_push_size _ rfl,rfl,rfl],Sn],λi v s' Q' E' hv hq=>?_,λh' tk hk=>?_]);(cases j with | mk g I p W =>cases GL (i:=i) (u:=v) e2 l' (λw z=>W w (df _ z)) (by simpa using hv);exact UC hq);rw[DJ,<-Js] at q;have hz:=(jT e2).1;exact hV▸l'▸hz▸((j.walked hk tk).sub (by simp +contextual)).gbl q;exact q.elim]
instance:BOk X "all" (xal xbM):=#[.builtin "all",H2,by decide +kernel,.inl #[_,rfl],λ{_ _ _ _ s _ _ _} l j q=>by unfold xal at q;split at q;obtain⟨ds,e1,q⟩:=q.o;obtain⟨bs,e2,q⟩:=q.o;obtain⟨u,rfl,j⟩:=one l j;obtain⟨a,us,rfl,l',z,⟨n,f⟩,j⟩:=j.opL aR e1;have il:[Jt,a]:=#[_,f,rfl,n,rfl];refine call_all_walk (Uo il #[s.heap.objs.size,_,_,_,_,_,λi=>[PB,i],rfl,[RY,vB (j.hd Y),a,[QJ,f],_],#[#[_,Heap.get?_push_size _ rfl,rfl,rfl],Sn],λi v s' Q' E' hv hq=>?_,λh' tk hk=>?_]);(cases j with | mk g I p W =>cases GL (i:=i) (u:=v) e2 l' (λw z=>W w (df _ z)) (by simpa using hv);exact UC hq);rw[KH,<-KI] at q;have hz:=(jT e2).1;exact hV▸l'▸hz▸((j.walked hk tk).sub (by simp +contextual)).gbl q;exact q.elim]
instance:BOk X "sum" gSum:=#[_,H2,Je,.inl #[_,rfl],λ{_ _ _ _ s _ _ _} l j q=>by unfold gSum at q;split at q;obtain⟨ds,e1,q⟩:=q.o;obtain⟨ns,e2,q⟩:=q.o;obtain⟨u,rfl,j⟩:=one l j;obtain⟨a,us,rfl,l',z,⟨n,f⟩,j⟩:=j.opL aR e1;have il:[Jt,a]:=#[_,f,rfl,n,rfl];refine call_sum_walkG (Uo il #[s.heap.objs.size,_,_,_,_,_,λi=>[Jr,i],rfl,[RY,vB (j.hd Y),a,[QJ,f],_],#[#[_,Heap.get?_push_size _ rfl,rfl,rfl],Sn],GM f,λi v hv=>?_,λh' tk t' hk=>?_]);(cases j with | mk g I p W =>exact Ab e2 l' (λw z=>W w (df _ z)) (by simpa using hv));rw[hV,<-l',<-(jT e2).1,zdV,<-yJ];exact((j.walked hk s.toks).sub (by simp +contextual)).gint q;exact q.elim]
instance:BOk X "min" gMin:=#[_,H2,zdo,.inl #[_,rfl],λ{_ _ _ _ s _ _ _} l j q=>by unfold gMin at q;split at q;obtain⟨ds,e1,q⟩:=q.o;obtain⟨ns,e2,q⟩:=q.o;split at q;rename_i n0 ns;obtain⟨u,rfl,j⟩:=one l j;obtain⟨a,us,rfl,l',z,⟨n,f⟩,j⟩:=j.opL aR e1;have il:[Jt,a]:=#[_,f,rfl,n,rfl];(have at_:∀i v,us[i]?=se v->∃t,v=Value.int ((n0::ns).getD i 0) t:=λi v hv=>by cases j with | mk g I p W=>exact Ab e2 l' (λw z=>W w (df _ z)) hv);(have hz:us.length=(n0::ns).length:=by rw[<-l',<-(jT e2).1]);refine call_min_walk (Uo il #[s.heap.objs.size,_,_,_,_,_,λi j=>decide ((n0::ns).getD i 0<(n0::ns).getD j 0),rfl,[RY,vB (j.hd Y),a,[QJ,f],_],#[#[_,Heap.get?_push_size _ rfl,rfl,rfl],Sn],GM f,by rw[hV,hz];simp,λi j vi vj s' Q' E' hi hj hq=>?_,λv h' tk hv hk=>?_]);obtain⟨t1,rfl⟩:=at_ _ _ (by simpa using hi);obtain⟨t2,rfl⟩:=at_ _ _ (by simpa using hj);exact BS hq;rw[hV,hz] at hv;obtain⟨t,rfl⟩:=at_ _ _ ((List.getElem?_toArray ..).symm.trans hv);have hb:=argBest_lt (λi j=>decide ((n0::ns).getD i 0<(n0::ns).getD j 0)) ((n0::ns).length-1);obtain⟨h1,h2,h3⟩:=DK ns n0;(have a1:(n0::ns).getD (argBest (λi j=>decide ((n0::ns).getD i 0<(n0::ns).getD j 0)) ((n0::ns).length-1)) 0=xaD n0 ns:=by obtain⟨j,hj⟩:=bH h3;have:=CL (n0::ns) ((n0::ns).length-1) j (by have:='Z'.1;exact rZ this);rw[show(n0::ns).getD j 0=xaD n0 ns by rw[bO,hj];rfl] at this;(have:(n0::ns).getD (argBest (λi j=>decide ((n0::ns).getD i 0<(n0::ns).getD j 0)) ((n0::ns).length-1)) 0∈n0::ns:=by rw[bO,aV (by simp only[fO] at hb ⊢;exact rY hb)];exact ka _);grind);exact a1▸((j.walked hk tk).sub (by simp +contextual)).gint q;exact q.elim;rename_i a b;obtain⟨u,v,rfl,j⟩:=two l j;obtain⟨t,rfl⟩:=j.int;obtain⟨t',rfl⟩:=j.tl.int;rw[gX] at q;refine min_two_ints (j.hd Y) λh' tk k=>?_;by_cases z:b<a;rw[LN];rw[Tc z] at q;exact(j.kept k tk).tl.tl.gint q;rw[Sg];rw[Tf z] at q;exact(j.kept k tk).tl.tl.gint q;exact q.elim]
end
structure Ca (T:Bz)(A:TC)(outer:Rg)(g:Gs)(h:TH)(s:Tj):Prop where
 frames:A.frames=se outer
 mod:Mod T.B.C.K T.mg T.base
 bs:∀b o,T.base.get? b=ζ->Ϝ=ND
 hk:Hk T.B g h s.heap
 bare:XO s.gens
 nl:∀a,Ϙ≠rv
 fr:∀env∈outer,env.scope.kind≠.module/\∃L o,env.frame=se L/\g.G L=se Zj
inductive CE (B:Cb) (g:Gs) (s:Tj) (P:D->TH->Prop) (u:Value) (s':Tj):Prop
 | mk (d:D) (g':Gs) (h':TH) (os:s'.os=s.os) (br:SS) (x:Gr g g') (hk:Hk B g' h' s'.heap) (q:DU B g' d u) (p:P d h')
def CR (T:Bz)(outer:Rg)(g:Gs)(s:Tj)(P:D->TH->Prop)(E:Nat->TH->Prop)(r:Result)(s':Tj):Prop:=match r with| .ok (.ret u)=>CE T.B g s P u s'| .ok _=>False| .error e=>T.ER outer g s E e s'
structure xaK (T:Bz)(k:Nat)(f:Tn)(fd:Uk)(ps:μ)(ev:θ->TH->ta):Prop where
 len:∀{ds h P E},(ev ds h).sat P E->ds.length=ps.length
 run:∀{A outer g h s args P E} {us:List Value} {ds:List D},UM k A->Ca T A outer g h s->BindsTo s fd args Ml->ds.length=us.length->cI T.B g Ϩ->(ev ds h).sat P E->Wh (Tz T.B.P T.B.w) A (.call Fr args) (CR T outer g s P E) s
structure RDef (T:Bz)(x:To)(k:Nat)(ps:μ)(ev:θ->TH->ta):Prop where
 is:∃(f:Tn) (fd:Uk),xaK T k f fd ps ev/\Binds T.B.C.K fd ps []/\T.mg x=se (Fr)/\iG T.B.C.K Fr=tj
structure RMet (T:Bz)(c:Nat)(m:To)(k:Nat)(ps:μ)(ev:θ->TH->ta):Prop where
 is:∃(f:Tn) (fd:Uk),xaK T k f fd ps ev/\Binds T.B.C.K fd ps []/\Meth T.B.C.K Rh m f
 cl:Cls T.B.C.K Rh
structure RCls (T:Bz)(x:To)(c:Nat)(k:Nat)(ps:μ)(ev:θ->TH->ta):Prop where
 is:∃(f:Tn) (fd:Uk),xaK T k f fd ps ev/\Binds T.B.C.K fd ps []/\Mk T.B.C.K Rh f
 mg:T.mg x=[TS,Rh]
structure SC (X:Cz)(x:To)(pos:VX)(es:LI):Prop where
 g:NAG X x
 d:(x==("__debug__":To))=fh
 n:x≠"__name__"
 pl:(backTo pos [ϵ,es]).any (·.1)=fh
theorem gu {M:Model}{A:TC}{E:Value->Tj->Prop}{s:Tj}{f:Value}:∀{args:List (Bool×Sem Value)} {Q:Args->Tj->Prop},args.any (·.1)=fh->Tv M A (spliced args) (λvs s'=>Q #[vs,[]] s') E s->Tv M A (evalArgs f tj args []) Q E s| (fh,x)::rest,Q,_,h=>Calls.evalArgs_plain h| (tj,x)::rest,Q,e,h=>by simp at e| [],Q,_,h=>by exact Ti (UF h (λvs s' h'=>Ti (Tq (UN (Ti (Tq (Ti (Tq (Tq h')))))))) λ_ _ x=>x)
theorem wI {K:a9}(pl:args.any (·.1)=fh)(hk:iG K f=tj)(h:Tv M A (spliced args) (λvs s₁=>K.In s₁.heap/\Tv M A (call f (first++vs)) Q E s₁) E s):Tv M A (callWith pos f first args []) Q E s :=Cd (by rw[pl];rfl) (PySem.W.keeps_K hk) (gu pl h)
section
variable {X:Cz}{k:Nat}[Y:Yx X k] {k' c n i:Nat}{e o a b:TV}{es:LI}{x f:To}{p pos ay aC:VX}{fa fb:RE}{fA:RA}{ev:θ->TH->ta}{ps:μ}{fr:Tn}{fd:Uk}{ds:θ}{us:Ϛ}{P:D->TH->Prop}{pins:List (Tn×UK)}{ρ:Ul}{h:TH}{ws:WL}{s:Tj}{g:θ->TH->ta}
omit Y in
theorem Iv.ca {g:Gs}(I:Iv X g ρ h s):Ca X.toBz X.A X.stack [MO,s.heap] h s :=
 #[I.ok.frames,I.ok.mod,λb o e=>by rw[jg (by rw[I.bs b o e];simp),I.bs b o e],'o',I.bare,λa z=>by
  by_cases n:Ϙ=rv
  .obtain⟨o,e⟩:=[Q7,a,n];rw[lQ n e] at z
   by_cases y:a=X.env.locals<;>simp[y] at z
  .rw[jg n] at z;exact n z,λenv he=>by
  obtain⟨k,L,f,r⟩:=I.ok.fr env he;refine#[k,L,?_];rcases r with rfl | ⟨o,r⟩
  .obtain⟨o,e⟩:=[Q7,_,I.lf];exact#[o,f,by rw[lQ I.lf e,Nk]]
  .have r:=I.kp _ _ r rfl;exact#[o,f,by rw[jg (by rw[r];simp),r]]]
omit Y in
theorem J.kIn (j:J X pins ρ h ws s):Ll:=let #[_,I]:=j.inv;I.kIn
def RR (X:Cz)(pins:List (Tn×UK))(ρ:Ul)(ws:WL)(P:D->TH->Prop)(r:Result)(s:Tj):Prop:=match r with| .ok (.ret u)=>RP X pins ρ ws P u s| .ok _=>False| .error e=>X.xe e s
include Y in
theorem Iv.ret {g:Gs}{r:Result}{s':Tj}(I:Iv X g ρ h s)(p:∀p∈pins,g.G p.1=[gV,p.2])(W:cI X.B g ws)(hq:CR X.toBz X.stack [MO,s.heap] s P X.E r s'):RR X pins ρ ws P r s':=by
 cases r with
 | error e=>exact Y.xp I hq
 | ok fl =>
  cases fl with
  | ret u =>
   obtain⟨d,g',h',os,br,x,hk,dq,p'⟩:=hq;obtain⟨I',gr⟩:=I.back x hk os br;have back:Le g' 'J':=#[λa o z=>by
    rw[ky λy=>?_,z];obtain⟨o',e⟩:=[Q7,a,y];have:=x.f _ _ (lQ y e) (.inl (by by_cases n:a=X.env.locals<;>simp[n,Ro.fix]))
    rw[z] at this
    by_cases n:a=X.env.locals<;>simp[n] at this,[],by simp[Gs.back]]
   exact#[d,h',#[_,I',λy z=>gr.f _ _ (p y z) lS,pM (back.du dq) Qu],p']
  | next=>exact hq
  | brk=>exact hq
  | cont=>exact hq
include Y in
theorem GN {A':TC}(F:xaK X.toBz k' fr fd ps ev)(hr:UM k' A')(hf:A'.frames=X.A.frames)(hb:Binds X.B.C.K fd ps [])(j:J X pins ρ h (Ϩ++ws) s)(l:ds.length=us.length)(q:(ev ds h).sat P X.E):Wh [Zh,X.B.w] A' (.call (.ref fr) #[us,[]]) (RR X pins ρ ws P) s:=by
 cases j with | mk g I p W =>
 have hl:(us++[]).length=ps.length:=by rw[k8,<-l];exact F.len q
 have ca:=I.ca;exact U5 (F.run hr #[hf.trans ca.frames,ca.mod,ca.bs,ca.hk,ca.bare,ca.nl,ca.fr] (by simpa using hb s us I.kIn hl) l (Le.hid.held λw z=>W w (df _ z)) q) λr s' hq=>I.ret p (λw z=>W w (dG _ z)) hq
include Y in
theorem GP (F:xaK X.toBz k' fr fd ps ev)(hr:UM k' X.A)(hb:Binds X.B.C.K fd ps [])(j:J X pins ρ h (Ϩ++ws) s)(l:ds.length=us.length)(q:(ev ds h).sat P X.E):X.wp (call (.ref fr) us) (RP X pins ρ ws P) s :=
 Wp (U5 (GN F hr rfl hb j l q) λr s' hq=>by
  cases r with
  | error e=>exact hq
  | ok fl=>cases fl<;>exact hq)
include Y
theorem zbw (ha:QA X es fA)(F:RDef X.toBz x k' ps ev:=by assumption)(hk:bR k' k=tj:=by rfl)(h:SC X x pos es:=by exact⟨rfl,by decide,by decide,rfl⟩):QE X [Os,[QY,p],es,[]] (Ui ev fA):=#[λz q=>by obtain⟨f,fd,F,hb,hm,kp⟩:=F.is;exact Tw (pL z h.g hm (wI h.pl kp (Uy [CX,z] λus s1 #[ds,h1,l,z,q]=>#[z.kIn,GP F [Sm,hk] hb z l q])) h.d)]
theorem q_b [B:BOk X x g] (ha:QA X es fA)(h:SC X x pos es:=by exact⟨rfl,by decide,by decide,rfl⟩):QE X [Os,[QY,p],es,[]] (Ui g fA):=#[λz q=>by obtain⟨v,h1,h2,h3,h4⟩:=B.ex;refine Tw (gZ z h.g h1 h2 ?_ h.n h.d);rcases h3 with ⟨i,rfl⟩ | ⟨i,rfl⟩;exact[Pg,h.pl,h.pl,Uy [CX,z] λus s1 #[ds,h1,l,z,q]=>h4 l z q];exact ju h.pl (gu h.pl (Uy [CX,z] λus s1 #[ds,h1,l,z,q]=>h4 l z q))]
omit Y
inductive OI (X:Cz) (pins:List (Tn×UK)) (ρ:Ul) (h:TH) (ws:WL) (s:Tj) (c i:Nat) (x:D) (ds:θ) (u:Value):Prop
 | mk (a dx:Tn) (us:Ϛ) (ex:x=.at i) (e:u=ψ) (eh:h[i]?=[ϟ,c,ds]) (l:ds.length=us.length) (z:us.length<='9'.length) (f:xaX s.heap a dx JK λf=>('9'.zip us).lookup f) (j:J X pins ρ h (Ϩ++ws) s)
theorem J.opI {x:D}(j:J X pins ρ h ws s)(hm:(x,u)∈ws)(e:eMi c h x=se (i,ds)):OI X pins ρ h ws s c i x ds u:=by unfold eMi at e;split at e;split at e;rename_i c' ds' e1;rw[aX] at e1;(cases hb:bW c' c with| false=>rw[hb] at e;cases e| true =>rw[hb] at e;cases e;cases nJ hb;cases j with | mk g I p W =>cases W _ hm with | at_ e0 =>cases[Kw,_,_,_,e1]with | mi r r' e l z A=>exact#[_,_,_,rfl,rfl,e1,l,z,e,g,I,p,jW A W]);cases e;cases e
theorem handed {g:Gs}(q:DU B g d u):Ci u=tj:=by cases q<;>rfl
theorem GQ:∀{N:List To} {f:To} {n:Nat} {us:List Value},xbE N f n=tj->(N.zip us).lookup f=us[n]?| g::N,f,0,us,h=>by cases us<;>simp[show g=f from beq_iff_eq.mp h]| g::N,f,n+1,[],h=>by simp| g::N,f,n+1,u::us,h=>by obtain⟨h1,h2⟩:=mV.mp h;(have:(f==g)=fh:=by simp at h1;simpa using Ne.symm h1);rw[i8,jt,this];exact GQ h2
theorem Ac:∀{N:List To} {f:To} {us:List Value},N.contains f=fh->(N.zip us).lookup f=ng| [],_,_,_=>by simp| _::_,_,[],_=>by simp| g::N,f,y::xs,h=>by rw[List.contains_cons,Bool.or_eq_false_iff] at h;rw[i8,jt,h.1];exact Ac h.2
include Y
theorem zbD (he:QE X a fa)(hf:xbE '9' f n=tj:=by rfl)(hb:attributeBase a f X.env [Ϧ,a]=[Ϧ,a]:=by rfl):QE X (.Attribute a f pos) (Ub c n fa):=#[λz q=>zbB hb (Uy (he.h z q.bnd) λu s1 #[x,h,z,q0]=>by obtain⟨⟨i,ds⟩,e1,q1⟩:=q0.o;obtain⟨d,e2,q⟩:=q1.o;rw[aX] at e2;obtain⟨a,dx,us,rfl,rfl,eh,l,zz,O,z⟩:=z.opI aR e1;obtain⟨v,e3,z⟩:=z.item l e2;obtain⟨_,_,dq⟩:=z.at aR;have F:=Y.fld c f (yL hf);exact IK z.kIn O (F.cl.get f) F.cl.hd F.no (by rw[GQ hf];exact e3) (handed dq) (RP.of (z.tok _) q (by simp +contextual)))]
theorem zea (he:QE X o fa)(ha:QA X es fA)(F:RMet X.toBz c x k' ps ev:=by assumption)(hk:bR k' k=tj:=by rfl)(hm:'9'.contains x=fh:=by rfl)(pl:(backTo pos [ϵ,es]).any (·.1)=fh:=by rfl)
  (ht:[Ϧ,[Os,[KU,o,x],es,[]]]=(do
   let ov <-UA o X.env
   standAt ay.atName
   let (f,first) <-holding [ov] (getMethod ov x (do return (<-importBound o X.env).getD tj))
   callWith pos f first (backTo pos (TX es X.env)) (backToKw pos (keywordEach [] X.env))):=by rfl):QE X [Os,[KU,o,x],es,[]] (TL c ev fa fA):=#[λz q=>by
 obtain⟨f,fd,G,hb,hmt⟩:=F.is;refine PySem.W.methodCall_KW (Uy (he.h z q.bnd) λu s1 #[xv,h,z,q]=>?_) ht;obtain⟨⟨i,ds⟩,e1,q1⟩:=q.o;obtain⟨a,dx,us,rfl,rfl,eh,l,zz,O,_⟩:=z.opI aR e1;exact IL z.kIn O (F.cl.get x) hmt.at_ hmt.fn (Ac hm) (wI pl hmt.kp (Uy (ha.h z q1.bnd) λus s1 #[ds,h1,l,z,q]=>#[z.kIn,GP G [Sm,hk] hb (z.sub (by simp +contextual [or_imp])) (by simp[l]) q]))]
theorem Pn (ha:QA X es fA)(F:RCls X.toBz x c k' ps ev:=by assumption)(hk:bR (k'+1) k=tj:=by rfl)(h:SC X x pos es:=by exact⟨rfl,by decide,by decide,rfl⟩):QE X [Os,[QY,p],es,[]] (Ui (ZS c ev) fA):=#[λ{_ _ _ ws _ _} z q=>by obtain⟨f,fd,F1,hb,M⟩:=F.is;have hr:=[Sm,hk];refine Tw (pL z h.g F.mg (wI h.pl M.kp (Uy [CX,z] λus s1 #[ds,h1,l,z,q]=>#[z.kIn,?_])) h.d);have e1:(s1.heap.push qO).get? s1.heap.objs.size=se qO:=Heap.get?_push_size s1.heap rfl;(have e2:=by have:=Heap.get?_push_size (s1.heap.push qO) (o:=vq JK s1.heap.objs.size) rfl;rwa [Heap.size_push] at this);have e3:(s1.heap.push qO).Ns s1.heap.objs.size (λ_=>ng):=#[qO,([].toArray),_,e1,rfl,(λe he=>absurd he (by simp)),λ_=>rfl];have z2:=J.mut (ws':=[]) (tm:=.mi c []) z [s1.heap.objs.size+1,s1.heap.objs.size] (λb hb=>Heap.get?_none_of_le (by simp at hb;lia)) (λb o e=>Heap.get?_push_of_some _ (Heap.get?_push_of_some _ e)) (by simpa using #[#[_,e2],_,Heap.get?_push_of_some _ e1]) (λg _ r=>.mi (us:=[]) (r _ (by simp)) (r _ (by simp)) #[e2,by simpa using (Heap.Ns1.of_empty e3).at λo q=>Heap.get?_push_of_some _ q,cG (i9 _)] rfl (ja _) (λ_ z=>by simp at z)) s1.toks;replace q:((ev (.at (hn h1)::ds) (hp h1 (.mi c []))).nox.bnd _).sat _ _:=q;rw[show hn h1=h1.length from aW h1,show hp h1 (.mi c [])=h1++[.mi c []]from gj _ _] at q;refine Wp (IN (f:=f) z.kIn M.makes M.init (beq_iff_eq.mp M.fn) (U5 (GN F1 (hr.make _ us []) (by first |rfl|simp[Around.under,Code.envs,Code.isFrame,pushEnvs]) hb (ws:=(.at h1.length,.ref (s1.heap.objs.size+1))::ws) (z2.sub (by simp +contextual [or_imp])) (by simp[l]) q.bnd.unx) λr s' hq=>?_));cases r with| error e=>exact hq| ok fl =>cases fl with| ret u =>(obtain⟨d,h',z,q⟩:=hq;cases d with| non=>exact#[z.non,_,_,z.tl,q]| _=>exact q.elim)| next=>exact hq| brk=>exact hq| cont=>exact hq]
omit Y
theorem Po:∀{N:List To} {f:To} {n:Nat} {us:List Value} {v:Value},xbE N f n=tj->n<=us.length->∀g,(N.zip (if n<us.length then us.set n v else us++[v])).lookup g=if g=f then se v else(N.zip us).lookup g:=by intro N;induction N with| nil=>intro f n us v h;cases h| cons g0 N ih =>intro f n us v h l g;cases n with| zero =>cases show g0=f from beq_iff_eq.mp h;by_cases e:g=g0;subst e;cases us<;>simp;have e1:=beq_eq_false_iff_ne.mpr e;cases us<;>simp[jt,e1,e]| succ n=>cases us with| nil=>simp at l| cons u us =>obtain⟨h1,h2⟩:=mV.mp h;have ih:=ih (v:=v) h2 (by simpa using l) g;(have n1:=by simpa using h1);by_cases e:g=g0;subst e;by_cases y:n<us.length<;>simp[y,n1];by_cases y:n<us.length<;>simp only[y,fO,Nat.succ_lt_succ_iff,if_true,if_false,qH,oW,i8,jt,beq_eq_false_iff_ne.mpr e] at ih ⊢<;>exact ih
theorem J.setI {a:Tn}(j:J X pins ρ h ws s)(hm:(.at i,ψ)∈ws)(eh:h[i]?=[ϟ,c,ds])(O:xaX s.heap a dx JK mA)(sb:[OP,dx,H'])(e:xaX H' a dx JK λf=>('9'.zip us').lookup f)(l:ds'.length=us'.length)(zz:us'.length<='9'.length)(sub:∀w∈JI,w∈ws) :J X pins ρ (hs h i (.mi c ds')) ws { s with heap:=H',toks:=t}:=by rw[show hs h i (.mi c ds')=[ϭ,.mi c ds']from eI _ _ _];cases j with | mk g I p W =>cases W _ hm with | at_ e0 =>cases[Kw,_,_,_,eh]with | @mi _ _ us0 dx0 r r' O' _ _ _ =>(obtain rfl:dx=dx0:=by have z:=dU (O.obj.symm.trans O'.obj);exact dU (congrArg Obj.dict z));obtain⟨o1,_,_,h1,_⟩:=id e.ns;refine J.via I p .refl (I.hk.set (λb o z e=>(sb.2 b (by rintro rfl;exact z r')).trans e) (λb z=>?_) λa' e1=>?_) (λb o z e=>(sb.2 b (by rintro rfl;rw[r'] at z;cases z)).trans e) W t;by_cases n:b=dx;subst n;exact#[o1,h1];obtain⟨o,e⟩:=[Q7,b,z];exact#[o,(sb.2 b n).trans e];rw[e0] at e1;cases e1;exact .mi r r' e l zz λw q=>W w (sub w q)
include Y
theorem zbb (hv:QE X e fb)(ha:QE X o fa)(hf:xbE '9' f n=tj:=by rfl)(hN:bR '9'.length 99=tj:=by rfl)(hs:VU e (se (.Attribute o f aC)) pos.line X.env=Sj:=by rfl):QS X (.Assign [.Attribute o f aC] e pos) (Z4 c n fa fb):=#[λz q=>plainObj_wpAny_Assign_Attribute (Uy (hv.h z q.bnd) λv s1 #[y,h1,z,q]=>Uy [CX,z] λu s2 #[x,h2,z,q0]=>by obtain⟨⟨i,ds⟩,e1,q1⟩:=q0.o;obtain⟨eb,q⟩:=q1.i;rw[dH,aW] at eb;obtain⟨a,dx,us,rfl,rfl,eh,l,zz,O,z⟩:=z.opI aR e1;have F:=Y.fld c f (yL hf);have hN:=nK hN;refine zaw z.kIn O F.cl.sa F.cl.po F.no.taker F.cl.hd (ns:='9') (λy hy=>?_) (by rw[Vc];lia) λh' O' sb=>?_;refine kY.mp ?_;(cases e:'9'.contains y with| true=>rfl| false=>exact absurd (Ac e) hy);have lu:=l.symm;refine#[_,_,(z.setI (ds':=if n<us.length then ds.set n y else ds++[y]) (us':=if n<us.length then us.set n v else us++[v]) (dG _ aR) eh O sb ?_ ?_ ?_ ?_).sub (by simp +contextual),?_];exact#[O'.obj,by simpa only[Po hf (show n<=us.length by exact lu▸eb)] using O'.ns,O'.ne];split<;>simp[l];have:=(DQ hf).1;have:=(aQ.mp this).1;split;simpa using zz;simp;lia;intro w hw;split at hw;obtain⟨i',i4⟩:=bH hw;rw[bU,oV,oV] at i4;by_cases e:n=i';grind;rw[S9 e,S9 e] at i4;exact df _ (aM (by rw[bU];exact i4));rw[nH l] at hw;simp at hw;grind;(have e5:(bif bI n (UJ ds)then ZC ds n y else eap ds [y])=if n<us.length then ds.set n y else ds++[y]:=by rw[aW,eI,gj,lu];by_cases w:n<ds.length;rw[Ta w,cF.mpr w];rfl;rw[S9 w,show bI n ds.length=fh from fJ.mpr λz=>w K0];rfl);exact e5▸q) hs]
end
noncomputable def Gs.trunc (g:Gs) (H:TU) (n:Nat):Gs:=#[λb=>match Ϝ with| some (.own i)=>if i<n then Sf else '8'.map .dat| r=>r,g.ι.take n]
section
variable {B:Cb}{g:Gs}{H:TU}{h h0:TH}{n:Nat}{a b:Tn}{r:Ro}{o:UK}{i:Nat}{d e:D}{u:Value}{ds:θ}{us:Ϛ}
theorem ou (e:Ϝ=ϊ)(z:∀i,r≠.own i):[KY,n].G b=ϊ:=by unfold Gs.trunc;dsimp only;split;rename_i i e1;rw[e] at e1;cases e1;exact[Oq,z i];exact e
theorem pQ (e:Ϝ=Sf)(z:i<n):[KY,n].G b=Sf:=by unfold Gs.trunc;dsimp only;rw[e];exact LN
theorem GR (e:Ϝ=Sf)(z:¬i<n)(e1:'8'=ζ):[KY,n].G b=ND:=by unfold Gs.trunc;dsimp only;rw[e];dsimp only;rw[Sg,e1];rfl
theorem tW (f:Fz g a φ):Fz [KY,n] a φ:=by obtain⟨o,e,q⟩:=f;exact#[o,ou e (by simp),q]
theorem tX {f:D->R5}{g':Gs}(r:∀{x d u},DU B g x u->f x=ϩ->DU B g' d u){ds es:θ}(e:T6 f ds=se es)(l:ds.length=us.length)(A:cI B g Ϩ):es.length=us.length/\cI B g' (es.zip us):=by obtain⟨l1,k⟩:=jT e;refine#[by rw[l1,l],λw z=>?_];obtain⟨i,hi⟩:=bH z;rw[bU] at hi;(have lt:i<ds.length:=by exact l1▸(aQ.mp hi.1).1);obtain⟨y,h1,h2⟩:=k i ds[i] (aV lt);rw[hi.1] at h1;cases h1;exact r (A (ds[i],w.2) (aM (i:=i) (by rw[bU];exact#[aV lt,hi.2]))) h2
theorem GS (q:Hk B g h H):∀(m:Nat) {d e:D} {u:Value},DU B g d u->fz h n m d=se e->DU B [KY,n] e u:=by intro m;induction m with| zero =>rintro _ _ _ _ e;cases e| succ m ih =>rintro d e u r z;have ih:=@ih;cases r with| non=>cases z;exact .non| bl=>cases z;exact .bl| int=>cases z;exact .int| str=>cases z;exact .str| fn f=>cases z;exact .fn (tW f)| lst f l zz A =>obtain⟨es,e1,rfl⟩:=iQ z;obtain⟨l2,A2⟩:=tX ih e1 l A;exact .lst (ou f (by simp)) l2 zz A2| tup f l zz A =>obtain⟨es,e1,rfl⟩:=iQ z;obtain⟨l2,A2⟩:=tX ih e1 l A;exact .tup (tW f) l2 zz A2| dic f nn k l zz A =>obtain⟨es,e1,rfl⟩:=iQ z;obtain⟨l2,A2⟩:=tX ih e1 l A;exact .dic (tW f) nn (by rw[k,l,l2]) l2 zz A2| @at_ i a e0 =>replace z:(bif bI i n then se (D.at i) else match eg h i with| some (.ml ds)=>Wm (T6 (fz h n m) ds) D.lst| _=>ng)=se e:=z;cases hb:bI i n with| true =>rw[hb] at z;cases z;exact .at_ (by show(g.ι.take n)[i]?=_;rwa [rM (cF.mp hb)])| false =>rw[hb] at z;(have ge:¬i<n:=λy=>by rw[cF.mpr y] at hb;cases hb);replace z:(match eg h i with| some (.ml ds)=>Wm (T6 (fz h n m) ds) D.lst| _=>ng)=se e:=z;split at z;rename_i ds e1;rw[aX] at e1;obtain⟨es,e2,rfl⟩:=iQ z;(cases q.th _ _ _ e1 e0 with | ml r e3 l zz A =>obtain⟨l2,A2⟩:=tX ih e2 l A;exact .lst (GR r ge e3) l2 zz A2);cases z
theorem Hk.trunc (q:Hk B g h H)(e:T6 (fzo h n) (etk n h)=se h0):Hk B [KY,n] h0 H:=by obtain⟨l,k⟩:=jT e;rw[sM] at l k;(have l0:h0.length=min n h.length:=by rw[l,jr]);(have cs:∀{b r},[KY,n].G b=ϊ->(Ϝ=ϊ/\∀i,r=.own i->i<n)\/∃o,r=.dat o/\'8'=ζ:=λ{b r} z=>by cases e1:Ϝ with| none=>unfold Gs.trunc at z;dsimp only at z;rw[e1] at z;cases z| some r0 =>cases r0 with| own i =>by_cases y:i<n;rw[pQ e1 y] at z;cases z;exact .inl #[rfl,λj e=>by cases e;exact y];obtain⟨o,e2⟩:=q.al b _ e1;rw[GR e1 y e2] at z;cases z;exact .inr #[o,rfl,e2]| _=>rw[ou e1 (by simp)] at z;cases z;exact .inl #[rfl,λj e=>by cases e]);refine#[λa o z=>?_,λa o z=>?_,λa r z=>?_,by simp[Gs.trunc,l0,q.len],λi t' a e1 e2=>?_,λj z=>?_];rcases z with z | z<;>rcases cs z with ⟨y,_⟩ | ⟨o',y,e1⟩;exact q.st a o (.inl y);cases y;exact e1;exact q.st a o (.inr y);cases y;rcases cs z with ⟨y,_⟩ | ⟨o',y,e1⟩;exact q.sl a o y;cases y;rcases cs z with ⟨y,_⟩ | ⟨o',y,e1⟩;exact q.al a r y;exact#[o',e1];(have lt:i<min n h.length:=by exact l0▸'n'.1);(have lt':i<h.length:=by lia);(have lt:i<n:=by lia);obtain⟨t,e3⟩:∃t,h[i]?=se t:=#[_,aV lt'];obtain⟨y,h1,h2⟩:=k i t (by rwa [rM lt]);rw[e1] at h1;cases h1;replace e2:(g.ι.take n)[i]?=Ϸ:=e2;rw[rM lt] at e2;have all:=λ{ds es:List D} {us:List Value}=>@tX B g us (fz h n 9) [KY,n] (GS q 9) ds es;(cases q.th _ _ _ e3 e2 with| ml r e l z A=>obtain⟨es,e4,rfl⟩:=iQ h2;obtain⟨l2,A2⟩:=all e4 l A;exact .ml (pQ r lt) e l2 z A2| mr f l z A=>cases h2;exact .mr (ou f (by simp)) l z A| md r e nn kk l z A=>obtain⟨es,e4,rfl⟩:=iQ h2;obtain⟨l2,A2⟩:=all e4 l A;exact .md (pQ r lt) e nn (by rw[kk,l,l2]) l2 z A2| mi r r' e l z A=>obtain⟨es,e4,rfl⟩:=iQ h2;obtain⟨l2,A2⟩:=all e4 l A;exact .mi (pQ r lt) (pQ r' lt) e l2 z A2| mx r e=>cases h2;exact .mx (pQ r lt) e| mf r e f=>cases h2;exact .mf (pQ r lt) e (tW f)| no=>cases h2;exact .no);obtain⟨⟨j',r⟩,ps,e1,q1,q2⟩:=q.tb j z;exact#[#[j',ou r (by simp)],ps,e1,q1,λpos c z=>by obtain⟨c',e,f⟩:=q2 pos c z;exact#[c',e,tW f]]
inductive Fin (P:D->TH->Prop) (h:TH) (v:D) (h':TH):Prop
 | same (p:P v h')
 | cut (n:Nat) (v':D) (h0:TH) (l:h.length<=n) (l':h.length<=h'.length->n<=h'.length) (e:T6 (fzo h' n) (etk n h')=se h0) (e2:fz h' n 9 v=se v') (p:P v' h0)
noncomputable def val:Fl->D| .nx _=>.non| .rt v=>v
theorem Ae {P:D->TH->Prop}{h h':TH}{v:D}{n:Nat}(l:h.length<=n)(l':h.length<=h'.length->n<=h'.length)(q:(RX.trunc n v h').sat P E):Fin P h v h':=by unfold RX.trunc at q;cases z:bW (UJ h') n with| true=>rw[z] at q;exact .same q| false =>rw[z] at q;obtain⟨h0,e1,q⟩:=R.sat.o q;obtain⟨v0,e2,q⟩:=q.o;exact .cut n v0 h0 l l' e1 e2 q
def mB (E:Nat->TH->Prop)(n c:Nat)(h':TH):Prop:=E c h'\/∃h0,T6 (fzo h' n) (etk n h')=se h0/\E c h0
theorem Pq {keep:Bool}{n j:Nat}{f:RS}{ds:θ}{h:TH}{P:D->TH->Prop}(q:(UL keep n j f ds h).sat P E):ds.length=n/\(f (Xq ds j) h).sat (λx h'=>Fin P h (val x) h') (mB E h.length):=by obtain⟨eb,q⟩:=JA;refine#[by rw[<-aW];exact nJ eb,?_];(have fin:∀{v h'},(bif keep then R.ok v h' else RX.trunc Og v h').sat P E->Fin P h v h':=λ{v h'} q=>by cases keep with| true=>exact .same q| false=>rw[show Og=h.length from aW h] at q;exact Ae ϱ (λz=>z) q);split at q;rename_i e;exact e▸fin q;rename_i e;exact e▸fin q;rename_i c h' e;rw[e];(cases keep with| true=>exact .inl q| false =>replace q:(xap Og c h').sat P E:=q;unfold xap at q;rw[aW,aW] at q;cases z:bW h'.length h.length with| true=>rw[z] at q;exact .inl q| false=>rw[z] at q;obtain⟨h0,e1,q⟩:=R.sat.o q;exact .inr #[h0,e1,q]);exact q.elim
theorem Pr {m n j:Nat}{f:RS}{ds:θ}{h:TH}{P:D->TH->Prop}(q:(fnK m n j f ds h).sat P E):ds.length=n/\(f (Xq ds j) h).sat (λx h'=>Fin P h (val x) h') (mB E h.length):=by obtain⟨eb,q⟩:=JA;refine#[by rw[<-aW];exact nJ eb,?_];split at q;rename_i e;rw[e];obtain⟨e1,q⟩:=JA;rw[dH,aW,aW] at e1;rw[aW] at q;exact Ae (jP _ _) (λ_=>e1) q;rename_i e;rw[e];obtain⟨e1,q⟩:=JA;rw[dH,aW,aW] at e1;rw[aW] at q;exact Ae (jP _ _) (λ_=>e1) q;exact q.elim
end
noncomputable def YD (T:Bz) (N:μ) (qual:To) (scope:WU) (f:Tn) (cd:Value) (A:TC) (outer:Rg) (g:Gs) (h:TH) (s:Tj) (E:Nat->TH->Prop):Cz where
 toBz:=T
 A:=A.deeper [Mw,qual,scope,f,cd]
 N:=N
 g₀:=g
 s₀:=s
 env:=[Mw,qual,scope,f,cd]
 outer:=outer
 stack:=[Mw,qual,scope,f,cd]::outer
 fn:=λ_=>tj
 calm:=tj
 E:=mB E g.ι.length
 xe:=λe s'=>Tv (Tz T.B.P T.B.w) (A.deeper [Mw,qual,scope,f,cd]) (leaving [Mw,qual,scope,f,cd] e) (λ_ s''=>T.ER outer g s E e s'') (λe' s''=>T.ER outer g s E e' s'') s'
theorem Ps {j i:Nat}(e:(Xq ds j)[i]?=SX):ds[i]?=ϩ:=by rw[DM,xj] at e;split at e;rw[bo,kg] at e;obtain⟨d',e1,e2⟩:=e;rw[e1,dU e2];rw[nq] at e;split at e<;>cases e
section
variable {T:Bz}{N ps:μ}{qual:To}{scope:WU}{f:Tn}{cd:Value}{A:TC}{outer:Rg}{g:Gs}{h:TH}{s s1:Tj}{E:Nat->TH->Prop}{ds:θ}{us:Ϛ}{j k:Nat}{P:D->TH->Prop}
theorem Iv.start (S:VB N ps scope)(hd:A.handled=ng)(ca:Ca T A outer g h s)(l:ds.length=us.length)(lp:ds.length=ps.length)(hL:N.length=ps.length+j)(W:cI T.B g Ϩ) (x:InCallC s s.heap.objs.size (bindL [Mw,qual,scope,f,cd].kindOf Ml λ_=>ng) [OV,s.heap.objs.size+1,[]] (bindC [Mw,qual,scope,f,cd].kindOf Ml λ_=>ng) s1) :∃g1,Iv (YD T N qual scope f cd A outer g h s E) g1 (Xq ds j) h s1/\Gr g g1:=by obtain⟨h1,tk,rfl,hk⟩:=x.done;have ns:=x.toInCall.ns;let own:=λa=>a=s.heap.objs.size\/∃y,[OV,s.heap.objs.size+1,[]].lookup y=Ϸ;have nw:∀a,own a->Ϙ=none:=λa z=>ca.hk.fresh (by refine Heap.get?_none_of_le ?_;rcases z with rfl | ⟨y,z⟩;exact ϱ;exact fF (x.above y a (nM z)));(have al:∀a,own a->∃o,h1.get? a=ζ:=λa z=>by rcases z with rfl | ⟨y,z⟩;obtain⟨o,_,_,e,_⟩:=ns;exact#[o,e];obtain⟨o,e,_⟩:=x.cell y a z;exact#[o,e]);have dec:∀a,Decidable (own a):=λa=>Classical.propDecidable _;let g1:Gs:=#[λa=>if own a then rv else Ϙ,g.ι];have o1:∀a,own a->g1.G a=rv:=λa z=>LN;have old:∀a r,Ϙ=ϊ->g1.G a=ϊ:=λa r z=>(S9 λy=>by rw[nw a y] at z;cases z).trans z;(have cs:∀a r,g1.G a=ϊ->Ϙ=ϊ\/(own a/\r=.loc):=λa r z=>by by_cases y:own a;rw[o1 a y] at z;cases z;exact .inr #[y,rfl];exact .inl ((S9 y).symm.trans z));have gr:Gr g g1:=#[λa r z _=>old a r z,[],by simp[g1]];(have hq:=by refine ca.hk.go gr.le rfl (λb r z _=>#[old b r z,λo=>hk b o]) (λa o z=>?_) (λa o z=>?_) λa r z=>?_;rcases z with z | z<;>rcases cs _ _ z with y | ⟨_,y⟩;exact hk _ _ (ca.hk.st a o (.inl y));cases y;exact hk _ _ (ca.hk.st a o (.inr y));cases y;rcases cs _ _ z with y | ⟨_,y⟩;obtain⟨n,sl,e⟩:=ca.hk.sl a o y;exact#[n,sl,hk _ _ e];cases y;rcases cs _ _ z with y | ⟨y,_⟩;obtain⟨o,e⟩:=ca.hk.al a r y;exact#[o,hk _ _ e];exact al a y);refine#[g1,#[#[ca.mod,S.kind,rfl,rfl,λy z c h1 h2=>name_of_addr x.apart (nM h1) (nM h2),λy hy=>?_,λ_=>hd,Around.frames_deeper ca.frames,λenv he=>?_],rfl,ca.bare,hq,λb o e=>old _ _ (ca.bs b o e),λa r z _=>old a r z,#[[],by simp[g1,YD]],o1 _ lS,#[_,ns,λi y d e1 e2 e3=>?_],λy c e=>#[#[_,x.cell y c e],.inl (o1 _ (.inr #[y,e]))],?_],gr];rcases hy with hy | hy;exact Cw hy;exact[Oq,S.nofree _ (nM hy)];rcases bi.mp he with rfl | he;exact#[by show scope.kind≠_;rw[S.kind];decide,_,rfl,lS];obtain⟨k,L,o,f,r⟩:=ca.fr env he;exact#[k,L,f,.inr #[o,r]];have ed:=Ps e2;have lt:=(aQ.mp ed).1;have eu:us[i]?=se (us[i]'(l▸lt)):=aV _;(have hp:ps[i]?=Ϫ:=by rw[<-S.pre,rM (by rwa [<-lp])];exact e1);(have ndP:=by exact S.pre▸S.nd.sublist (Bl _ _));refine#[_,gr.le.du (W (d,us[i]'(l▸lt)) (aM (by rw[bU];exact#[ed,eu]))),?_];rcases S.par y (aM hp)with k | k;exact .inl #[k,Cu ndP hp eu k];obtain⟨c,e⟩:=Cw k;refine .inr #[.inl k,c,e,?_];have q:=x.cell y c e;rw[Cv ndP hp eu (by show scope.names.lookup y≠_;rw[k];decide)] at q;exact q;rw[DM];show _=N.length;simp[hL,lp]
theorem Fin.ce (ca:Ca T A outer g h s)(os:s'.os=s.os)(br:SS)(x:Gr g g')(hk:Hk T.B g' h' s'.heap)(q:DU T.B g' v u)(p:Fin P h v h'):CE T.B g s P u s':=by cases p with| same p=>exact#[v,g',h',os,br,x,hk,q,p]| cut n v' h0 l l' e e2 p =>obtain⟨m,em⟩:=x.i;have e1:=ca.hk.len;refine#[v',g'.trunc s'.heap n,h0,os,br,#[λa r z f=>ou (x.f a r z f) (by rintro i rfl;rcases f with f | f<;>cases f),m.take (n-g.ι.length),?_],hk.trunc e,GS hk 9 q e2,p];show g'.ι.take n=_;rw[em,Bq,d8 ε]
theorem GT {dV kV cj pm cdv ct oc:Value}(lk:T.B.C.K.lookup f=se #[oc,od,.func (iH name qual params body scope dV kV cj pm an cdv ct),dY])(hcd:ly T.B.C.K cdv qual=tj)(S:VB N ps scope)(hL:N.length=ps.length+j) (oL:∀{ds h P E},(ev ds h).sat P E->ds.length=ps.length/\(fs (Xq ds j) h).sat (λx h'=>Fin P h (val x) h') (mB E h.length)) (hb:∀A outer g h s E,UM k (A.deeper [Mw,qual,scope,f,cdv])->QB (YD T N qual scope f cdv A outer g h s E) body fs):xaK T (k+1) f (iH name qual params body scope dV kV cj pm an cdv ct) ps ev:=by refine#[λq=>(oL q).1,λ{A outer g h s args P E us ds} hr ca hbd l W q=>?_];obtain⟨lp,q⟩:=oL q;rw[<-ca.hk.len] at q;have bk:=λb o e=>ca.hk.st b o (.inl (ca.bs b o e));have KX:=ca.mod.kin.keeps bk;have oE:=ca.mod.nolimit.keeps bk;(have kP:∀y∈Ml,scope.names.lookup y.1=XL\/(scope.names.lookup y.1=RM/\([OV,s.heap.objs.size+1,[]].lookup y.1).isSome=tj):=λ#[n,v] hy=>by rcases S.par n (cg hy).1 with q | q;exact .inl q;exact .inr #[q,xR _ _ _ (.inl q)]);refine codeAny_call_function hr.depth (KX _ _ lk) rfl S.co S.gen rfl (PySem.W.codeRec_of KX hcd) (hbd _ _ _ _ ?_);refine Xd S.kind kP λenv he s1 x=>?_;subst he;refine#[oE.keeps x.toInCall.keep,codeAny_func ?_];obtain⟨g1,I,gr⟩:=Iv.start S hr.hd ca l lp hL W x;refine UF ((hb A outer g h s E (hr.deeper _)).h (pins:=[]) (ws:=[]) #[g1,I,λ_ z=>by simp at z,λ_ z=>by simp at z] q) (λfl s' hs=>?_) λe s' hs=>hs;have gr:∀{g' ρ h'},Iv (YD T N qual scope f cdv A outer g h s E) g' ρ h' s'->Gr g g':=λI'=>#[λa r z y=>I'.kp a r z (y.elim id λy=>absurd z (y▸ca.nl a)),I'.ip];cases fl with| ret u =>obtain⟨d,ρ,h',⟨g',I',_,W'⟩,p⟩:=hs;exact p.ce ca I'.os I'.bare (gr I') I'.hk (W' _ aR)| next =>obtain⟨ρ,h',⟨g',I',_,_⟩,p⟩:=hs;exact p.ce ca I'.os I'.bare (gr I') I'.hk .non| brk=>exact False.elim hs| cont=>exact False.elim hs
end
structure QG (X:Cz)(tg:TV)(fg:RG):Prop where
 h:∀{pins ρ ρ' h ws s d u},J X pins ρ h ((d,u)::ws) s->fg d ρ=se ρ'->X.wp (assign tg X.env u) (λ_ s'=>J X pins ρ' h ws s') s
def GO (n:Nat)(fg:RG):Prop:=∀d ρ ρ',fg d ρ=se ρ'->ρ'.length=ρ.length/\∀i,n<=i->ρ'[i]?=ρ[i]?
structure Own (X:Cz)(pins:List (Tn×UK))(a:Tn):Prop where
 f:∀r,X.g₀.G a=ϊ->r.fix=fh
 p:∀p∈pins,p.1≠a
 c:∀x c,P9=ϛ->c≠a
structure Wk (B:Cb)(tg:TV)(it:Tn)(nx:Nx)(S:Nat->List (Tn×UK)->Prop)(wi:WL):Prop where
 step:∀{X:Cz} {i:Nat} {fp pins ρ h ws s o},X.B=B->X.calm=tj->S i fp->(∀p∈fp,[Oi,X,p.1])->J X (pins++fp) ρ h (wi++ws) s->nx h i=ζ->∀{E},Tv (Tz B.P B.w) X.A OJ (λr s1=>match o with
  | none=>r=ng/\J X pins ρ h (wi++ws) s1
  | some d=>∃u,r=se u/\Tv (Tz B.P B.w) X.A (UY tg (.ref it) u) (λ_ s2=>∃dw,S (i+1) dw/\dw.map (·.1)=fp.map (·.1)/\J X (pins++dw) ρ h ((d,u)::(wi++ws)) s2) E s1) E s
 self:∀{A:TC} {i fp s Q E},S i fp->(∀p∈fp,s.heap.get? p.1=se p.2)->Q II s->Tv (Tz B.P B.w) A Mv Q E s
inductive IR (X:Cz) (pins:List (Tn×UK)) (ρ:Ul) (ws:WL) (tg:TV) (P:Nx->TH->Prop) (itv:Value) (s:Tj):Prop
 | mk (it:Tn) (nx:Nx) (h:TH) (S:Nat->List (Tn×UK)->Prop) (wi:WL) (fp:List (Tn×UK)) (e:itv=II) (w:Wk X.B tg it nx S wi) (s0:S 0 fp) (ow:∀p∈fp,[Oi,X,p.1]) (j:J X (pins++fp) ρ h (wi++ws) s) (p:P nx h)
structure QI (X:Cz)(tg e:TV)(f:RI):Prop where
 h:∀{pins ρ h ws s P},J X pins ρ h ws s->(f ρ h).sat P X.E->X.wp [Ϧ,e] (λv s1=>X.wp (pyIter v) (IR X pins ρ ws tg P) s1) s
section
variable {X:Cz}{k:Nat}[Y:Yx X k] {m:Bool}{a b c e o tg iter:TV}{es:LI}{x y:To}{pos p q px py pz:VX}{fT:RT}{i j n l kt:Nat}{st:UW}{body:List UW}{fs:RS}{fg:RG}{fi:RI}{pins fp dw:List (Tn×UK)}{ρ:Ul}{h:TH}{ws:WL}{s:Tj}{d:D}{u:Value}{H':TU}{it:Tn}{ob ob':UK}{t:Nat}
omit Y
theorem fR (Y:Yx X k)(hi:X.N[i]?=ω:=by rfl)(hx:Loc X.env.scope x:=by first | exact Or.inl rfl | exact r8 rfl)(hf:X.fn x=tj\/NL=XL:=by first | exact .inl rfl | exact .inr rfl):QG X [QY,pos] (rN i):=#[λz e=>by cases e;exact wpAny_assign_Name (z.store Y.nd hi hx hf λ_ z=>by rw[eI];exact z)]
theorem GU (Y:Yx X k)(ht:∀d ρ ρ',fg d ρ=se ρ'->∃ds,d=Of/\ds.length=(assignEach es X.env).length/\∀{pins h ws s} {us:List Value},ds.length=us.length->J X pins ρ h (Ϩ++ws) s->X.wp (assignInOrder ((assignEach es X.env).map (·.2)) us) (λ_ s'=>J X pins ρ' h ws s') s) (lV:(assignEach es X.env).findIdx? (·.1)=none:=by rfl):QG X (.Tuple es kt pos) fg:=#[λ{pins ρ ρ' h ws s d u} z e=>by obtain⟨ds,rfl,hl,hg⟩:=ht _ _ _ e;obtain⟨a,us,rfl,l,zz,f,z⟩:=z.opS aR rfl;exact assign_Tuple_tuple (z.hd Y) f (by simp[<-hl,l]) lV λh' hx=>hg l ((z.kept (λb o e=>hx b o [QJ,e] e) s.toks).sub (by simp +contextual [or_imp]))]
theorem tY (Y:Yx X k)(h1:QG X [QY,px] (rN i))(h2:QG X [tA,py] (rN j)):QG X (.Tuple [[QY,px],[tA,py]] kt pos) (YS i j):=GU Y λd ρ ρ' e=>by unfold YS at e;split at e;cases e;refine#[_,rfl,rfl,λ{pins h ws s us} l z=>?_];obtain⟨u1,r,rfl,l2⟩:=pP l;obtain⟨u2,r,rfl,l3⟩:=pP l2;exact Ux (Uy (h1.h z rfl) λ_ _ z=>Ux (Uy (h2.h z rfl) λ_ _ z=>XN z));cases e
theorem GV (Y:Yx X k)(h1:QG X [QY,px] (rN i))(h2:QG X [tA,py] (rN j))(h3:QG X (.Name zz pz) (rN l)):QG X (.Tuple [[QY,px],[tA,py],.Name zz pz] kt pos) (rN3 i j l):=GU Y λd ρ ρ' e=>by unfold rN3 at e;split at e;cases e;refine#[_,rfl,rfl,λ{pins h ws s us} l z=>?_];obtain⟨u1,r,rfl,l2⟩:=pP l;obtain⟨u2,r,rfl,l3⟩:=pP l2;obtain⟨u3,r,rfl,l4⟩:=pP l3;exact Ux (Uy (h1.h z rfl) λ_ _ z=>Ux (Uy (h2.h z rfl) λ_ _ z=>Ux (Uy (h3.h z rfl) λ_ _ z=>XN z)));cases e
theorem wJ (h:i<n):GO n (rN i):=λd ρ ρ' e=>by cases e;rw[eI];grind
theorem wK (h1:i<n)(h2:j<n):GO n (YS i j):=λd ρ ρ' e=>by unfold YS at e;split at e;cases e;simp only[eI];grind;cases e
theorem zcY (h1:i<n)(h2:j<n)(h3:l<n):GO n (rN3 i j l):=λd ρ ρ' e=>by unfold rN3 at e;split at e;cases e;simp only[eI];grind;cases e
theorem J.unp (j:J X (pins++fp) ρ h ws s):J X pins ρ h ws s:=by cases j with | mk g I p W=>exact#[g,I,λy z=>p y (df _ z),W]
theorem J.turns0 (j:J X (pins++fp) ρ h ws s)(ow:∀p∈fp,[Oi,X,p.1])(k:∀b o,(∀p∈fp,b≠p.1)->ϧ=ζ->'0'=ζ)(dw:List (Tn×UK))(e:∀p∈dw,(∃o,(p.1,o)∈fp)/\H'.get? p.1=se p.2)(t:Nat):∃g',Iv X g' ρ h { s with heap:=H',toks:=t}/\(∀y∈pins++dw,g'.G y.1=[gV,y.2])/\cI X.B g' ws/\∀b,ϧ=ng->Ku=none:=by classical cases j with | mk g I p W =>let my:=λb=>∃o,(b,o)∈fp;have pg:∀{b},my b->∃o,Ϝ=[gV,o]:=λ{b} #[o,z]=>#[o,p (b,o) (dG _ z)];have nk:∀{b},¬my b->∀o,ϧ=ζ->'0'=ζ:=λ{b} z o=>k b o λq hq e=>z #[q.2,by exact e▸hq];let g':Gs:=#[λb=>if my b then(if∃o,(b,o)∈dw then '0'.map .pin else ng)else Ϝ,g.ι];have o1:∀{b},¬my b->Ku=Ϝ:=λz=>Sg;(have o2:∀{b r},my b->Ku=ϊ->∃o,r=Qo/\'0'=ζ:=λ{b r} z y=>by replace y:(if my b then(if∃o,(b,o)∈dw then '0'.map Ro.pin else ng)else Ϝ)=ϊ:=y;rw[LN] at y;split at y;(cases e1:'0' with| none=>rw[e1] at y;cases y| some o=>rw[e1] at y;cases y;exact#[o,rfl,rfl]);cases y);(have np:∀{b r},Ϝ=ϊ->(∀o,r≠Qo)->¬my b:=λ{b r} z n y=>by obtain⟨o,e⟩:=pg y;rw[z] at e;cases e;exact n o rfl);(have hk:Hk X.B g' h H':=by refine I.hk.go #[λa o z=>by rw[o1 (np z (by simp)),z],[],by simp[g']] rfl (λb r z y=>?_) (λa o z=>?_) (λa o z=>?_) λa r z=>?_;have n:=np z (by obtain⟨i,y | y⟩:=y<;>subst y<;>simp);exact#[by rw[o1 n,z],nk n];(all_goals by_cases n:my a);rcases z with z | z<;>obtain⟨o',e1,e2⟩:=o2 n z<;>cases e1;exact e2;rw[o1 n] at z;exact nk n _ (I.hk.st a o z);obtain⟨o',e1,e2⟩:=o2 n z;cases e1;rw[o1 n] at z;obtain⟨m,sl,e1⟩:=I.hk.sl a o z;exact#[m,sl,nk n _ e1];obtain⟨o',e1,e2⟩:=o2 n z;exact#[o',e2];rw[o1 n] at z;obtain⟨o,e1⟩:=I.hk.al a r z;exact#[o,nk n _ e1]);(have keep:∀{b r},Ϝ=ϊ->¬my b->Ku=ϊ:=λz n=>by rw[o1 n,z]);have le:Le g g':=#[λa o z=>keep z (np z (by simp)),[],by simp[g']];(have fx:∀a r,X.g₀.G a=ϊ->r.fix=tj->¬my a:=λa r z f #[o,y]=>by have:=(ow _ y).f r z;rw[f] at this;cases this);have cn:∀{y c},RL=ϛ->¬my c:=λ{y c} e #[o,z]=>(ow _ z).c y c e rfl;have cl:∀{y c},RL=ϛ->∀{v},[KN,v]->H'.IsCell c v:=λ{y c} e {v} #[o,ho,hd]=>#[o,nk (cn e) _ ho,hd];refine#[g',#[I.ok,I.os,I.bare,hk,λb o e=>le.d _ _ (I.bs b o e),λa r z f=>keep (I.kp a r z f) (fx a r z f),I.ip,keep I.lf (np I.lf (by simp)),?_,λy c e=>?_,I.len],λy z=>?_,le.held W,λb e=>?_];obtain⟨m,⟨o,es,ep,ho,r⟩,hl⟩:=I.lc;refine#[m,#[o,es,ep,nk (np I.lf (by simp)) _ ho,r],λi y d e1 e2 e3=>?_];obtain⟨u,dq,l⟩:=hl i y d e1 e2 e3;refine#[u,le.du dq,?_];rcases l with l | ⟨kk,c,e,z⟩;exact .inl l;exact .inr #[kk,c,e,cl e z];obtain⟨⟨v,z⟩,r⟩:=I.ce y c e;refine#[#[v,cl e z],?_];rcases r with r | ⟨⟨o,r⟩,f⟩;exact .inl (keep r (cn e));exact .inr #[#[o,keep r (cn e)],f];rcases dh.mp z with z | z;exact keep (p y (df _ z)) λ#[o,w]=>(ow _ w).p y z rfl;obtain⟨⟨o,w⟩,e1⟩:=e y z;show(if my y.1 then(if∃o,(y.1,o)∈dw then(H'.get? y.1).map Ro.pin else ng)else g.G y.1)=_;rw[Ta #[o,w],Ta #[y.2,z],e1];rfl;have n:=I.hk.fresh e;(have z:¬my b:=λy=>by obtain⟨o,e⟩:=pg y;rw[n] at e;cases e);rw[o1 z,n]
theorem J.turns (j:J X (pins++fp) ρ h ws s)(ow:∀p∈fp,[Oi,X,p.1])(k:∀b o,(∀p∈fp,b≠p.1)->ϧ=ζ->'0'=ζ)(dw:List (Tn×UK))(e:∀p∈dw,(∃o,(p.1,o)∈fp)/\H'.get? p.1=se p.2)(t:Nat):J X (pins++dw) ρ h ws { s with heap:=H',toks:=t} :=let #[g,I,p,W,_]:=j.turns0 ow k dw e t;#[g,I,p,W]
theorem J.turnT {ds:θ}{us:Ϛ}(j:J X (pins++fp) ρ h (Ϩ++ws) s)(ow:∀p∈fp,[Oi,X,p.1])(k:∀b o,(∀p∈fp,b≠p.1)->ϧ=ζ->'0'=ζ)(dw:List (Tn×UK))(e:∀p∈dw,(∃o,(p.1,o)∈fp)/\H'.get? p.1=se p.2)(n:s.heap.get? T=ng)(eT:H'.get? T=se { cls:=.type "tuple",data:=Lj})(l:ds.length=us.length)(zz:us.length<=sizeLine)(t:Nat):J X (pins++dw) ρ h ((Of,.ref T)::ws) { s with heap:=H',toks:=t}:=by obtain⟨g,I,p,W,f⟩:=j.turns0 ow k dw e t;have x:=Gr.upd (r:=se (.dat { cls:=.type "tuple",data:=Lj})) (f T n);exact J.via (t:=t) I p x (I.hk.role (λr z=>by rw[f T n] at z;cases z) _ (λ_ _ _ e=>e) λr z=>#[_,eT,λo' y=>by cases z;rcases y with y | y<;>cases y;rfl,λo' y=>by cases z;cases y]) (λ_ _ _ e=>e) (pM (.tup #[_,Gs.upd_same,λ_ e=>#[_,e,rfl,_,rfl]] l zz (x.le.held λw z=>W w (df _ z))) (x.le.held λw z=>W w (dG _ z)))
theorem J.turn (j:J X (pins++[(it,ob)]) ρ h ws s)(ow:[Oi,X,it])(k:∀b o,b≠it->ϧ=ζ->'0'=ζ)(e:Rb=se ob')(t:Nat):J X (pins++[(it,ob')]) ρ h ws { s with heap:=H',toks:=t} :=j.turns (by simpa using ow) (λb o z=>k b o (by simpa using z)) _ (by simpa using e) t
theorem J.drop (j:J X (pins++[(it,ob)]) ρ h ws s)(ow:[Oi,X,it])(k:∀b o,b≠it->ϧ=ζ->'0'=ζ)(t:Nat):J X pins ρ h ws { s with heap:=H',toks:=t}:=by simpa using j.turns (by simpa using ow) (λb o z=>k b o (by simpa using z)) [] (by simp) t
theorem J.pin (j:J X pins ρ h ws s)(k:∀b o,ϧ=ζ->'0'=ζ)(fp:List (Tn×UK))(n:∀p∈fp,s.heap.get? p.1=ng/\H'.get? p.1=se p.2)(t:Nat):J X (pins++fp) ρ h ws { s with heap:=H',toks:=t}/\∀p∈fp,[Oi,X,p.1]:=by classical cases j with | mk g I p W =>have nw:=λy z=>I.hk.fresh (n y z).1;let my:=λb=>∃o,(b,o)∈fp;let g':Gs:=#[λb=>if my b then '0'.map .pin else Ϝ,g.ι];have o1:∀{b},¬my b->Ku=Ϝ:=λz=>Sg;have o2:∀{b},my b->∃o,'0'=ζ/\Ku=[gV,o]:=λ{b} #[o,z]=>#[o,(n _ z).2,by show(if my b then '0'.map Ro.pin else Ϝ)=_;rw[Ta #[o,z],(n _ z).2];rfl];have old:∀{b r},Ϝ=ϊ->Ku=ϊ:=λ{b r} z=>(o1 λ#[o,y]=>by rw[nw _ y] at z;cases z).trans z;have gr:Gr g g':=#[λa r z _=>old z,[],by simp[g']];(have hk:=by refine(I.hk.kept k).go gr.le rfl (λb r z _=>#[old z,λ_ e=>e]) (λa o z=>?_) (λa o z=>?_) λa r z=>?_;(all_goals by_cases y:my a);obtain⟨o',e1,e2⟩:=o2 y;rw[e2] at z;rcases z with z | z<;>cases z;exact e1;rw[o1 y] at z;exact k _ _ (I.hk.st a o z);obtain⟨o',e1,e2⟩:=o2 y;rw[e2] at z;cases z;rw[o1 y] at z;obtain⟨m,sl,e⟩:=I.hk.sl a o z;exact#[m,sl,k _ _ e];obtain⟨o',e1,_⟩:=o2 y;exact#[o',e1];rw[o1 y] at z;obtain⟨o,e⟩:=I.hk.al a r z;exact#[o,k _ _ e]);refine#[#[g',I.go gr hk (λb o _=>k b o) t,λy z=>?_,Qu],λy z=>#[λr e=>?_,λq hq e=>?_,λx c e e2=>?_]];rcases dh.mp z with z | z;exact old (p y z);obtain⟨o,e1,e2⟩:=o2 #[y.2,z];rw[(n y z).2] at e1;cases e1;exact e2;(cases f:r.fix with| false=>rfl| true=>have:=I.kp _ _ e f;rw[nw y z] at this;cases this);have:=p q hq;rw[e,nw y z] at this;cases this;obtain⟨⟨v,o,ho,_⟩,_⟩:=I.ce x c e;rw[e2,(n y z).1] at ho;cases ho
variable [Y:Yx X k]
include Y
theorem GW (hc:QT X c fT)(hb:QB X body fs){m:Nat}(z:J X pins ρ h ws s)(q:(rWh fT fs m ρ h).sat P X.E):X.wp (exec (.While c body [] pos) X.env) (SR X pins ws P) s:=by refine wpAny_While (codeAny_whileLoop (λn s'=>∃ ρ h,J X pins ρ h ws s'/\(rWh fT fs n ρ h).sat P X.E) ?_ m #[ρ,h,z,q]);rintro n s1 ⟨ρ1,h1,z1,q1⟩;cases n with| zero=>exact q1.elim| succ n =>refine UX Y.po (Uy (hc.h z1 q1.bnd) λb s2 #[h2,z2,q2]=>?_);cases b with| true =>(refine UX Y.po (Uy (hb.h z2 q2.bnd) λf s3 t=>?_);cases f with| next=>obtain⟨ρ3,h3,z3,q3⟩:=t;exact#[n,i9 _,ρ3,h3,z3,q3]| ret v=>exact t| brk=>exact t.elim| cont=>exact t.elim)| false =>exact Vi #[_,_,z2,q2]
theorem Pw (hc:QT X c fT)(hb:QB X body fs):QS X (.While c body [] pos) (Wt w fT fs):=#[λz q=>by unfold Wt at q;split at q;exact GW hc hb z q;split at q;exact GW hc hb z q;exact q.elim]
theorem Af (hi:QI X tg iter fi)(hg:Yx X k->QG X tg fg)(hb:QB X body fs)(hs:∀x,foldedSetIterable iter X.env x=pure x:=by intro _;rfl):QS X (.For tg iter body [] pos) (U8 fi fg fs):=#[λ{pins ρ _ ws _ P} z q=>by refine wpAny_For (Uy (hi.h z q.bnd) λv s1 h1=>Uy h1 λitv s2 #[it,nx,h2,S,wi,fp,e,w,s0,ow,j,q]=>?_) hs;subst e;refine codeAny_forLoop_any (λm s'=>∃i dw ρ h,dw.map (·.1)=fp.map (·.1)/\S i dw/\J X (pins++dw) ρ h (wi++ws) s'/\(rGo nx fg fs m i ρ h).sat P X.E) ?_ 1000 #[0,fp,ρ,h2,rfl,s0,j,q];rintro m s3 ⟨i,fp3,ρ3,h3,e3,S3,j3,q3⟩;cases m with| zero=>exact q3.elim| succ m =>rw[yK] at q3;(have ow3:∀p∈fp3,[Oi,X,p.1]:=λp hp=>by have:=e3▸aU.mpr #[p,hp,rfl];obtain⟨p',d5,e'⟩:=PK;exact e'▸ow p' d5);split at q3;rename_i e2;refine UX Y.po (Uy (w.step rfl Y.calm S3 ow3 j3 e2) λr s4 #[hr,j4]=>?_);subst hr;exact Vi #[_,_,j4.sub (by simp +contextual),q3];rename_i d e2;obtain⟨ρ1,e4,q4⟩:=q3.o;refine UX Y.po (Uy (w.step rfl Y.calm S3 ow3 j3 e2) λr s4 #[u,hr,h4]=>?_);subst hr;refine UX Y.po (Uy h4 λ_ s5 #[fp5,S5,e5,j5]=>?_);refine UX Y.po (Uy ((hg Y).h j5 e4) λ_ s6 j6=>?_);refine UX Y.po (Uy (hb.h j6 q4.bnd) λf s7 t=>?_);(cases f with| next=>obtain⟨ρ7,h7,z7,q7⟩:=t;exact#[m,i9 _,i+1,fp5,ρ7,h7,e5.trans e3,S5,z7,q7]| ret v=>obtain⟨d,ρ7,h7,z7,q7⟩:=t;exact#[d,ρ7,h7,z7.unp.sub (by simp +contextual [or_imp]),q7]| brk=>exact t.elim| cont=>exact t.elim);exact q3.elim]
end
theorem GX (z:∀b∈l,∃o,'8'=ζ):(Yh l H).map (·.1)=l:=by induction l with| nil=>rfl| cons b l ih =>obtain⟨o,e⟩:=z b aR;unfold Yh at ih ⊢;rw[rO,e];simp only[r6,bz];rw[ih λb hb=>z b (a7 _ hb)]
abbrev At (as:LM)(S:Nat->TU->Prop)(i:Nat)(fp:List (Tn×UK)):Prop:=fp.map (·.1)=as/\∀H:TU,(∀p∈fp,H.get? p.1=se p.2)->S i H
inductive NV (X:Cz) (pins:List (Tn×UK)) (ρ:Ul) (h:TH) (ws:WL) (s:Tj) (H':TU) (d:D) (u:Value):Prop
 | old (j:J X pins ρ h ((d,u)::ws) s)
 | tup (T:Tn) (ds:θ) (us:Ϛ) (ed:d=Of) (eu:u=.ref T) (n:s.heap.get? T=ng) (e:H'.get? T=se { cls:=.type "tuple",data:=Lj}) (l:ds.length=us.length) (z:us.length<=sizeLine) (j:J X pins ρ h (Ϩ++ws) s)
section
variable {B:Cb}{tg:TV}{it:Tn}{nx:Nx}{wi:WL}{as:LM}{SI:Nat->TU->Prop}
theorem Ag (keep:∀{i H H'},SI i H->(∀b∈as,∀o,'8'=ζ->'0'=ζ)->SI i H')(ob:∀{i H},SI i H->∀b∈as,∃o,'8'=ζ)
  (next:∀{X:Cz} {i:Nat} {pins ρ h ws s o},X.B=B->X.A.handled=ng->SI i s.heap->J X pins ρ h (wi++ws) s->nx h i=ζ->∀{E},Tv (Tz B.P B.w) X.A OJ (λr s1=>match o with
   | none=>r=ng/\∃H' t,s1={ s with heap:=H',toks:=t}/\∀b o,b∉as->ϧ=ζ->'0'=ζ
   | some d=>∃u,r=MT/\Tv (Tz B.P B.w) X.A (UY tg II u) (λ_ s2=>∃H' t,s2={ s with heap:=H',toks:=t}/\(∀b o,b∉as->ϧ=ζ->'0'=ζ)/\SI (i+1) H'/\NV X pins ρ h (wi++ws) s H' d u) E s1) E s)
  (self:∀{A:TC} {i s Q E},SI i s.heap->Q II s->Tv (Tz B.P B.w) A Mv Q E s):Wk B tg it nx (At as SI) wi where
 self:=λ#[_,st] e q=>self (st _ e) q
 step:=λ{X i fp pins ρ h ws s o} eB hc #[ea,st] ow j e {E}=>by
  have hd:X.A.handled=none:=let #[_,I]:=j.inv;I.ok.hd hc
  have at_:∀p∈fp,s.heap.get? p.1=se p.2:=λp hp=>by cases j with | mk g I pp W=>exact[O1,_,_,pp p (dG _ hp)]
  have nf:∀{H':TU},(∀b o,b∉as->ϧ=ζ->'0'=ζ)->∀b o,(∀p∈fp,b≠p.1)->ϧ=ζ->'0'=ζ:=λk b o z=>k b o λy=>by rw[<-ea] at y;obtain⟨p,hp,e⟩:=aU.mp y;exact z p hp e.symm
  refine Uy (next eB hd (st _ at_) j e) λr s1 hq=>?_
  cases o with
  | none =>
   obtain⟨hr,H',t,rfl,k⟩:=hq;exact#[hr,by simpa using j.turns ow (nf k) [] (by simp) t]
  | some d =>
   obtain⟨u,hr,hq⟩:=hq;refine#[u,hr,Uy hq λ_ s2 #[H',t,e2,k,gQ,nv]=>?_];subst e2;have mem:∀p∈Yh as H',(∃o,(p.1,o)∈fp)/\H'.get? p.1=se p.2:=λp hp=>by obtain⟨hb,e⟩:=Cq hp;rw[<-ea] at hb;obtain⟨p',d5,e'⟩:=aU.mp hb;exact#[#[p'.2,e'▸d5],e]
   have ma:=GX (ob gQ);refine#[Yh as H',#[ma,λH hH=>keep gQ λb hb o e=>hH _ (Cp hb e)],by rw[ma,ea],?_]
   cases nv with
   | old j'=>exact j'.turns ow (nf k) _ mem t
   | tup T ds us ed eu n eT l z j'=>subst ed eu;exact j'.turnT ow (nf k) _ mem n eT l z t
theorem wL (nt:["enumerate","zip","dict_itemiterator","dict_reverseitemiterator","odict_iterator","itertools.zip_longest","itertools.pairwise"].contains nm=fh)(ob:∀{i H},SI i H->∃o vs,H.get? it=ζ/\o.cls=.type nm/\o.data=KL/\∀H':TU,Rb=ζ->SI i H') (next:∀{X:Cz} {i:Nat} {pins ρ h ws s o},X.B=B->X.A.handled=ng->SI i s.heap->J X pins ρ h (wi++ws) s->nx h i=ζ->∀{Q E},(∀r H' t,(∀b o,b≠it->ϧ=ζ->'0'=ζ)->(match o with| none=>r=ng| some d=>SI (i+1) H'/\∃u,r=MT/\J X pins ρ h ((d,u)::(wi++ws)) s)->Q r { s with heap:=H',toks:=t})->Tv (Tz B.P B.w) X.A OJ Q E s) (self:∀{A:TC} {i s Q E},SI i s.heap->Q II s->Tv (Tz B.P B.w) A Mv Q E s):Wk B tg it nx (At [it] SI) wi :=Ag (λst k=>by obtain⟨o,_,e,_,_,f⟩:=ob st;exact f _ (k it (by simp) o e)) (λst b hb=>by obtain⟨o,_,e,_⟩:=ob st;rw[cO.mp hb];exact#[o,e]) (λ{X i pins ρ h ws s o} eB hd st j e {E}=>next eB hd st j e λr H' t k q=>by cases o with| none=>exact#[q,H',t,rfl,λb o hb=>k b o (by simpa using hb)]| some d =>obtain⟨gQ,u,hr,j'⟩:=q;obtain⟨o,vs,e1,c,dd,_⟩:=ob gQ;exact#[u,hr,zaA e1 c dd nt #[H',t,rfl,λb o hb=>k b o (by simpa using hb),gQ,.old j']]) self
variable {X:Cz}{k:Nat}[Y:Yx X k] {pins:List (Tn×UK)}{ρ:Ul}{h:TH}{ws:WL}{s:Tj}{H':TU}{P:Nx->TH->Prop}{x:D}{a:Tn}{ds:θ}
theorem pS (w:Wk X.B tg it nx (At as S0) wi)(j:J X pins ρ h (wi++ws) s)(k:∀b o,ϧ=ζ->'0'=ζ)(st:S0 0 H')(keep:∀{H},(∀b∈as,∀o,'0'=ζ->'8'=ζ)->S0 0 H)(n:∀b∈as,ϧ=ng/\∃o,'0'=ζ)(q:P nx h)(t:Nat):IR X pins ρ ws tg P II { s with heap:=H',toks:=t}:=by(have mem:∀p∈Yh as H',s.heap.get? p.1=ng/\H'.get? p.1=se p.2:=λp hp=>by obtain⟨hb,e⟩:=Cq hp;exact#[(n _ hb).1,e]);obtain⟨j',ow⟩:=j.pin k (Yh as H') mem t;refine#[it,nx,h,_,wi,Yh as H',rfl,w,#[?_,λH hH=>keep λb hb o e=>hH _ (Cp hb e)],ow,j',q];exact GX λb hb=>(n b hb).2
theorem Px (e:X4 x h i=ζ)(j:J X pins ρ h ([(x,ψ)]++ws) s):∃us,(bif ϴ then s.heap.IsTuple a us else s.heap.IsList a us)/\match o with| none=>us[i]?=ng| some d=>∃u,us[i]?=MT/\J X pins ρ h ((d,u)::([(x,ψ)]++ws)) s:=by obtain⟨ds,e1,rfl⟩:=iQ e;obtain⟨a',us,ea,l,z,f,j⟩:=j.opS aR e1;cases ea;refine#[us.toArray,?_,?_];(cases ht:ϴ with| true=>rw[ht] at f;exact f| false=>rw[ht] at f;obtain⟨n,f⟩:=f;exact#[_,f,rfl,n,rfl]);rw[aX];cases e4:ds[i]? with| none=>simpa [<-l] using e4| some d=>obtain⟨u,e5,j⟩:=j.item l e4;exact#[u,by simpa using e5,j]
theorem Py:Wk B tg it (X4 x) (At [it] λi H=>XA ϴ H it a i) [(x,ψ)]:=by refine wL (nm:=if ϴ then "tuple_iterator"else "list_iterator") (by cases ϴ<;>decide) (λ{i H} st=>?_) (λ{X i pins ρ h ws s o} eB hd st j e {Q E} q=>?_) λ{A i s Q E} st q=>?_;(cases ht:ϴ with| true=>rw[ht] at st;obtain⟨o,e,c,d⟩:=st;exact#[o,_,e,c,d,λH' e'=>#[o,e',c,d]]| false=>rw[ht] at st;obtain⟨o,e,c,d⟩:=st;exact#[o,_,e,c,d,λH' e'=>#[o,e',c,d]]);obtain⟨us,f,r⟩:=Px e j;(cases ht:ϴ with| true =>(rw[ht] at st f q;cases o with| none=>exact wpAny_pyNext_tuple_end hd st f r λh' eb=>q ng h' s.toks (λb o hb e=>eb b o hb e) rfl| some d=>obtain⟨u,e5,j⟩:=r;exact wpAny_pyNext_tuple_item st f e5 λh' gQ sb=>q MT h' s.toks (λb o hb e=>sb.extBut b o hb e) #[gQ,u,rfl,j])| false =>rw[ht] at st f q;cases o with| none=>exact Wl hd st f r λh' eb=>q ng h' s.toks (λb o hb e=>eb b o hb e) rfl| some d=>obtain⟨u,e5,j⟩:=r;exact V6 st f e5 λh' gQ sb=>q MT h' s.toks (λb o hb e=>sb.extBut b o hb e) #[gQ,u,rfl,j]);cases ht:ϴ with| true=>rw[ht] at st;exact wpAny_pyIter_tupleiter st q| false=>rw[ht] at st;exact wpAny_pyIter_listiter st q
theorem Pz {St:Nat->TU->Prop}(nt:["enumerate","zip","dict_itemiterator","dict_reverseitemiterator","odict_iterator","itertools.zip_longest","itertools.pairwise"].contains nm=fh)(ob:∀{i H},SI i H->∃o vs,H.get? it=ζ/\o.cls=.type nm/\o.data=KL/\∀H':TU,Rb=ζ->SI i H') (W:∀A:TC,A.handled=ng->Walks B.P B.w A it fw [it] n Pv St) (st:∀{X:Cz} {i pins ρ h ws s},X.B=B->J X pins ρ h (wi++ws) s->SI i s.heap->St i s.heap) (gQ:∀{i H},St i H->SI i H) (hx:∀{X:Cz} {i pins ρ h ws s o},X.B=B->J X pins ρ h (wi++ws) s->nx h i=ζ->match o with| none=>i=n| some d=>i<n/\∀v,Pv i v->J X pins ρ h ((d,v)::(wi++ws)) s) (self:∀{A:TC} {i s Q E},SI i s.heap->Q II s->Tv (Tz B.P B.w) A Mv Q E s):Wk B tg it nx (At [it] SI) wi :=wL nt ob (λ{X i pins ρ h ws s o} eB hd s0 j e {Q E} q=>by have r:=hx eB j e;cases o with| none=>subst r;exact(W X.A hd).done s _ _ (st eB j s0) λh' tk kk=>q ng h' tk (λb o hb=>kk b o (by simpa using hb)) rfl| some d=>exact(W X.A hd).item i s _ _ r.1 (st eB j s0) λv h' tk hv s1 kk=>q (se v) h' tk (λb o hb=>kk b o (by simpa using hb)) #[gQ s1,v,rfl,r.2 v hv]) self
end
section
variable {X:Cz}{k:Nat}[Y:Yx X k] {tg e a b c:TV}{fa fb fc:RE}{fA:RA}{p pos:VX}{qe:LI}{kt:Nat}{tp:VX}
omit Y in
theorem zaT {H:TU}{it a:Tn}{t:Bool}{i:Nat}(st:XA t H it a i):∃o,H.get? it=ζ/\∀H':TU,Rb=ζ->XA t H' it a i:=by
 unfold XA at st ⊢
 cases t<;>obtain⟨o,e,c⟩:=st<;>exact#[o,e,λH' e'=>#[o,e',c]]
theorem Ah {k:T4}(h:(Ue P w).is k u=tj):DU B g (kd k) u:=by rcases lB h with ⟨i,t,rfl,rfl⟩ | ⟨x,t,rfl,rfl⟩;exact .int;exact .str
theorem zcn {it a:Tn}:Wk B tg it (nKs ks) (At [it] λi H=>H.IsKeyIter it a i ks.length ep) [(.dic ks ds,ψ),(.fn ep,ψ)] :=wL (nm:="dict_keyiterator") (by decide) (λ{i H} st=>by obtain⟨o,e,c,d⟩:=st;exact#[o,_,e,c,d,λH' e'=>#[o,e',c,d]]) (λ{X i pins ρ h ws s o} eB hd st j e {Q E} q=>by subst eB;(have da:∃us:List Value,ks.length=us.length/\s.heap.DictAt [MI,X.B.w] a 'C' ep:=by cases j with | mk g I p W =>cases W (.dic ks ds,ψ) (by simp)with | dic f n k l z A =>cases W (.fn ep,ψ) (by simp)with | fn f' =>obtain⟨o1,e1,f⟩:=f;obtain⟨o2,e2,f'⟩:=f';obtain⟨o1,es,ep',h1,h2,h3,r⟩:=f _ [Re,_,_,e1];obtain⟨o2,es',h4,h5⟩:=f' _ [Re,_,_,e2];rw[h1] at h4;cases h4;rw[h3] at h5;cases h5;exact#[_,by rw[k,l],o1,es,h1,h2,h3,r]);obtain⟨us,l,da⟩:=da;(have zl:'C'.length=ks.length:=by simp[l]);rw[<-zl] at st;cases e;cases e4:eg ks i with| none =>rw[e4] at q;rw[aX] at e4;exact wpAny_pyNext_dict_end hd st da ε λh' eb=>q ng h' s.toks (λb o hb e=>eb b o hb e) rfl| some k0 =>rw[e4] at q;rw[aX] at e4;obtain⟨v,hv⟩:∃v,us[i]?=se v:=#[us[i]'(by exact l▸(aQ.mp e4).1),by simp];exact wpAny_pyNext_dict_item st da (bU.mpr #[e4,hv]) λbE h' hk gQ sb=>q (se bE) h' s.toks (λb o hb e=>sb.extBut b o hb e) #[by exact zl▸gQ,bE,rfl,j.add λg=>Ah hk]) λst q=>wpAny_pyIter_keyiter st q
theorem GY (nt:["enumerate","zip","dict_itemiterator","dict_reverseitemiterator","odict_iterator","itertools.zip_longest","itertools.pairwise"].contains T=fh) (W:∀A:TC,A.handled=ng->Walks B.P B.w A it [it] [it] x.cps.size (SignAt x) λi h=>h.IsStrIter it T x t i) (sf:∀{A:TC} {i s Q E},s.heap.IsStrIter it T x t i->Q II s->Tv (Tz B.P B.w) A Mv Q E s) :Wk B tg it (nStr x) (At [it] λi H=>H.IsStrIter it T x t i) [] :=Pz nt (λst=>by obtain⟨o,e,c,d⟩:=st;exact#[o,_,e,c,d,λH' e'=>#[o,e',c,d]]) W (λ_ _ st=>st) (λst=>st) (λ{X i pins ρ h ws s o} eB j e=>by unfold nStr at e;cases hb:bR i NQ with| false=>rw[hb] at e;cases e| true =>rw[hb] at e;have e1:=dU e;have le:=nK hb;rw[aW] at le;cases e4:eg x.cps.toList i with| none =>rw[e4] at e1;rw[aX] at e4;subst e1;simp at e4;exact Nat.le_antisymm le e4| some c =>rw[e4] at e1;rw[aX] at e4;subst e1;simp at e4;refine#[by grind,λv hv=>?_];obtain⟨c',u,h1,rfl⟩:=hv;rw[e4] at h1;cases h1;exact j.add λ_=>.str) sf
theorem PC (h:QE X e fa):QI X tg e (Vb fa):=#[λ{pins ρ _ ws _ P} z q=>Uy (h.h z q.bnd) λu s1 #[x,h,z,q]=>by split at q;rename_i ks ds;(have op:∃a ep d7,u=ψ/\(a==Vv)=fh/\d7.length=ks.length/\s1.heap.DictAt [MI,X.B.w] a d7 ep/\J X pins ρ h ([(.dic ks ds,ψ),(.fn ep,ψ)]++ws) s1:=by cases z with | mk g I p W =>cases W _ aR with | dic f n kl l zz A =>obtain⟨o,e1,f⟩:=f;have hq:=[Re,_,_,e1];obtain⟨o',es,ep,e2,r⟩:=f _ hq;rw[hq] at e2;cases e2;refine#[_,ep,_,rfl,n,by simp[kl,l],#[o,es,hq,r],g,I,p,λw z=>?_];simp only[oW,BB,bi] at z;rcases z with rfl | rfl | z;exact W _ aR;exact .fn #[o,e1,λH e=>#[o,es,e,r.2.1]];exact W _ (a7 _ z));obtain⟨a,ep,d7,rfl,n,l,da,z⟩:=op;refine wpAny_pyIter_dict n da ?_;exact pS zcn z (λ_ _=>Heap.get?_push_of_some _) #[_,Heap.get?_push_size _ rfl,rfl,by rw[l];rfl] (λkk=>#[_,kk _ (by simp) _ (Heap.get?_push_size _ rfl),rfl,by rw[l];rfl]) (by simpa using #[ig,_,Heap.get?_push_size _ rfl]) q s1.toks;rename_i x;obtain⟨t,rfl⟩:=z.str;have z:=z.tl;cases ha:x.cps.all (·<128);exact wpAny_pyIter_wide ha (pS (GY (by decide) (λA hA=>Walks.strWide hA _ x t) λst q=>wpAny_pyIter_striter_wide st q) z (λ_ _=>Heap.get?_push_of_some _) #[_,Heap.get?_push_size _ rfl,rfl,rfl] (λkk=>#[_,kk _ (by simp) _ (Heap.get?_push_size _ rfl),rfl,rfl]) (by simpa using #[ig,_,Heap.get?_push_size _ rfl]) q s1.toks);exact wpAny_pyIter_ascii ha (pS (GY (by decide) (λA hA=>Walks.strAscii hA _ x t) λst q=>wpAny_pyIter_striter_ascii st q) z (λ_ _=>Heap.get?_push_of_some _) #[_,Heap.get?_push_size _ rfl,rfl,rfl] (λkk=>#[_,kk _ (by simp) _ (Heap.get?_push_size _ rfl),rfl,rfl]) (by simpa using #[ig,_,Heap.get?_push_size _ rfl]) q s1.toks);obtain⟨ds,e1,q⟩:=q.o;obtain⟨a,us,rfl,l,zz,f,_⟩:=z.opS aR e1;(have new:∀t,t=ϴ->IR X pins ρ ws tg P (.ref s1.heap.objs.size) { s1 with heap:=s1.heap.push (UV t a),toks:=s1.toks}:=λt et=>by(have st:XA ϴ (s1.heap.push (UV t a)) s1.heap.objs.size a 0:=by exact et▸qS (Heap.get?_push_size _ rfl));obtain⟨o,e2,f⟩:=zaT st;exact pS Py z (λ_ _=>Heap.get?_push_of_some _) st (λkk=>f _ (kk _ (by simp) _ e2)) (by simpa using #[ig,_,e2]) q s1.toks);cases ht:ϴ with| true=>rw[ht] at f;exact wpAny_pyIter_tuple f (new tj ht.symm)| false=>rw[ht] at f;obtain⟨n,f⟩:=f;exact Uo #[_,f,rfl,n,rfl] (new fh ht.symm)]
theorem PD {lo c:Int}(hn:∀h i,nx h i=se (bif bI i n then[ϒ,lo+ .ofNat i*c]else ng)):Wk B tg it nx (At [it] λi H=>IsRangeIter H it (lo+i*c) (n-i) c) [] :=wL (by decide) (λst=>#[_,_,st,rfl,rfl,λH' e'=>e']) (λ{X i pins ρ h ws s o} eB hd st j e {Q E} q=>by rw[hn] at e;cases e;cases hb:bI i n with| false =>rw[hb] at q;exact wpAny_pyNext_range_end hd st (by rw[<-AL,cF] at hb;lia) λh' eb=>q ng h' s.toks (λb o hb e=>eb b o hb e) rfl| true =>rw[hb] at q;(have e1:lo+((i+1:Nat))*c=lo+i*c+c:=by push_cast;rw[oP,w4,Int.add_assoc]);(have e2:(n:Int)-((i+1:Nat))=n-i-1:=by lia);refine wpAny_pyNext_range_item st ε λh' gQ sb=>q _ h' _ (λb o hb e=>sb.extBut b o hb e) #[by rw[e1,e2];exact gQ,_,rfl,j.add λ_=>.int]) λst q=>wpAny_pyIter_rangeiter st q
include Y in
theorem PE (ha:QA X [a] fA)(h:SC X "range" pos [a]:=by exact⟨rfl,by decide,by decide,rfl⟩):QI X tg [Os,.Name "range" p,[a],[]] (rIr fA):=#[λ{pins ρ _ ws _ P} z q=>Tw (gZ z h.g H2 boot_range (ju h.pl (gu h.pl (Uy (ha.h (pos:=pos) z q.bnd) λus s1 #[ds,h1,l,z,q]=>by
 split at q
 .rename_i n;obtain⟨hb,q⟩:=q.i;obtain⟨u,rfl,z⟩:=one l z;obtain⟨t,rfl⟩:=z.int;have hb:n<2^62:=by simpa [cF] using hb
  refine call_range_1 (wpAny_pyIter_range (IsRange.new ..) (small_one (by lia) (by lia) (by simp) (by simp;lia)) ?_)
  have z1:J X pins ρ h1 ([]++ws) { s1 with heap:=s1.heap.push { cls:=.type "range",data:=.fields ([.int 0 s1.toks,.int (rJ n) t,.int 1 (s1.toks+1)].toArray)},toks:=s1.toks+1+1}:=z.tl.kept (λ_ _=>Heap.get?_push_of_some _) _
  have e2:Builtin.Range.rangeSize 0 (rJ n) 1=(n:Int)-((0:Nat):Int):=by rw[rangeSize_one];split<;>simp_all
  refine pS (as:=[_]) (S0:=λi H=>IsRangeIter H _ (0+(i:Nat)*1) ((n:Int)-(i:Nat)) 1) (PD (n:=n) (λh i=>by unfold nRg;simp)) z1 (λ_ _=>Heap.get?_push_of_some _) ?_ ?_ (λb hb=>by rw[cO.mp hb];exact#[ig,_,Heap.get?_push_size _ rfl]) q _
  .rw[e2];exact Heap.get?_push_size _ rfl
  .intro H kk;rw[e2] at kk;exact kk _ (by simp) _ (Heap.get?_push_size _ rfl)
 .cases q))) h.n h.d)]
theorem zdr {e it a:Tn}(ne:e≠it)(nt:ϴ=fh):Wk B (.Tuple qe kt tp) e (nEn x) (At [e,it] λi H=>(∃old,IsEnum H e it i old)/\H.IsListIter it a i) [(x,ψ)] :=Ag (λst k=>by obtain⟨⟨old,he⟩,dD⟩:=st;exact#[#[old,k e (by simp) _ he],dD.at λo x=>k it (by simp) o x]) (λst b hb=>by obtain⟨⟨old,he⟩,o,e1,_⟩:=st;simp only[bi,gW,or_false] at hb;rcases hb with rfl | rfl;exact#[_,he];exact#[o,e1]) (λ{X i pins ρ h ws s o} eB hd st j q {E}=>by obtain⟨⟨old,he⟩,dD⟩:=st;obtain⟨ds,e1,rfl⟩:=iQ q;obtain⟨a',us,ea,l,z,f,j⟩:=j.opS aR e1;cases ea;rw[nt] at f;obtain⟨n,f⟩:=f;have f:[Jt,a]:=#[_,f,rfl,n,rfl];rw[aX];cases e4:ds[i]? with| none=>exact wpAny_pyNext_enum_end hd he dD f (by simpa [<-l] using e4) λh1 hb=>#[rfl,h1,s.toks,rfl,λb o hb' eo=>hb b o (λz=>hb' (by simp[z])) eo]| some d =>obtain⟨u,e5,j⟩:=j.item l e4;refine wpAny_pyNext_enum_item he dD f (by simpa using e5) ne λh1 ho hit1 hT jm hk=>#[_,rfl,?_];refine wpAny_letOwnedTupleGo_enum ho λh2 uz oy=>?_;have hTe:=eG (Heap.lt_size he);exact#[h2,s.toks+1,rfl,λb o hb eo=>oy.extBut b o (λz=>hb (by simp[z])) (hk b o (λz=>hb (by simp[z])) (λz=>hb (by simp[z])) eo),#[#[_,by exact uz],hit1.at λo x=>(oy.2 it ne.symm).trans x],.tup _ [[KZ,i],d] [.int i s.toks,u] rfl rfl ig (oy.extBut _ _ hTe hT) rfl (show 2<=sizeLine by decide) ((j.add (u:=.int i s.toks) λ_=>.int).sub (by simp +contextual [or_imp]))]) λst q=>wpAny_pyIter_enum st.1.choose_spec q
include Y in
theorem zdB (ha:QE X a fa)(h:SC X "enumerate" pos [a]:=by exact⟨rfl,by decide,by decide,rfl⟩)(hs:[ϵ,[a]]=[(fh,[Ϧ,a])]:=by rfl):QI X (.Tuple qe kt tp) [Os,.Name "enumerate" p,[a],[]] (rIe fa):=#[λ{pins ρ _ ws _ P} z q=>Tw (gZ z h.g H2 Jh (ju h.pl (gu h.pl (by
 rw[hs];refine[Nu,[CX,z],λu s1 #[x,h1,z,q]=>Calls.spliced_nil ?_];obtain⟨ds,e1,q⟩:=q.o;obtain⟨nt,q⟩:=q.i;have nt:ϴ=fh:=by simpa using nt
 obtain⟨a,us,rfl,l,zz,f,_⟩:=z.opS aR e1;rw[nt] at f;obtain⟨n,f⟩:=f;refine call_enumerate_list #[_,f,rfl,n,rfl] λh1 he dD jm hk=>wpAny_pyIter_enum he ?_;obtain⟨o,e2,c,d⟩:=id dD;refine pS (as:=[s1.heap.objs.size+1,s1.heap.objs.size]) (zdr (a:=a) (Nat.succ_ne_self _) nt) z hk #[#[_,he],dD] (λkk=>#[#[_,kk _ (by simp) _ he],o,kk _ (by simp) _ e2,c,d]) (λb hb=>?_) q s1.toks
 simp only[bi,gW,or_false] at hb;rcases hb with rfl | rfl
 .exact#[Heap.get?_none_of_le (l7 _),_,he]
 .exact#[ig,_,e2]))) h.n h.d)]
theorem zbT (j:J X pins ρ h w s):∀ds (aJ:List (Bool×Tn)) o,ds.length=aJ.length->(∀(n:Nat) d p,ds[n]?=ϩ->aJ[n]?=ϕ->(d,Value.ref p.2)∈w/\Ug d=p.1)->eZ h i ds=ζ->∃xss:Nat->Array Value,(∀n p,aJ[n]?=ϕ->[te,p.1,p.2,xss n])/\match o with| none=>∃n:Nat,n<aJ.length/\(xss n)[i]?=ng| some ys=>ys.length=aJ.length/\∃us:List Value,us.length=aJ.length/\(∀n:Nat,n<aJ.length->(xss n)[i]?=us[n]?)/\J X pins ρ h (ys.zip us++w) s:=by intro ds aJ o l;revert o;refine zY (λo _ e=>?_) (λd ds p aJ l ih o m e=>?_) l;cases e;exact#[λ_=>([].toArray),λn p z=>by simp at z,rfl,[],rfl,λn z=>by simp at z,j];obtain⟨m0,t0⟩:=m 0 d p rfl rfl;have ih:=λo=>ih o λn d p h1 h2=>m (n+1) d p (by exact h1) (by exact h2);replace e:(match eS h d with| none=>ng| some xs=>match eZ h i ds with| none=>ng| some ng=>PV| some (se ys)=>match eg xs i with| some x=>se (se (x::ys))| none=>PV)=ζ:=e;(have op:∀{w'} {xs:List D},(∀y∈w,y∈w')->eS h d=se xs->J X pins ρ h w' s->∃us:List Value,xs.length=us.length/\[te,p.1,p.2,us.toArray]/\J X pins ρ h (xs.zip us++w') s:=λ{w' xs} mm e1 jj=>by obtain⟨a',us,ea,l,z,f,j⟩:=jj.opS (mm _ m0) e1;cases ea;refine#[us,l,?_,j];rw[t0] at f;cases ht:p.1 with| true=>rw[ht] at f;exact f| false=>rw[ht] at f;obtain⟨n,f⟩:=f;exact#[_,f,rfl,n,rfl]);split at e;cases e;rename_i xs e1;split at e;cases e;rename_i e2;cases e;obtain⟨xss,h1,n,h2,h3⟩:=ih _ e2;obtain⟨us,_,h4,_⟩:=op (λ_ z=>z) e1 j;exact#[λn=>n.casesOn us.toArray xss,λn q hq=>by cases n with| zero=>cases hq;exact h4| succ n=>exact h1 n q (by exact hq),n+1,by simpa using h2,h3];rename_i ys e2;obtain⟨xss,h1,l2,us2,l3,h3,j3⟩:=ih _ e2;obtain⟨us,l4,h4,j4⟩:=op (λ_ z=>dG _ z) e1 j3;rw[aX] at e;(have hs:∀n q,(p::aJ)[n]?=Ϡ->[te,q.1,q.2,Nat.casesOn n us.toArray xss]:=λn q hq=>by cases n with| zero=>cases hq;exact h4| succ n=>exact h1 n q (by exact hq));refine#[λn=>n.casesOn us.toArray xss,hs,?_];split at e;rename_i x e5;cases e;obtain⟨u,e6,j5⟩:=j4.item l4 e5;refine#[by simpa using l2,u::us2,by simpa using l3,λn hn=>?_,j5.sub (by simp +contextual [or_imp])];(cases n with| zero=>show us.toArray[i]?=MT;simpa using e6| succ n=>exact h3 n (by simpa using hn));rename_i e5;cases e;exact#[0,by simp,show us.toArray[i]?=ng by simpa [<-l4] using e5]
theorem PJ {b:Nat}{aJ:List (Bool×Tn)}(dB:aJ.length≠0)(hm:aJ.length<=100)(aE:∀p∈aJ,p.2<b)(l:ds.length=aJ.length)(m:∀(n:Nat) d p,ds[n]?=ϩ->aJ[n]?=ϕ->(d,Value.ref p.2)∈wi/\Ug d=p.1) :Wk B tg (b+aJ.length+2) (nZp ds) (At (kc b (aJ.length+3)) (ZSt b aJ)) wi :=Ag (λst kk=>st.keep λc h1 h2 o g=>kk c (Yn.mpr #[h1,h2]) o g) (λst c hc=>by obtain⟨o,e,_⟩:=st.obj c 'A'.1 'A'.2;exact#[o,e]) (λ{X i pins ρ h ws s o} eB hd st j q {E}=>by subst eB;obtain⟨o',e1,rfl⟩:=iQ q;obtain⟨xss,hs,r⟩:=zbT j ds aJ o' l (λn d p h1 h2=>by obtain⟨a,b⟩:=m n d p h1 h2;exact#[df _ a,b]) e1;(have kp:∀c,c∉kc b (aJ.length+3)->Kp b aJ.length c:=λc hc=>by have qq:¬(b<=c/\c<b+aJ.length+3):=λz=>hc (Yn.mpr z);unfold Kp;lia);refine C5 hd dB hm aE st hs (λh' aA vl vx z1 t1 sz kk=>?_) λhex h' kk=>?_;(cases o' with| none =>exfalso;obtain⟨n,hn,e⟩:=r;rw[vx n hn,w6] at e;exact NAG.gl76 hn vl e| some ys =>obtain⟨yl,us,ul,ux,j'⟩:=r;(have ev:aA=us:=jY λn=>by by_cases hn:n<aJ.length;rw[<-vx n hn,ux n hn];rw[gf ε,gf ε]);subst ev;refine#[_,rfl,?_];obtain⟨_,_,hf1,p9⟩:=z1.zip;refine letGo hf1 p9 λh2 f hf2 hz2 oy=>?_;(have fI:b+aJ.length+2<s.heap.objs.size:=by obtain⟨_,_,_,hz⟩:=st.zip;exact Heap.lt_size hz);have up:∀c o,c≠b+aJ.length+2->Lh=ζ->h2.get? c=ζ:=λc o hc g=>oy.extBut _ _ hc g;refine#[h2,s.toks,rfl,λc o hc g=>up c o (λz=>hc (Yn.mpr (by lia))) (kk c o (kp c hc) g),?_,.tup _ ys aA rfl rfl ig (up _ _ (eG fI) t1) (by rw[yl,vl]) (cf (by exact vl▸hm) (show 100<=sizeLine by decide)) j'];obtain⟨old,ol,ho⟩:=z1.own;refine#[#[_,_,hf2,hz2],up _ _ ε z1.cJ,#[old,ol,up _ _ ε ho],λj p hp=>(z1.it j p hp).at λo g=>up _ _ ?_ g];have:=(aQ.mp hp).1;lia);cases o' with| none=>exact#[rfl,h',s.toks,rfl,λc o hc g=>kk c o (kp c hc) g]| some ys =>exfalso;obtain⟨yl,us,ul,ux,j'⟩:=r;obtain⟨n,hn,e⟩:=hex;rw[ux n hn,w6] at e;exact NAG.gl76 hn ul e) λst q=>vD st q
theorem GZ (dB:aJ.length≠0)(hm:aJ.length<=100)(aE:∀p∈aJ,p.2<s.heap.objs.size)(l:ds.length=aJ.length)(m:∀(n:Nat) d p,ds[n]?=ϩ->aJ[n]?=ϕ->(d,Value.ref p.2)∈wi/\Ug d=p.1) (z:J X pins ρ h (wi++ws) s) (st:ZSt s.heap.objs.size aJ 0 H') (k:∀c o,ff=ζ->H'.get? c=ζ) (q:P (nZp ds) h):IR X pins ρ ws tg P (.ref (s.heap.objs.size+aJ.length+2)) { s with heap:=H'} :=pS (PJ dB hm aE l m) z k st (λkk=>st.keep λc h1 h2 o g=>kk c (Yn.mpr #[h1,h2]) o g) (λc hc=>#[Heap.get?_none_of_le 'A'.1,by obtain⟨o,e,_⟩:=st.obj c 'A'.1 'A'.2;exact#[o,e]]) q s.toks
theorem J.seqAt (j:J X pins ρ h w s)(m:(x,u)∈w)(e:eS h x=bj):∃a xs,u=ψ/\[te,ϴ,a,xs]/\a<s.heap.objs.size:=by obtain⟨a,us,ea,l,z,f,j⟩:=j.opS m e;refine#[a,us.toArray,ea,?_];(have k:[te,ϴ,a,us.toArray]:=by cases ht:ϴ with| true=>rw[ht] at f;exact f| false=>rw[ht] at f;obtain⟨n,f⟩:=f;exact#[_,f,rfl,n,rfl]);exact#[k,ym k]
include Y in
theorem zeS (h1:QE X a fa)(h2:QE X b fb)(h:SC X "zip" pos [a,b]:=by exact⟨rfl,by decide,by decide,rfl⟩)(hs:[ϵ,[a,b]]=[(fh,[Ϧ,a]),(fh,[Ϧ,b])]:=by rfl):QI X tg [Os,.Name "zip" p,[a,b],[]] (rIz fa fb):=#[λ{pins ρ _ ws _ P} z q=>Tw (gZ z h.g H2 x7 (ju h.pl (gu h.pl (by
 rw[hs];refine[Nu,h1.h z q.bnd,λu s1 #[x,_,z,q]=>[Nu,h2.h z q.bnd,λv s1 #[y,_,z,q]=>Calls.spliced_nil ?_]];obtain⟨_,e1,q⟩:=q.o;obtain⟨_,e2,q⟩:=q.o;obtain⟨c1,xs,rfl,k1,l1⟩:=z.seqAt (a7 _ aR) e1;obtain⟨c2,ys,rfl,k2,l2⟩:=z.seqAt aR e2;refine C7 (p:=(ϴ,c1)) (q:=(Ug y,c2)) k1 k2 λh' z1 kk=>vD (aJ:=[(ϴ,c1),(Ug y,c2)]) z1 ?_;refine GZ (aJ:=[(ϴ,c1),(Ug y,c2)]) (wi:=[(y,SE),(x,.ref c1)]) (by simp) (by simp) (by simpa using #[l1,l2]) rfl (λn d p h1 h2=>?_) z z1 kk q
 match n,h1,h2 with
 | 0,h1,h2=>cases h1;cases h2;simp
 | 1,h1,h2=>cases h1;cases h2;simp
 | n+2,h1,h2=>cases h1))) h.n h.d)]
include Y in
theorem PL (h1:QE X a fa)(h2:QE X b fb)(h3:QE X c fc)(h:SC X "zip" pos [a,b,c]:=by exact⟨rfl,by decide,by decide,rfl⟩)(hs:[ϵ,[a,b,c]]=[(fh,[Ϧ,a]),(fh,[Ϧ,b]),(fh,[Ϧ,c])]:=by rfl):QI X tg [Os,.Name "zip" p,[a,b,c],[]] (rIz3 fa fb fc):=#[λ{pins ρ _ ws _ P} z q=>Tw (gZ z h.g H2 x7 (ju h.pl (gu h.pl (by
 rw[hs];refine[Nu,h1.h z q.bnd,λu s1 #[x,_,z,q]=>[Nu,h2.h z q.bnd,λv s1 #[y,_,z,q]=>[Nu,h3.h z q.bnd,λv s1 #[y',_,z,q]=>Calls.spliced_nil ?_]]];obtain⟨_,e1,q⟩:=q.o;obtain⟨_,e2,q⟩:=q.o;obtain⟨_,e3,q⟩:=q.o;obtain⟨c1,xs,rfl,k1,l1⟩:=z.seqAt (a7 _ (a7 _ aR)) e1;obtain⟨c2,ys,rfl,k2,l2⟩:=z.seqAt (a7 _ aR) e2;obtain⟨c3,zs,rfl,k3,l3⟩:=z.seqAt aR e3;refine zbr (p:=(ϴ,c1)) (q:=(Ug y,c2)) (r:=(Ug y',c3)) k1 k2 k3 λh' z1 kk=>vD (aJ:=[(ϴ,c1),(Ug y,c2),(Ug y',c3)]) z1 ?_;refine GZ (aJ:=[(ϴ,c1),(Ug y,c2),(Ug y',c3)]) (wi:=[(y',.ref c3),(y,SE),(x,.ref c1)]) (by simp) (by simp) (by simpa using #[l1,l2,l3]) rfl (λn d p h1 h2=>?_) z z1 kk q
 match n,h1,h2 with
 | 0,h1,h2=>cases h1;cases h2;simp
 | 1,h1,h2=>cases h1;cases h2;simp
 | 2,h1,h2=>cases h1;cases h2;simp
 | n+3,h1,h2=>cases h1))) h.n h.d)]
end
structure CF where
 cl:List (To×Tn)
 C:Tn
 s:Tj
 g:Gs
noncomputable def YF (X:Cz) (scope:WU) (N:μ) (c:CF):Cz where
 toBz:=X.toBz
 A:=X.A
 N:=N
 g₀:=c.g
 s₀:=c.s
 env:=Xt scope c.cl c.C X.env
 outer:=X.stack
 stack:=X.stack
 fn:=λ_=>fh
 calm:=X.calm
 E:=λ_ _=>False
 xe:=λ_ _=>False
structure SCo (X:Cz)(scope:WU)(N:μ)(fr:xat)(n:Nat)(iter:TV):Prop where
 nd:N.Nodup
 len:N.length=n+fr.length
 fr:fr.map (λi=>X.N[i]?)=(N.drop n).map se
 sc:∀x∈N.drop n,scope.names.lookup x=J0
 fi:xaJ X.env ((scope.names.filter λy=>y.2 == .free).map (·.1))
 kind:scope.kind=.function
 cell:∀y∈scope.names,y.2≠.cell
 nm:∀y∈scope.names,y.2=.local->scope.names.lookup y.1=XL
 fs:∀x,foldedSetIterable iter X.env x=pure x
theorem Yx.comp (Y:Yx X k)(h:N.Nodup):Yx [ϲ,X,N,c] k:=#[Y.room,Y.calm,Y.blt,h,PassesOwn.never,λ_ z=>Y.en z,Y.en,Y.fld]
section
variable {X:Cz}{pins pins' fp:List (Tn×UK)}{ρ ρ':Ul}{h:TH}{ws:WL}{s:Tj}{g:Gs}{fr:xat}{n i:Nat}{d:D}{scope:WU}{N:μ}{iter:TV}{cl:List (To×Tn)}{C l:Tn}{lo:UK}{H':TU}{m:To->Hc}{tk:Nat}
theorem J.pinS (j:J X pins ρ h ws s)(f:∀p∈pins',p∈pins):J X pins' ρ h ws s:=by cases j with | mk g I p W=>exact#[g,I,λy z=>p y (f y z),W]
theorem J.weak (j:J X pins ρ h ws s)(l:ρ'.length=ρ.length)(f:∀(i:Nat) d,ρ'[i]?=SX->ρ[i]?=SX):J X pins ρ' h ws s:=by cases j with | mk g I p W =>exact#[g,#[I.ok,I.os,I.bare,I.hk,I.bs,I.kp,I.ip,I.lf,by obtain⟨m,a,b⟩:=I.lc;exact#[m,a,λi x d e1 e2 e3=>b i x d e1 (f i d e2) e3],I.ce,by exact l▸I.len],p,W]
theorem G0:∀{fr:xat} {i:Nat} {d:D},(eFr ρ fr)[i]?=SX->∃j,fr[i]?=se j/\ρ[j]?=SX| [],i,d,e=>by cases i<;>cases e| j::fr,0,d,e=>by rw[DL,List.getElem?_cons_zero] at e;refine#[j,rfl,?_];split at e;rename_i e1;rw[e1,dU e];cases dU e| j::fr,i+1,d,e=>by exact G0 (i:=i) e
theorem PN:∀fr:xat,(eFr ρ fr).length=fr.length:=by intro fr;induction fr with| nil =>exact rfl| cons j fr ih =>rw[DL,fO,ih,fO]
theorem G2 (e:(bh n ng++eFr ρ fr)[i]?=SX):n<=i/\∃j,fr[i-n]?=se j/\ρ[j]?=SX:=by rw[xj] at e;split at e;rw[nq] at e;split at e<;>cases e;rename_i z;rw[oS] at e z;exact#[qN z,G0 e]
def Gs.less (g:Gs) (fp:List (Tn×UK)):Gs:=#[λa=>open Classical in if∃o,(a,o)∈fp then ng else Ϙ,g.ι]
theorem tZ (z:∃o,(a,o)∈fp):'h'.G a=none:=LN
theorem mD (z:¬∃o,(a,o)∈fp):'h'.G a=Ϙ:=Sg
theorem ua (z:'h'.G a=ϊ):Ϙ=ϊ:=by by_cases y:∃o,(a,o)∈fp;rw[tZ y] at z;cases z;rwa [mD y] at z
theorem Iv.less (I:Iv X g ρ h s)(p:∀p∈fp,g.G p.1=[gV,p.2])(ow:∀p∈fp,[Oi,X,p.1]):Iv X 'h' ρ h s:=by(have keep:∀{a r},Ϙ=ϊ->(∀o,r≠Qo)->'h'.G a=ϊ:=λ{a r} z n=>by rw[mD λ#[o,y]=>by rw[p _ y] at z;cases z;exact n o rfl,z]);have le:Le g 'h':=#[λa o z=>keep z (by simp),[],by simp[Gs.less]];have hk:=I.hk.go le rfl (λb r z y=>#[keep z (by obtain⟨i,y | y⟩:=y<;>subst y<;>simp),λ_ e=>e]) (λa o z=>I.hk.st a o (z.imp ua ua)) (λa o z=>I.hk.sl a o (ua z)) λa r z=>I.hk.al a r (ua z);refine#[I.ok,I.os,I.bare,hk,λb o e=>le.d _ _ (I.bs b o e),λa r z f=>?_,I.ip,keep I.lf (by simp),?_,λy c e=>?_,I.len];rw[mD λ#[o,y]=>by have:=(ow _ y).f r z;rw[f] at this;cases this];exact I.kp a r z f;obtain⟨m,ns,hl⟩:=I.lc;exact#[m,ns,λi y d e1 e2 e3=>by obtain⟨u,dq,l⟩:=hl i y d e1 e2 e3;exact#[u,le.du dq,l]];obtain⟨v,r⟩:=I.ce y c e;refine#[v,?_];have nc:¬∃o,(c,o)∈fp:=λ#[o,z]=>(ow _ z).c y c e rfl;rw[mD nc];exact r
theorem Iv.block (I:Iv X g ρ h s)(S:SCo X scope N fr n iter)(p:∀p∈fp,g.G p.1=[gV,p.2])(old:∀b o,ϧ=ζ->'0'=ζ)(nl:RW=ng)(nC:s.heap.get? C=ng)(ne:l≠C)(el:H'.get? l=se lo)(ns:H'.Ns C m) (jk:∀x c,K6=ϛ->P9=ϛ) (jx:∀y∈scope.names,y.2=.free->∃c,cl.lookup y.1=ϛ) :∃g1,Iv [ϲ,X,N,#[cl,C,s,'h'.hid s.heap X.env.locals]] g1 (bh n ng++eFr ρ fr) h { s with heap:=H',toks:=tk}/\(∀q ∈[(l,lo)]++fp,g1.G q.1=[gV,q.2])/\Le g g1:=by have hn:='o';have q0:=hn.kept old;have fl:=hn.fresh nl;have fC:=hn.fresh nC;obtain⟨oC,esC,epC,eC,_⟩:=id ns;have q1:=q0.role (λr z=>by rw[fl] at z;cases z) [gV,lo] (λ_ _ _ e=>e) λr z=>#[lo,el,λo' y=>by cases z;rcases y with y | y<;>cases y;rfl,λo' y=>by cases z;cases y];(have fC':([MO,s.heap].upd l [gV,lo]).G C=none:=by rw[Gs.upd_ne (Ne.symm ne),fC]);have q2:=q1.role (λr z=>by rw[fC'] at z;cases z) rv (λ_ _ _ e=>e) λr z=>#[oC,eC,λo' y=>(by cases z;rcases y with y | y<;>cases y),λo' y=>by cases z;cases y];(have up:∀{a r},[MO,s.heap].G a=ϊ->(([MO,s.heap].upd l [gV,lo]).upd C rv).G a=ϊ:=λ{a r} z=>by rw[Gs.upd_ne (by rintro rfl;rw[fC] at z;cases z),Gs.upd_ne (by rintro rfl;rw[fl] at z;cases z),z]);have upf:∀{a r},Ϙ=ϊ->r≠.loc->(([MO,s.heap].upd l [gV,lo]).upd C rv).G a=ϊ:=λ{a r} z n=>up (by rw[jg (by exact z▸λy=>n (dU y)),z]);have le:Le g (([MO,s.heap].upd l [gV,lo]).upd C rv):=#[λa o z=>upf z (by simp),[],by simp[Gs.upd,Gs.hid]];have kK:=λx e=>S.fi.mem (aU.mpr #[(x,NameKind.free),bB.mpr #[nM e,rfl],rfl]);(have uJ:∀x,((relabel scope X.env).names.lookup x=RM\/(relabel scope X.env).names.lookup x=J0)->scope.names.lookup x=J0:=λx hx=>by rcases hx with hx | hx;obtain⟨k,e,z⟩:=x9 hx;rcases z with z | ⟨z,_⟩;subst z;exact[Oq,S.cell _ (nM e)];subst z;exact e;obtain⟨k,e,z⟩:=x9 hx;rcases z with z | ⟨_,z⟩;subst z;exact e;cases z);refine#[_,#[#[I.ok.mod,S.kind,I.ok.glob,I.ok.blt,λx y c h1 h2=>I.ok.inj x y c (jk x c h1) (jk y c h2),λx hx=>?_,I.ok.hd,I.ok.frames,λenv he=>?_],rfl,I.bare,q2,λb o e=>le.d _ _ (I.bs b o e),λa r z f=>?_,#[[],by simp[Gs.upd,Gs.hid,Gs.less,YF]],Gs.upd_same,#[m,ns,λi x v e1 e2 e3=>?_],λx c e=>?_,?_],λq hq=>?_,le];obtain⟨c,e⟩:=jx (x,.free) (nM (uJ x hx)) rfl;exact#[c,e];obtain⟨k,L,f,r⟩:=I.ok.fr env he;refine#[k,L,f,.inr ?_];(have ny:∀{r},g.G L=ϊ->(∀o,r≠Qo)->¬∃o,(L,o)∈fp:=λz n #[o,y]=>by rw[p _ y] at z;cases z;exact n _ rfl);show∃o,('h'.hid s.heap X.env.locals).G L=_;rcases r with rfl | ⟨o,r⟩;obtain⟨o,e⟩:=[Q7,_,I.lf];exact#[o,by rw[lQ (by rw[mD (ny I.lf (by simp))];exact I.lf) e,Nk]];have r:=I.kp _ _ r rfl;exact#[o,by rw[jg (by rw[mD (ny r (by simp)),r];simp),mD (ny r (by simp)),r]];refine up ?_;have z:('h'.hid s.heap X.env.locals).G a=ϊ:=z;by_cases y:∃o,(a,o)∈fp;rw[jg (by rw[tZ y];simp),tZ y] at z;cases z;unfold Gs.hid at z ⊢;dsimp only at z ⊢;rwa [mD y] at z;obtain⟨hi,j,ej,e2'⟩:=G2 e2;(have jy:(N.drop n)[i-n]?=ω:=by rw[u4,show n+(i-n)=i by simp_all];exact e1);(have ex:=by have q:=congrArg (λl=>l[i-n]?) S.fr;simp only[bo,ej,r6,jy] at q;exact dU q);have hx:=S.sc x (aM jy);obtain⟨m',_,hl⟩:=I.lc;(have hv:Vis X.env.scope x:=by rcases kK x hx with z | z;exact .inr (.inl z);exact .inr (.inr z));obtain⟨u,r,lk⟩:=hl j x v ex e2' hv;refine#[u,le.du r,.inr #[?_,?_]];rcases Jn hx with z | z;exact .inl z;exact .inr z;obtain⟨c,ec⟩:=jx (x,.free) (nM hx) rfl;rcases lk with ⟨z,_⟩ | ⟨_,c',ec',o,ho,hd⟩;rcases kK x hx with y | y<;>(rw[z] at y;cases y);have q:=jk x c ec;rw[ec'] at q;cases q;exact#[c,ec,o,old _ _ ho,hd];obtain⟨⟨v,o,ho,hd⟩,r⟩:=I.ce x c (jk x c e);refine#[#[v,o,old _ _ ho,hd],.inr #[?_,rfl]];rcases r with r | ⟨⟨o',r⟩,_⟩;exact#[o,up (by rw[lQ r ho,S9 (I.cne (jk x c e))])];exact#[o',upf r (by simp)];show _=N.length;rw[eE,oS,PN,S.len];rcases 's' with z | z;rw[Nj,Gs.upd_ne ne,Gs.upd_same];exact upf (p q z) (by simp)
theorem Iv.out (I:Iv X g ρ h s)(nl:RW=ng)(nC:s.heap.get? C=ng)(ne:l≠C)(I6:Iv [ϲ,X,N,#[cl,C,s,[MO,s.heap]]] g6 ρ6 h6 s6)(pl:g6.G l=[gV,lo])(eC:s6.heap.get? C=se oC)(W:cI X.B g6 ws)(p:∀p∈pins,g.G p.1=[gV,p.2]) :∃g7,Iv X g7 ρ h6 s6/\(∀q∈pins++[(C,oC)],g7.G q.1=[gV,q.2])/\cI X.B g7 ws/\g7.G l=ng/\[Oi,X,C]:=by have fl:='o'.fresh nl;have fC:='o'.fresh nC;have gl:=I.hk.fresh nl;have gC:=I.hk.fresh nC;(have q1:=I6.hk.role (λr z=>by rw[pl] at z;cases z;exact .inl #[_,lS]) ng (λ_ _ _ e=>e) λr z=>by cases z);have lC:g6.G C=rv:=I6.lf;have q2:=q1.role (a:=C) (λr z=>by rw[Gs.upd_ne (Ne.symm ne),lC] at z;cases z;exact Kl) [gV,oC] (λ_ _ _ e=>e) λr z=>#[oC,eC,λo' y=>by cases z;rcases y with y | y<;>cases y;rfl,λo' y=>by cases z;cases y];(have up:∀{a r},g6.G a=ϊ->a≠l->a≠C->((g6.upd l ng).upd C [gV,oC]).G a=ϊ:=λ{a r} z n1 n2=>by rw[Gs.upd_ne n2,Gs.upd_ne n1,z]);have x:Gr [MO,s.heap] ((g6.upd l ng).upd C [gV,oC]):=#[λa r z f=>by rcases f with f | f;exact up (I6.kp a r z f) (by rintro rfl;rw[fl] at z;cases z) (by rintro rfl;rw[fC] at z;cases z);subst f;exfalso;by_cases y:Ϙ=rv;obtain⟨o,e⟩:=[Q7,a,y];rw[lQ y e] at z;by_cases w:a=X.env.locals;rw[Ta w] at z;cases z;rw[S9 w] at z;cases z;rw[jg y] at z;exact y z,I6.ip];obtain⟨I7,gr⟩:=I.back x q2 I6.os I6.bare;have le:Le g6 (g.back ((g6.upd l ng).upd C [gV,oC])):=#[λa o z=>by rw[ky λy=>?_];exact up z (by rintro rfl;rw[pl] at z;cases z) (by rintro rfl;rw[lC] at z;cases z);obtain⟨o',e⟩:=[Q7,a,y];have:=I6.kp a _ (lQ y e) (by by_cases w:a=X.env.locals<;>simp[w,Ro.fix]);rw[z] at this;by_cases w:a=X.env.locals;rw[Ta w] at this;cases this;rw[S9 w] at this;exact absurd this (by simp),[],by simp[Gs.back,Gs.upd]];refine#[_,I7,λq hq=>?_,le.held W,?_,#[λr z=>?_,λq hq e=>?_,λy c e e2=>?_]];rcases 's' with z | z;exact gr.f _ _ (p q z) lS;rw[Nj,ky (by rw[gC];simp),Gs.upd_same];rw[ky (by rw[gl];simp),Gs.upd_ne ne,Gs.upd_same];(cases f:r.fix with| false=>rfl| true=>have:=I.kp _ _ z f;rw[gC] at this;cases this);have:=p q hq;rw[e,gC] at this;cases this;obtain⟨⟨v,o,ho,_⟩,_⟩:=I.ce y c e;rw[e2,nC] at ho;cases ho
end
section
variable {X:Cz}{k:Nat}[Y:Yx X k] {tg iter fY c:TV}{kI:LI}{scope:WU}{N:μ}{fr:xat}{n i:Nat}{fi:RI}{fg:RG}{fT:RT}{fa:RE}{mm:Bool}{pos pos1 py jK:VX}{y:To}
inductive CI (X:Cz) (S:Nat->List (Tn×UK)->Prop) (l:Tn) (fp:List (Tn×UK)) (ρ:Ul) (wi ws:WL) (G:Nat->Nat->TH->θ->Prop) (m:Nat) (s:Tj):Prop
 | mk (i:Nat) (ds:θ) (us:Ϛ) (c:Nat) (dw:List (Tn×UK)) (h:TH) (j:J X ([(l,Xy us c)]++dw) ρ h (wi++(Ϩ++ws)) s) (st:S i dw) (ef:dw.map (·.1)=fp.map (·.1)) (l5:ds.length=us.length) (m5:us.length+m<=1000) (q:G m i h ds)
include Y in
theorem G3 {pins:List (Tn×UK)}{ρ:Ul}{h:TH}{ws:WL}{s:Tj}{P:D->TH->Prop}{use:Option (Value->Sem Unit)}{QQ:Value->Tj->Prop}(z:J X pins ρ h ws s)(q:(Yy mm fi n fr fg fT fa ρ h).sat P X.E)(S:SCo X scope N fr n iter)
  (hend:∀s6 l C oC mC,RP X (pins++[(C,oC)]) ρ ws P Qg s6->s6.heap.get? C=se oC->LCg.NsObj oC mC->[Oi,X,C]->compPost [Zh,X.B.w] X.A X.xe use QQ Qg C (.ok .next) s6)
  (hi:QI X tg iter fi) (hk:GO n fg) (hg:∀c:CF,QG [ϲ,X,N,c] tg fg) (ht:∀(c:CF) {pins ρ h ws s P},J [ϲ,X,N,c] pins ρ h ws s->(fT ρ h).sat P (λ_ _=>False) ->
   Tv [Zh,X.B.w] X.A (forIn kI tj λc' r=>if r=tj then do let ok <-isTrue c' (Xt scope c.cl c.C X.env) (UA c' (Xt scope c.cl c.C X.env));pure (ForInStep.yield ok) else[PY,r]) (TR [ϲ,X,N,c] pins ρ ws P) NoE s)
  (he:∀c:CF,QE [ϲ,X,N,c] fY fa):Tv [Zh,X.B.w] X.A (comprehension [Sr,fY,[#[tg,iter,kI,0]],pos] scope X.env pos1 (newList []) fh [Ϧ,iter] use) QQ X.xe s:=by
 obtain⟨g0,I0⟩:=z.inv;obtain⟨cl,ecl,jk,jx⟩:=Jl λy hy hf=>I0.ok.has y.1 (S.fi.mem (aU.mpr #[y,bB.mpr #[hy,by rw[hf];rfl],rfl]))
 refine wpAny_comprehension_free (use:=use) rfl S.fs ecl S.kind S.nm (Uy (hi.h z q.bnd) λv s1 h1=>Uy h1 λitv s2 h2=>?_);obtain⟨it,nx,h2,Sx,wi,fp,rfl,w,s0,ow,j,q⟩:=h2;cases j with | mk g I p W =>
 have pp:∀y∈pins,g.G y.1=[gV,y.2]:=λy z=>p y (df _ z);have pf:∀y∈fp,g.G y.1=[gV,y.2]:=λy z=>p y (dG _ z)
 refine Uq (wpAny_newFunctionEnv S.cell (by intro y hy;simp at hy) (λh₁ qb₁ jo₁=>?_) S.kind)
 dsimp only at qb₁ jo₁ ⊢
 generalize hH2:s2.heap.push { cls:=.type "list",dict:=ng,data:=.seq ([]:Ϛ).toArray}=HA at qb₁ jo₁ ⊢
 have hC:HA.objs.size=s2.heap.objs.size+1:=by rw[<-hH2,Heap.size_push]
 have uo:s2.heap.objs.size≠HA.objs.size:=by rw[hC];exact cG (i9 _)
 have old:∀b o,s2.heap.get? b=ζ->h₁.get? b=ζ:=λb o e =>
  jo₁.extBut b o (by rw[hC];exact cG (fE QR)) (Heap.get?_push_of_some _ (hH2▸Heap.get?_push_of_some _ e))
 have aF:h₁.get? s2.heap.objs.size=se (Xy [] 0):=jo₁.extBut _ _ uo (Heap.get?_push_of_some _ (hH2▸Heap.get?_push_size _ rfl));have nl:s2.heap.get? s2.heap.objs.size=none:=ig
 have nC:s2.heap.get? HA.objs.size=none:=Heap.get?_none_of_le (by rw[hC];exact l7 _)
 generalize s2.heap.objs.size=l at aF uo nl;generalize HA.objs.size=C at qb₁ jo₁ uo nC;obtain⟨g1,I1,p1,lU⟩:=I.block (tk:=s2.toks+([]:List (To×Value)).length) S pf old nl nC uo aF qb₁ jk jx
 let Xc:=[ϲ,X,N,#[cl,C,s2,'h'.hid s2.heap X.env.locals]]
 have lf:∀q∈fp,q.1≠l:=λq hq e=>by have:=[Q7,_,pf q hq];rw[e,nl] at this;obtain⟨_,z⟩:=this;cases z
 have oK:∀x c,K6=ϛ->∃o,s2.heap.get? c=ζ:=λx c e=>let #[#[v,o,ho,_],_]:=I.ce x c (jk x c e);#[o,ho]
 have own:∀lo,∀q∈fp,Own Xc [(l,lo)] q.1:=λlo q hq=>#[λr e=>by have e:('h'.hid s2.heap X.env.locals).G q.1=ϊ:=e;rw[jg (by rw[tZ #[_,hq]];simp),tZ #[_,hq]] at e;exact absurd e (by simp),λy hy e=>lf q hq (by rw[<-e,cO.mp hy]),λx c e=>(ow q hq).c x c (jk x c e)]
 have ownl:∀dw:List (Tn×UK),dw.map (·.1)=fp.map (·.1)->Own Xc dw l:=λdw ef=>#[λr e=>by
  have e:('h'.hid s2.heap X.env.locals).G l=ϊ:=e;have:'h'.G l=none:=by
   cases e1:'h'.G l with
   | none=>rfl
   | some r=>obtain⟨_,z⟩:=[Q7,_,ua e1];rw[nl] at z;cases z
  rw[jg (by rw[this];simp),this] at e;exact absurd e (by simp),λy hy e=>by
   have:y.1∈fp.map (·.1):=by rw[<-ef];exact uZ hy
   obtain⟨q,hq,e2⟩:=PK;exact lf q hq (e2.trans e),λx c e e2=>by obtain⟨o,z⟩:=oK x c e;rw[e2,nl] at z;cases z]
 have loop:∀s₃,s₃={ s2 with heap:=h₁,toks:=s2.toks+([]:List (To×Value)).length} ->
   Wh [Zh,X.B.w] X.A (.compLoop [Sr,fY,[#[tg,iter,kI,0]],pos] 0 II Qg (Xt scope cl C X.env)) (compPost [Zh,X.B.w] X.A X.xe use QQ Qg C) s₃:=by
  rintro s₃ rfl;refine Jm (CI Xc Sx l fp (bh n ng++eFr ρ fr) wi ws λm i h' ds=>(rCg nx fg fT fa (bh n ng++eFr ρ fr) m i h').sat (λys h=>(RX.mk mm (ds++ys) h).sat P X.E) X.E) ?_ 1000
   #[0,[],[],0,fp,h2,#[g1,I1,p1,lU.held W],s0,rfl,rfl,by simp,by simpa using q.bnd]
  rintro m s5 ⟨i,ds,us,c,dw,h5,j5,st5,ef,l5,m5,q5⟩;cases m with
  | zero=>exact q5.elim
  | succ m =>
   rw[qV] at q5;have ow5:∀q∈dw,Own Xc [(l,Xy us c)] q.1:=λq hq=>by
    have:q.1∈fp.map (·.1):=by rw[<-ef];exact uZ hq
    obtain⟨q',iy,e2⟩:=PK;rw[<-e2];exact own _ q' iy
   split at q5
   .rename_i e5;refine Uy (w.step (X:=Xc) rfl Y.calm st5 ow5 j5 e5 (E:=NoE)) λr s6 hq=>?_;obtain⟨rfl,j6⟩:=hq;cases j6 with | mk g6 I6 p6 W6 =>
    obtain⟨mC,hnC,_⟩:=I6.lc;obtain⟨oC,eC,nC6⟩:=LCg.ns_obj hnC;have pl:=p6 _ aR;obtain⟨g7,I7,p7,W7,n7,oC7⟩:=(I.less pf ow).out nl nC uo I6 pl eC W6 (pins:=pins) λy z=>by rw[mD λ#[o,w]=>(ow _ w).p y z rfl];exact pp y z
    have r7:=zZ I7 p7 (ws:=ws) (λw z=>W7 w (dG _ z)) l5 (cf (by lia) (show 1000<=sizeLine by decide)) n7 (λ_ _ e=>e) (I6.hk.st _ _ (.inr pl)) (by have q5:(RX.mk mm (ds++[]) h5).sat P X.E:=q5;rwa [k8] at q5) s6.toks
    exact hend s6 l C oC mC r7 eC nC6 oC7
   .rename_i d e5;refine Uy (w.step (X:=Xc) rfl Y.calm st5 ow5 j5 e5 (E:=NoE)) λr s6 hq=>?_;obtain⟨u,rfl,hq⟩:=hq;obtain⟨ρ1,e6,q5⟩:=q5.o;refine Uy hq λ_ s7 #[fp7,st7,ef7,j7]=>Uy ((hg _).h j7 e6) λ_ s8 j8=>Uy (ht _ j8 q5.bnd.unx) λok s9 #[h9,j9,q9]=>?_;obtain⟨gl,gk⟩:=hk _ _ _ e6;have weak:∀{pins h ws s},J Xc pins ρ1 h ws s->J Xc pins (bh n ng++eFr ρ fr) h ws s:=λj=>j.weak gl.symm λi d e=>by rw[gk i (G2 e).1];exact e
    cases ok with
    | false=>exact#[m,i9 _,i+1,ds,us,c,fp7,h9,weak j9,st7,ef7.trans ef,l5,by lia,q9]
    | true =>
     refine Uy ((he _).h j9 q9.bnd.unx) λv sA #[dv,hA,jA,qA]=>?_;have lA:sA.heap.get? l=se (Xy us c):=by cases jA with | mk g I p W=>exact[O1,_,_,p _ aR]
     refine wpAny_list_append_plain (items:=us.toArray) #[c,lA] (λh' d5 jo=>?_) (by rw[hV];exact cf (by lia) (show 1000<=sizeLine by decide))
     obtain⟨c',e'⟩:=d5;have jB:=(weak jA).pinS (pins':=fp7++[(l,Xy us c)]) (by simp +contextual [or_imp])
     have jC:=jB.turn (ob':=Xy (us++[v]) c') (ownl fp7 (ef7.trans ef)) (λb o hb e=>jo.extBut b o hb e) (by simpa using e') sA.toks
     refine#[m,i9 _,i+1,ds++[dv],us++[v],c',fp7,hA,(jC.pinS (by simp +contextual [or_imp])).sub ?_,st7,ef7.trans ef,by simp[l5],by simp;lia,?_]
     .rw[nH l5];simp +contextual [or_imp]
     .refine(qA.bnd).mono λys h q=>?_;have q:(RX.mk mm (ds++dv::ys) h).sat P X.E:=q;simpa using q
   .exact q5.elim
 refine codeAny_compStart_list (loop _ rfl) (w.self s0 (λy hy=>?_) (loop _ rfl));exact old _ _ [O1,_,_,pf y hy]
include Y
theorem G4 (S:SCo X scope N fr n iter)(hi:QI X tg iter fi)(hk:GO n fg)(hg:∀c:CF,QG [ϲ,X,N,c] tg fg)(ht:∀c {pins ρ h ws s P},J [ϲ,X,N,c] pins ρ h ws s->(fT ρ h).sat P (λ_ _=>False)->Tv [Zh,X.B.w] X.A (forIn kI tj λc' r=>if r=tj then do let ok <-isTrue c' (Xt scope c.cl c.C X.env) (UA c' (Xt scope c.cl c.C X.env));pure (ForInStep.yield ok) else[PY,r]) (TR [ϲ,X,N,c] pins ρ ws P) NoE s) (he:∀c:CF,QE [ϲ,X,N,c] fY fa):QE X [Sr,fY,[#[tg,iter,kI,0]],pos] (Yy mm fi n fr fg fT fa):=#[λz q=>G3 z q S (λs6 l C oC mC r eC nC oC'=>#[mC,nC.ns eC,λh' jo=>by obtain⟨d,h,j,p⟩:=r;exact#[d,h,j.drop oC' (λb o hb e=>jo.extBut b o hb e) s6.toks,p]]) hi hk hg ht he]
theorem G5 (S:SCo X scope N fr n iter)(hi:QI X tg iter fi)(hk:GO n fg)(hg:∀c:CF,QG [ϲ,X,N,c] tg fg)(ht:∀c {pins ρ h ws s P},J [ϲ,X,N,c] pins ρ h ws s->(fT ρ h).sat P (λ_ _=>False)->Tv [Zh,X.B.w] X.A (forIn kI tj λc' r=>if r=tj then do let ok <-isTrue c' (Xt scope c.cl c.C X.env) (UA c' (Xt scope c.cl c.C X.env));pure (ForInStep.yield ok) else[PY,r]) (TR [ϲ,X,N,c] pins ρ ws P) NoE s) (he:∀c:CF,QE [ϲ,X,N,c] fY fa) (hy:X.N[i]?=Ϫ) (rA:Qa=XL) (pY:VU [Sr,fY,[#[tg,iter,kI,0]],pos] (se [tA,py]) jK.line X.env=pure tj):QS X (.Assign [[tA,py]] [Sr,fY,[#[tg,iter,kI,0]],pos] jK) [π,Yy mm fi n fr fg fT fa,i]:=#[λ{pins ρ h ws s P} z q=>by rw[exec_Assign_Name_used _ _ _ _ pY];refine Ti (wpAny_standAt (Ti ?_));show Tv _ X.A (do let _ <-comprehension (.ListComp fY [#[tg,iter,kI,0]] scope pos) scope X.env _ (newList []) fh (UA iter X.env) (se (assign (.Name y py) X.env))) _ _ s;refine Ti (Uy (G3 z q.bnd S (λs6 l C oC mC r eC nC oC'=>?_) hi hk hg ht he) λ_ s' hq=>Tq (Tq hq));obtain⟨d,h6,j,q⟩:=r;obtain⟨ρ',e,q⟩:=q.o;cases e;exact wpAny_assign_Name (j.store Y.nd hy (.inl rA) (.inr rA) λs7 j7=>by(have e7:=by cases j7 with | mk g I p W=>exact[O1,_,_,p _ (dG _ aR)]);refine#[mC,nC.ns e7,λh' jo=>#[_,h6,j7.drop oC' (λb o hb e=>jo.extBut b o hb e) s7.toks,?_]];rw[<-eI];exact q)]
theorem Ai (hk:GO n fg)(S:SCo X scope N fr n iter)(hi:QI X tg iter fi)(hg:∀c:CF,Yx [ϲ,X,N,c] k->QG [ϲ,X,N,c] tg fg)(he:∀c:CF,Yx [ϲ,X,N,c] k->QE [ϲ,X,N,c] fY fa):QE X [Sr,fY,[#[tg,iter,[],0]],pos] (Wv N mm fi n fr fg UB fa) :=G4 S hi hk (λc=>hg c Ot) (λc {pins ρ h ws s P} z q=>wpAny_tests_nil #[_,z,q]) λc=>he c Ot
theorem G6 (hk:GO n fg)(S:SCo X scope N fr n iter)(hi:QI X tg iter fi)(hg:∀c:CF,Yx [ϲ,X,N,c] k->QG [ϲ,X,N,c] tg fg)(ht:∀cc:CF,Yx [ϲ,X,N,cc] k->QT [ϲ,X,N,cc] c fT)(he:∀c:CF,Yx [ϲ,X,N,c] k->QE [ϲ,X,N,c] fY fa):QE X [Sr,fY,[#[tg,iter,[c],0]],pos] (Wv N mm fi n fr fg fT fa) :=G4 S hi hk (λc=>hg c Ot) (λc {pins ρ h ws s P} z q=>wpAny_tests_one ((ht c Ot).h z q)) λc=>he c Ot
theorem G7 (hk:GO n fg)(S:SCo X scope N fr n iter)(hi:QI X tg iter fi)(hg:∀c:CF,Yx [ϲ,X,N,c] k->QG [ϲ,X,N,c] tg fg)(he:∀c:CF,Yx [ϲ,X,N,c] k->QE [ϲ,X,N,c] fY fa) (hy:X.N[i]?=Ϫ:=by rfl) (rA:Qa=XL:=by rfl) (pY:VU [Sr,fY,[#[tg,iter,[],0]],pos] (se [tA,py]) jK.line X.env=pure tj:=by rfl):QS X (.Assign [[tA,py]] [Sr,fY,[#[tg,iter,[],0]],pos] jK) [π,Wv N mm fi n fr fg UB fa,i] :=G5 S hi hk (λc=>hg c Ot) (λc {pins ρ h ws s P} z q=>wpAny_tests_nil #[_,z,q]) (λc=>he c Ot) hy rA pY
theorem G8 (hk:GO n fg)(S:SCo X scope N fr n iter)(hi:QI X tg iter fi)(hg:∀c:CF,Yx [ϲ,X,N,c] k->QG [ϲ,X,N,c] tg fg)(ht:∀cc:CF,Yx [ϲ,X,N,cc] k->QT [ϲ,X,N,cc] c fT)(he:∀c:CF,Yx [ϲ,X,N,c] k->QE [ϲ,X,N,c] fY fa) (hy:X.N[i]?=Ϫ:=by rfl) (rA:Qa=XL:=by rfl) (pY:VU [Sr,fY,[#[tg,iter,[c],0]],pos] (se [tA,py]) jK.line X.env=pure tj:=by rfl):QS X (.Assign [[tA,py]] [Sr,fY,[#[tg,iter,[c],0]],pos] jK) [π,Wv N mm fi n fr fg fT fa,i] :=G5 S hi hk (λc=>hg c Ot) (λc {pins ρ h ws s P} z q=>wpAny_tests_one ((ht c Ot).h z q)) (λc=>he c Ot) hy rA pY
end
structure SM (X:Cz)(o:TV)(m:To)(ay:VX)(es:LI)(ax:VX):Prop where
 base:attributeBase o m X.env [Ϧ,o]=[Ϧ,o]
 few:((backTo ax [ϵ,es]).all (λx=>! x.1)&&(backToKw ax (keywordEach [] X.env)).all (λx=>x.1.isSome)
  &&decide (es.length+([]:List Keyword).length+(if([]:List Keyword).isEmpty then 0 else 1)<30))=tj
 line:(ay.endLine==ax.line)=tj
 pl:(backTo ax [ϵ,es]).any (·.1)=fh
abbrev Aj (s:Tj)(u:Value)(T:String):Prop:=s.TypeIs u T/\∀a,u=ψ->∃ob,MV=Mo/\ob.dict=ng
section
variable {X:Cz}{k:Nat}[Y:Yx X k] {pins:List (Tn×UK)}{ρ:Ul}{h:TH}{ws:WL}{s:Tj}{P:D->TH->Prop}{x y:D}{u v:Value}{ds:θ}{us:Ϛ}{o a b e:TV}{es:LI}{fa fb fc:RE}{fA:RA}{ay ax:VX}{name:To}{T id:String}{C:D->TH->Prop}{G:D->θ->TH->Prop}{ks:Ϟ}
omit Y in
theorem J.tyL (j:J X pins ρ h ((x,u)::ws) s)(e:eL h x=bj):Aj s u "list":=by obtain⟨a,us,rfl,l,z,⟨n,f⟩,_⟩:=j.opL aR e;exact#[#[_,f,rfl],λb q=>by cases q;exact#[_,f,rfl]]
omit Y in
theorem ub (e:XX h x=se (i,ds)):eL h x=bj:=by
 unfold XX at e
 split at e
 .split at e
  .rename_i i' _ e1;cases e;show(match eg h _ with | some (.ml ds)=>bj| _=>ng)=_;rw[e1]
  .cases e
 .cases e
omit Y in
theorem J.tyD (j:J X pins ρ h ((x,u)::ws) s)(e:isD x h=tj):Aj s u "dict":=by
 unfold isD at e
 split at e
 .rename_i p e1;obtain⟨kl,a,us,rfl,l,z,⟨n,f⟩,_⟩:=j.opD aR e1;refine#[f.typeIs,λb q=>?_];cases q;obtain⟨ob,_,_,h1,h2,_⟩:=f;exact#[ob,h1,h2.2.1]
 .cases e
omit Y in
theorem bm (pa:PlainAttrs T)(slot:Slot T name id)(hty:typeOf (.builtin id)=pure (.type "method_descriptor"))(sm:SM X o name ay es ax)(ho:QE X o fa)(ha:QA X es fA)(z:J X pins ρ h ws s)(q:(fa ρ h).sat (λx h=>C x h/\(fA ρ h).sat (λys h=>G x ys h) X.E) X.E)
  (hC:∀{x u h s},J X pins ρ h ((x,u)::ws) s->C x h->Aj s u T) (hm:∀{x u h s ds us},ds.length=us.length->J X pins ρ h (Ϩ++(x,u)::ws) s->G x ds h->X.wp (call (.builtin id) (u::us)) (RP X pins ρ ws P) s):X.wp [Ϧ,[Na,[KU,o,name],es,[]]] (RP X pins ρ ws P) s :=
 V7 sm.base sm.few sm.line rfl (Uy (ho.h z q) λu s1 #[x,h1,z,c,q]=>by obtain⟨t1,t2⟩:=hC z c;exact#[T,id,pa,slot,hty,t1,t2,[Pg,sm.pl,sm.pl,Uy (ha.h (pos:=ax) z q) λus s2 #[ds,h2,l,z,q]=>hm l z q]])
omit Y in
theorem J.lset {i n:Nat}{a:Tn}{ds':θ}{us':Ϛ}{f:K3->K3}(j:J X pins ρ h ws s)(m:(.at i,ψ)∈ws)(eh:h[i]?=[ϓ,ds])(e:MV=se (Xy us n))(hf:f us.toArray=us'.toArray)(l:ds'.length=us'.length)(z:us'.length<=sizeLine)(sub:∀w∈JI,w∈ws)(t:Nat):J X pins ρ (hs h i (.ml ds')) ws { s with heap:=s.heap.update a (Obj.mapSeq f),toks:=t}:=by have q:=PySem.IsL.update e f;rw[hf] at q;exact j.setL m eh (λb o hb e=>(Heap.get?_update_other s.heap (Obj.mapSeq f) (Ne.symm hb)).trans e) q l z sub t
theorem Ak:16777216<=sizeLine:=by decide
theorem PO (ho:QE X o fa)(ha:QA X es fA)(sm:SM X o "append" ay es ax:=by exact⟨rfl,rfl,rfl,rfl⟩):QE X [Na,[KU,o,"append"],es,[]] (Yg fa fA):=#[λ{pins ρ h ws s P} z q=>by refine bm r9 PySem.F.slot_list_append PySem.F.type_list_append sm ho ha z (q.bnd.mono λx h q=>?_) (C:=λx h=>∃p,XX h x=ϕ) (G:=λx ys h=>(match ys with| [y]=>T5 (XX h x) λp=>Uf (bI (UJ p.2) 16777216) (R.ok D.non (hs h p.1 (.ml (eap p.2 [y]))))| _=>R.no).sat P X.E) (λz #[p,e]=>z.tyL (ub e)) λ{x u h s ds us} l z q=>?_;obtain⟨p,e,q⟩:=q.o;exact#[#[p,e],q.bnd];split at q;rename_i y;obtain⟨⟨i,ds⟩,e,q1⟩:=q.o;obtain⟨lt,q2⟩:=q1.i;obtain⟨v,rfl,z⟩:=one l z;obtain⟨a,us,rfl,rfl,eh,l,zz,⟨n,f⟩,z⟩:=z.opM (a7 _ aR) e;(have lt:ds.length<16777216:=by rw[aW] at lt;simpa [cF] using lt);have:=Ak;refine Vy F.slot_list_append #[_,f,rfl] F.entry_list_append (F.args_list_append_2 _ _) (PySem.list_append a us.toArray n v (by exact zz)) #[f,#[.non,_,((z.lset (us':=us++[v]) (ds':=ds++[y]) (by simp) eh f (by simp) (by simp[l]) (by simp;exact l▸lt) (λw hw=>?_) s.toks).sub (by simp +contextual [or_imp])).add λ_=>.non,?_]];rw[nH l] at hw;simp at hw ⊢;grind;rw[gj] at q2;exact q2;exact q.elim]
theorem zaM (ho:QE X o fa)(ha:QA X es fA)(sm:SM X o "extend" ay es ax:=by exact⟨rfl,rfl,rfl,rfl⟩):QE X [Na,[KU,o,"extend"],es,[]] (rExt fa fA):=#[λ{pins ρ h ws s P} z q=>by refine bm r9 PySem.F.slot_list_extend PySem.F.type_list_extend sm ho ha z (q.bnd.mono λx h q=>?_) (C:=λx h=>∃p,XX h x=ϕ) (G:=λx ys h=>(match ys with| [y]=>T5 (XX h x) λp=>T5 (eL h y) λes=>Uf [PP,UJ p.2+UJ es] (R.ok D.non (hs h p.1 (.ml (eap p.2 es))))| _=>R.no).sat P X.E) (λz #[p,e]=>z.tyL (ub e)) λ{x u h s ds us} l z q=>?_;obtain⟨p,e,q⟩:=q.o;exact#[#[p,e],q.bnd];split at q;obtain⟨⟨i,ds⟩,e,q1⟩:=q.o;obtain⟨es,e2,q2⟩:=q1.o;obtain⟨lt,q3⟩:=q2.i;obtain⟨v,rfl,z⟩:=one l z;obtain⟨b,vs,rfl,l2,Al,⟨n2,f2⟩,z⟩:=z.opL aR e2;obtain⟨a,us,rfl,rfl,eh,l,zz,⟨n,f⟩,z⟩:=z.opM (dG _ (a7 _ aR)) e;(have lt:ds.length+es.length<=16777216:=by simpa [aW] using lt);(have jm:us.toArray.size+vs.toArray.size<=sizeLine:=by have:=Ak;simp;lia);(have uC:¬(! us.toArray.isEmpty&&Builtin.List.listTooLong (us.toArray.size+vs.toArray.size))=tj:=by rw[CD jm,AM];exact rG);refine Vy F.slot_list_extend #[_,f,rfl] F.entry_list_extend (F.args_list_extend_2 _ _) (AutoSeq1.list_extend_list_list_0 a us.toArray n b vs.toArray n2 uC (by exact zz) (by exact o4 jm)) #[f,f2,#[.non,_,((z.lset (us':=us++vs) (ds':=ds++es) (by simp) eh f (by simp) (by simp[l,l2]) (by simpa using jm) (λw hw=>?_) s.toks).sub (by simp +contextual [or_imp])).add λ_=>.non,?_]];rw[nH l] at hw;simp at hw ⊢;grind;rw[gj] at q3;exact q3;exact q.elim]
theorem PQ (ho:QE X o fa)(sm:SM X o "pop" ay [] ax:=by exact⟨rfl,rfl,rfl,rfl⟩):QE X [Na,[KU,o,"pop"],[],[]] (xah fa):=#[λ{pins ρ h ws s P} z q=>by refine bm r9 PySem.F.slot_list_pop PySem.F.type_list_pop sm ho rx z (q.bnd.mono λx h q=>?_) (C:=λx h=>∃p,XX h x=ϕ) (G:=λx ys h=>ys=[]/\(T5 (XX h x) λp=>T5 (eg p.2 (UJ p.2-1)) λy=>R.ok y (hs h p.1 (.ml (xbu p.2)))).sat P X.E) (λz #[p,e]=>z.tyL (ub e)) λ{x u h s ds us} l z #[ed,q0]=>?_;obtain⟨p,e,_⟩:=q.o;exact#[#[p,e],rfl,q];subst ed;cases us with| cons _ _=>cases l| nil =>obtain⟨⟨i,ds⟩,e,q1⟩:=q0.o;obtain⟨y,e2,q2⟩:=q1.o;obtain⟨a,us,rfl,rfl,eh,l,zz,⟨n,f⟩,z⟩:=z.opM aR e;rw[aX,aW] at e2;obtain⟨v,e3,_⟩:=z.item l e2;have mv:(y,v)∈Ϩ:=[LV,#[e2,e3]];refine Vy F.slot_list_pop #[_,f,rfl] F.entry_list_pop (F.args_list_pop_1 _) (MeetsSeq.list_pop_last a us.toArray n v (by simpa [l] using e3) (by exact zz)) #[f,#[y,_,(z.lset (ds':=ds.dropLast) (by simp) eh f (by rw[hV,List.eraseIdxIfInBounds_toArray,I8]) (by simp[l]) (by simp;exact o4 zz) (λw hw=>?_) s.toks).sub (by simp +contextual [or_imp,mv]),?_]];obtain⟨j,hj⟩:=bH hw;rw[bU] at hj;simp only[oR] at hj;obtain⟨h1,h2⟩:=hj;have hm:w∈Ϩ:=aM (i:=j) (bU.mpr ?_);simp[hm];constructor;split at h1;exact h1;cases h1;split at h2;exact h2;cases h2;rw[vS] at q2;exact q2]
theorem PR (ho:QE X o fa)(sm:SM X o "clear" ay [] ax:=by exact⟨rfl,rfl,rfl,rfl⟩):QE X [Na,[KU,o,"clear"],[],[]] (rClr fa):=#[λ{pins ρ h ws s P} z q=>by refine bm r9 PySem.F.slot_list_clear PySem.F.type_list_clear sm ho rx z (q.bnd.mono λx h q=>?_) (C:=λx h=>∃p,XX h x=ϕ) (G:=λx ys h=>ys=[]/\(T5 (XX h x) λp=>R.ok .non (hs h p.1 (.ml []))).sat P X.E) (λz #[p,e]=>z.tyL (ub e)) λ{x u h s ds us} l z #[ed,q0]=>?_;obtain⟨p,e,_⟩:=q.o;exact#[#[p,e],rfl,q];subst ed;cases us with| cons _ _=>cases l| nil =>obtain⟨⟨i,ds⟩,e,q1⟩:=q0.o;obtain⟨a,us,rfl,rfl,eh,l,zz,⟨n,f⟩,z⟩:=z.opM aR e;exact Vy F.slot_list_clear #[_,f,rfl] F.entry_list_clear (F.args_list_clear_1 _) (AutoSeq1.list_clear_list_0 a us.toArray n (by exact zz)) #[f,#[.non,_,((z.lset (by simp) eh f rfl rfl (by simp) (by simp) s.toks).sub (by simp +contextual [or_imp])).add λ_=>.non,q1]]]
theorem zeJ (ho:QE X o fa)(ha:QA X es fA)(sm:SM X o "index" ay es ax:=by exact⟨rfl,rfl,rfl,rfl⟩):QE X [Na,[KU,o,"index"],es,[]] (rIdx fa fA):=#[λ{pins ρ h ws s P} z q=>by refine bm r9 PySem.F.slot_list_index PySem.F.type_list_index sm ho ha z (q.bnd.mono λx h q=>?_) (C:=λx h=>∃p,eL h x=ϕ) (G:=λx ys h=>(match ys with| [D.int n]=>T5 (eL h x) λds=>T5 (T6 xac ds) λns=>T5 (xaF n ns) λj=>R.ok [N3,j] h| _=>R.no).sat P X.E) (λz #[p,e]=>z.tyL e) λ{x u h s ds us} l z q=>?_;obtain⟨p,e,q⟩:=q.o;exact#[#[p,e],q.bnd];split at q;rename_i n;obtain⟨ds,e,q⟩:=q.o;obtain⟨ns,e2,q⟩:=q.o;obtain⟨j,e3,q⟩:=q.o;obtain⟨v,rfl,z⟩:=one l z;obtain⟨t,rfl⟩:=z.int;obtain⟨a,us,rfl,l,zz,⟨c,f⟩,z⟩:=z.opL (a7 _ aR) e;(have at_:∀{i:Nat} {w:Value},us[i]?=se w->∃t,w=.int [Jr,i] t:=λ{i w} hw=>by cases z with | mk g I p W=>exact Ab e2 l (λw z=>W w (df _ z)) hw);obtain⟨f1,f2⟩:=KJ e3;have nl:=(jT e2).1;(have jl:=by exact l▸nl▸(aQ.mp f1).1);(have line:sizeLine<2^63-1:=by decide);refine Vy F.slot_list_index #[_,f,rfl] F.entry_list_index (F.args_list_index_2 _ _) (PySem.SeqAt.list_indexAt a us.toArray c ng ([].toArray) (.int n t) (eqS (.int n t)) j (by exact jl) (by lia) ?_ λm hm fI=>?_) #[f,λy hy=>?_,?_];obtain⟨t',e4⟩:=at_ (aV jl);show eqS _ us[j]=tj;rw[e4];simp[eqS,bO,f1];obtain⟨t',e4⟩:=at_ (aV hm);show eqS _ us[m]=fh;(have hm2:m<ns.length:=by rw[nl,l];exact hm);have:=f2 m ns[m] fI (aV hm2);rw[e4];simpa [eqS,bO,hm2] using this;obtain⟨i,hi⟩:=bH (AK.mpr hy);obtain⟨t',e4⟩:=at_ (by exact hi);exact e4▸SeqAt.EqAt.int_int _ _ _ _;exact(z.sub (by simp +contextual [or_imp])).gint q;exact q.elim]
omit Y
theorem zev {j kk:T4}(n:j=kk->kk∉r.map (·.1)):Wq ((j,u)::r) kk v=if j=kk then(j,v)::r else(j,u)::Wq r kk v:=by unfold Wq;by_cases e:j=kk;subst e;rw[Nk,Ta (by simp),bz,Nk];congr 1;refine(cH λx hx=>?_).trans (xJ _);rw[S9 λz=>n rfl (by exact z▸uZ hx)];rfl;rw[S9 e,xH,Tf e,Bool.false_or];by_cases z:(r.any λkv=>decide (kv.1=kk))=tj;rw[LN,LN,bz,S9 e];rw[Sg,Sg];rfl
theorem G9:∀{ks:List T4},ks.length=us.length->'C'.map (·.1)=ks:=λl=>vb (ve l)
theorem Ha {e:D}  (nd:ks.Nodup)(l:ks.length=ds.length)(l2:ds.length=us.length):∃us',Wq 'C' kk v=(WR kk ks).zip us'/\(WR kk ks).length=(Yz kk e ks ds).length/\(Yz kk e ks ds).length=us'.length/\us'.length<=us.length+1/\∀w∈(Yz kk e ks ds).zip us',w=(e,v)\/w∈Ϩ:=by revert nd;refine wG (λ_=>#[[v],rfl,rfl,rfl,ϱ,λw z=>.inl (by simpa [Yz] using z)]) (λj ks d ds u us l l2 ih nd=>?_) l l2;have e1:WR kk (j::ks)=bif kEq j kk then j::ks else j::WR kk ks:=rfl;have e2:Yz kk e (j::ks) (d::ds)=bif kEq j kk then e::ds else d::Yz kk e ks ds:=rfl;obtain⟨n1,n2⟩:='V';have ll:=l.trans l2;rw[e1,e2,pi,i8,zev λz=>by rw[G9 ll,<-z];exact n1];by_cases z:j=kk;rw[Tc z,LN];exact#[v::us,rfl,by simpa using l,by simpa using l2,by simp,λw hw=>by rcases bi.mp hw with hw | hw;exact .inl hw;exact .inr (a7 _ hw)];rw[Tf z,Sg];obtain⟨us',f1,f2,f3,f4,f5⟩:=ih n2;refine#[u::us',by rw[f1];rfl,by simpa using f2,by simpa using f3,by simpa using f4,λw hw=>?_];rcases bi.mp hw with hw | hw;exact .inr (by exact hw▸aR);exact(f5 w hw).imp id (a7 _)
theorem zcl  (l:ks.length=ds.length)(l2:ds.length=us.length):∃us',without 'C' kk=(Xr kk ks).zip us'/\(Xr kk ks).length=(WO kk ks ds).length/\(WO kk ks ds).length=us'.length/\us'.length<=us.length/\∀w∈(WO kk ks ds).zip us',w∈Ϩ:=by refine wG #[[],rfl,rfl,rfl,ϱ,λw z=>z] (λj ks d ds u us l l2 ih=>?_) l l2;have e1:Xr kk (j::ks)=bif kEq j kk then Xr kk ks else j::Xr kk ks:=rfl;have e2:WO kk (j::ks) (d::ds)=bif kEq j kk then WO kk ks ds else d::WO kk ks ds:=rfl;obtain⟨us',f1,f2,f3,f4,f5⟩:=ih;(have e3:without ((j,u)::'C') kk=if j=kk then without 'C' kk else(j,u)::without 'C' kk:=by unfold without;by_cases z:j=kk<;>simp[z]);rw[e1,e2,pi,i8,e3];by_cases z:j=kk;rw[Tc z,LN];exact#[us',f1,f2,f3,o4 f4,λw hw=>a7 _ (f5 w hw)];rw[Tf z,Sg];refine#[u::us',by rw[f1];rfl,by simpa using f2,by simpa using f3,by simpa using f4,λw hw=>?_];rcases bi.mp hw with hw | hw;exact hw▸aR;exact a7 _ (f5 w hw)
theorem zbZ:∀{ls:List T4} {es:List D} {vs:List Value} (ks:List T4) (ds:List D) (us:List Value),ks.Nodup->ks.length=ds.length->ds.length=us.length->ls.length=es.length->es.length=vs.length->∃us',merged 'C' (ls.zip vs)=(Z1 ks ds ls es).1.zip us'/\(Z1 ks ds ls es).1.length=(Z1 ks ds ls es).2.length/\(Z1 ks ds ls es).2.length=us'.length/\us'.length<=us.length+vs.length/\∀w∈(Z1 ks ds ls es).2.zip us',w∈es.zip vs\/w∈Ϩ:=by intro ls es vs ks ds us nd l l2 m m2;revert ks ds us;refine wG (λks ds us _ l l2=>#[us,rfl,l,l2,by simp,λw z=>.inr z]) (λj ls e es v vs _ _ ih ks ds us nd l l2=>?_) m m2;obtain⟨us1,f1,f2,f3,f4,f5⟩:=Ha nd l l2;obtain⟨us2,g1,g2,g3,g4,g5⟩:=ih _ _ _ (zdc nd).1 f2 f3;refine#[us2,?_,g2,g3,by simp;lia,λw hw=>?_];show merged (Wq 'C' j v) (ls.zip vs)=_;exact f1▸g1;rcases g5 w hw with z | z;exact .inl (a7 _ z);rcases f5 w z with z | z;exact .inl (by exact z▸aR);exact .inr z
include Y
theorem zen (ho:QE X o fa)(he:QE X a fb)(hf:QE X b fc)(sm:SM X o "get" ay [a,b] ax:=by exact⟨rfl,rfl,rfl,rfl⟩)(h1:[ϵ,[a,b]]=(fh,[Ϧ,a])::[ϵ,[b]]:=by rfl)(h2:[ϵ,[b]]=(fh,[Ϧ,b])::[ϵ,[]]:=by rfl):QE X [Na,[KU,o,"get"],[a,b],[]] (xau fa fb fc):=#[λ{pins ρ h ws s P} z q=>by refine bm si B6 PySem.F.type_dict_get sm ho (tS he (tS hf rx h2) h1) z (q.bnd.mono λx h q=>?_) (G:=λx ys h=>∃y z,ys=[y,z]/\(T5 (eK h x) λp=>T5 (dk y) λk=>match lk k p.1 p.2 with| some d=>R.ok d h| none=>R.ok z h).sat P X.E) (λz e=>z.tyD e) λ{x u h s ds us} l z #[y,w,ed,q0]=>?_;obtain⟨e,q⟩:=q.i;exact#[e,[N6,λy h q=>R.sat.unb [N6,λw h q=>#[y,w,rfl,q]]]];subst ed;obtain⟨p,e,q1⟩:=q0.o;obtain⟨kk,e2,q2⟩:=q1.o;obtain⟨u1,u2,rfl,z⟩:=two l z;(have hk:[MI,X.B.w].is kk u1=tj:=by obtain⟨_,_,r⟩:=z.at (d:=y) (u:=u1) (by simp);exact pO r e2);obtain⟨kl,a,us,rfl,l,zz,⟨n,f⟩,z⟩:=z.opD (a7 _ (a7 _ aR)) e;refine W8 B6 f.typeIs PySem.F.entry_dict_get (PySem.F.args_dict_get_3 _ _ _) (meets_dict_get_default [MI,X.B.w] a hk n u2) #[_,f.mapOf,?_];rcases wH kk kl l with ⟨a1,a2⟩ | ⟨d,v,a1,a2,a3⟩;rw[a1] at q2;exact a2▸#[_,_,(z.tok _).sub (by simp +contextual [or_imp]),q2];rw[a1] at q2;exact a2▸#[_,_,(z.tok _).sub (by simp +contextual [or_imp,a3]),q2]]
theorem zcq (ho:QE X o fa)(he:QE X a fb)(sm:SM X o "pop" ay [a] ax:=by exact⟨rfl,rfl,rfl,rfl⟩)(h1:[ϵ,[a]]=(fh,[Ϧ,a])::[ϵ,[]]:=by rfl):QE X [Na,[KU,o,"pop"],[a],[]] (xaY fa fb):=#[λ{pins ρ h ws s P} z q=>by refine bm si B7 PySem.F.type_dict_pop sm ho (tS he rx h1) z (q.bnd.mono λx h q=>?_) (G:=λx ys h=>∃y,ys=[y]/\(T5 (eMd h x) λp=>T5 (dk y) λk=>T5 (lk k p.2.1 p.2.2) λd=>R.ok d (hs h p.1 (.md (Xr k p.2.1) (WO k p.2.1 p.2.2)))).sat P X.E) (λz e=>z.tyD e) λ{x u h s ds us} l z #[y,ed,q0]=>?_;obtain⟨e,q⟩:=q.i;exact#[e,[N6,λy h q=>R.sat.unb #[y,rfl,q]]];subst ed;obtain⟨⟨i,ks,ds⟩,e,q1⟩:=q0.o;obtain⟨kk,e2,q2⟩:=q1.o;obtain⟨d,e3,q3⟩:=q2.o;obtain⟨u1,rfl,z⟩:=one l z;(have hk:[MI,X.B.w].is kk u1=tj/\(keyPart u1).isSome=tj:=by obtain⟨_,_,r⟩:=z.at aR;refine#[pO r e2,?_];cases r<;>first |rfl|cases e2);obtain⟨kl,a,us,rfl,rfl,eh,l,zz,⟨n,f⟩,z⟩:=z.opMd (a7 _ aR) e;obtain⟨us',f1,f2,f3,f4,f5⟩:=zcl kl l;rcases wH kk kl l with ⟨a1,a2⟩ | ⟨d',v,a1,a2,a3⟩;rw[a1] at e3;cases e3;rw[a1] at e3;cases e3;refine W8 B7 f.typeIs PySem.F.entry_dict_pop (PySem.F.args_dict_pop_2 _ _) (meets_dict_pop_there [MI,X.B.w] a hk.1 [] lS hk.2) #[_,v,f,ε,a2,λh' pZ lR=>#[_,_,(z.setD (by simp) eh (λb o hb e=>lR.extBut b o hb e) n (by exact f1▸pZ) f2 f3 (by exact cf f4 zz) (λw hw=>?_) _).sub (by simp +contextual [or_imp,a3]),q3]];exact df _ (f5 w hw)]
theorem zeD (ho:QE X o fa)(he:QE X a fb)(sm:SM X o "update" ay [a] ax:=by exact⟨rfl,rfl,rfl,rfl⟩)(h1:[ϵ,[a]]=(fh,[Ϧ,a])::[ϵ,[]]:=by rfl):QE X [Na,[KU,o,"update"],[a],[]] (rUpd fa fb):=#[λ{pins ρ h ws s P} z q=>by refine bm si BW PySem.F.type_dict_update sm ho (tS he rx h1) z (q.bnd.mono λx h q=>?_) (G:=λx ys h=>∃y,ys=[y]/\(T5 (eMd h x) λp=>T5 (eMd h y) λr=>Uf (! Nat.beq p.1 r.1&&(kNd p.2.1&&bR (UJ p.2.1+UJ r.2.1) 1000)) (R.ok D.non (hs h p.1 (.md (Z1 p.2.1 p.2.2 r.2.1 r.2.2).1 (Z1 p.2.1 p.2.2 r.2.1 r.2.2).2)))).sat P X.E) (λz e=>z.tyD e) λ{x u h s ds us} l z #[y,ed,q0]=>?_;obtain⟨e,q⟩:=q.i;exact#[e,[N6,λy h q=>R.sat.unb #[y,rfl,q]]];subst ed;obtain⟨⟨i,ks,ds⟩,e,q1⟩:=q0.o;obtain⟨⟨j,ls,es⟩,e2,q2⟩:=q1.o;obtain⟨eb,q3⟩:=q2.i;simp only[cC,kR] at eb;obtain⟨eb1,eb2,eb3⟩:=eb;obtain⟨u1,rfl,z⟩:=one l z;obtain⟨kl2,a2,vs,rfl,rfl,cT,l2,Al,⟨n2,f2⟩,z⟩:=z.opMd aR e2;obtain⟨kl,a1,us,rfl,rfl,eh,l,zz,⟨n,f⟩,z⟩:=z.opMd (dG _ (a7 _ aR)) e;(have ne:a1≠a2:=by cases z with | mk g I p W =>cases W (.at i,.ref a1) (by simp)with | at_ i1 =>cases W (.at j,.ref a2) (by simp)with | at_ i2 =>have r1:=tV eh g I.hk i1;have r2:=tV cT g I.hk i2;rintro rfl;rw[r1] at r2;cases r2;simp[gG] at eb1);obtain⟨us',f3,f4,f5,f6,f7⟩:=zbZ _ _ _ (vR eb2) kl l kl2 l2;(have lt:=by simpa [aW] using eb3);(have h1000:1000<=sizeLine:=by decide);refine W8 BW f.typeIs PySem.F.entry_dict_update (PySem.F.args_dict_update_2 _ _) (meets_dict_update [MI,X.B.w] a1 a2 ne n2) #[_,_,f,f2,by simp;lia,λh' pZ _ lR=>#[_,_,((z.setD (by simp) eh (λb o hb e=>lR.extBut b o hb e) n (by exact f3▸pZ) f4 f5 (by lia) (λw hw=>?_) s.toks).sub (by simp +contextual [or_imp])).add λ_=>.non,q3]];rcases f7 w hw with z | z;simp[z];simp[z]]
end
theorem PZ {xs:ϐ}:∀n,n<=xs.length->(aT n).filterMap (xs[·]?)=xs.take n:=by intro n;induction n with| zero =>rintro _;simp| succ n ih =>rintro h;rw[nz,List.filterMap_append,ih (by exact fF h),qK];rfl
theorem zbG {xs:ϐ}:∀n,n<=xs.length->((aT n).map λ(k:Nat)=>(((n:Int)-1)+-1*k).toNat).filterMap (xs[·]?)=(xs.take n).reverse:=by intro n;induction n with| zero =>rintro _;rfl| succ n ih =>rintro h;rw[qF,bz,cD,rO];(have e:((λ(k:Nat)=>((((n+1:Nat):Int) - 1) + -1*k).toNat)∘jb)=λ(k:Nat)=>(((n:Int) - 1) + -1*k).toNat:=funext λk=>by exact NAG.gl35);(have e0:((((n+1:Nat)) - 1) + -1*((0:Nat):Int)).toNat=n:=by simp_all);rw[e,e0,ih (by exact fF h),aV (show n<xs.length by assumption),qK,aV (show n<xs.length by assumption),xr];rfl
theorem wM {us:Ϛ}{lo hi st:XK}(e:[QL,lo,hi,st]=(a,b,c))(q:(sliceRange a b c).filterMap (us[·]?)=r):Wr us.toArray lo hi st=r.toArray:=by unfold Wr;rw[hV,e];simpa using q
theorem zcs (us:Ϛ):Wr us.toArray ng ng (se 1)=us.toArray:=by refine wM (show[QL,ng,ng,se 1]=(0,(us.length:Int),1)by simp[T7]) ?_;(have c:(if(1:Int)>0 then(if 0<(us.length:Int)then((us.length:Int)-0+1-1)/1 else 0)else(if 0>(us.length:Int)then(0-us.length-1-1)/(-1)else 0)).toNat=us.length:=by lia);show BD _ ((aT (if 1>0 then(if(0:Int)<us.length then((us.length:Int)-0+1-1)/1 else 0)else(if(0:Int)>us.length then(0-(us.length:Int)-1-1)/(-1)else 0)).toNat).map λ(k:Nat)=>(0+1*(k:Int)).toNat)=_;rw[c,show(λ(k:Nat)=>((0:Int)+1*k).toNat)=λk=>k from funext λk=>ε,vc,PZ _ ϱ,lY]
theorem P7 (us:Ϛ):Wr us.toArray ng ng (se (-1))=us.reverse.toArray:=by refine wM (show[QL,ng,ng,se (-1)]=((us.length:Int)-1,-1,-1)by simp[T7]) ?_;(have c:(if(-1)>0 then(if(us.length:Int)-1< -1 then(-1-((us.length:Int)-1)+-1-1)/ -1 else 0)else(if(us.length:Int)-1>-1 then(us.length-1- -1- -1-1)/(- -1)else 0)).toNat=us.length:=by lia);show BD _ ((aT (if(-1)>0 then(if(us.length:Int)-1< -1 then(-1-((us.length:Int)-1)+-1-1)/ -1 else 0)else(if(us.length:Int)-1>-1 then(us.length-1- -1- -1-1)/(- -1)else 0)).toNat).map λ(k:Nat)=>(((us.length:Int)-1)+-1*k).toNat)=_;rw[c,zbG _ ϱ,lY]
theorem zeH (us:Ϛ)(b:Bool):Wr us.toArray (se (if b then 0 else 1)) ng (se 2)=(NAP.WT b us).toArray:=by(have e2:∀i,[QL,se i,ng,se 2].2.1=us.length:=λi=>by simp[T7]);(have e3:∀i,[QL,se i,ng,se 2].2.2=2:=λi=>by simp[T7]);cases b with| true =>rw[<-(yj us).1];(have e1:[QL,se 0,ng,se 2].1=0:=by(have:max 0 (min 0 (us.length:Int))=0:=by rfl);simpa [T7] using this);refine wM (a:=0) (b:=us.length) (c:=2) (show[QL,se 0,ng,se 2]=_ from Prod.ext e1 (Prod.ext (e2 0) (e3 0))) ?_;unfold sliceRange;congr 1;(have c:(if(2:Int)>0 then(if(0:Int)<us.length then((us.length:Int)-0+2-1)/2 else 0)else(if(0:Int)>us.length then(0-us.length-2-1)/(-2)else 0)).toNat=(us.length+1)/2:=by rw[Ta (by decide)];split<;>lia);show(aT (uS _)).map _=_;rw[c];refine cH λk _=>?_;rfl| false =>rw[<-(yj us).2];rcases qM us.length with z | z;have:us=[]:=oQ.mp z;subst this;rfl;(have e1:[QL,se 1,ng,se 2].1=1:=by(have:max (0:Int) (min 1 us.length)=1:=by exact NAG.gl36 z);simpa [T7] using this);refine wM (a:=1) (b:=us.length) (c:=2) (show[QL,se 1,ng,se 2]=_ from Prod.ext e1 (Prod.ext (e2 1) (e3 1))) ?_;unfold sliceRange;congr 1;(have c:(if(2:Int)>0 then(if(1:Int)<us.length then((us.length:Int)-1+2-1)/2 else 0)else(if(1:Int)>us.length then(1-us.length-2-1)/(-2)else 0)).toNat=us.length/2:=by rw[Ta (by decide)];split<;>lia);show(aT (uS _)).map _=_;rw[c];refine cH λk _=>?_;rfl
theorem zdw:∀{ds:List D} {us:List Value} (b:Bool),ds.length=us.length->(xbJ ds b).length=(NAP.WT b us).length/\(NAP.WT b us).length<=us.length/\∀w∈(xbJ ds b).zip (NAP.WT b us),w∈Ϩ:=by intro ds us b l;revert b;refine zY (λb=>#[rfl,ϱ,λw z=>by simpa [NAP.WT] using z]) (λd ds u us _ ih b=>?_) l;cases b with| true =>(obtain⟨h1,h2,h3⟩:=ih fh;refine#[congrArg jb h1,Nat.succ_le_succ h2,λw hw=>?_];rcases bi.mp hw with hw | hw;exact hw▸aR;exact a7 _ (h3 w hw))| false =>obtain⟨h1,h2,h3⟩:=ih tj;exact#[h1,o4 h2,λw hw=>a7 _ (h3 w hw)]
theorem Hd {ds:θ}{us:Ϛ}(l:ds.length=us.length)(a b:Nat):((ds.drop a).take b).length=((us.drop a).take b).length/\((us.drop a).take b).length<=us.length/\∀w∈((ds.drop a).take b).zip ((us.drop a).take b),w∈Ϩ:=by refine#[by simp[l],by simp;lia,λw hw=>?_];obtain⟨i,hi⟩:=bH hw;rw[bU,xw,xw] at hi;split at hi;rw[u4,u4] at hi;exact[LV,hi];cases hi.1
inductive OR (X:Cz) (pins:List (Tn×UK)) (ρ:Ul) (ws:WL) (P:XK->TH->Prop) (u:Value) (s:Tj):Prop
 | mk (o:XK) (h:TH) (j:J X pins ρ h ws s) (e:IsPart u o) (p:P o h)
structure QO (X:Cz)(e:Option TV)(f:RO):Prop where
 h:∀{pins ρ h ws s P},J X pins ρ h ws s->(f ρ h).sat P X.E->X.wp (evalPart e X.env) (OR X pins ρ ws P) s
section
variable {X:Cz}{k:Nat}[Y:Yx X k] {o a b e:TV}{fa fb:RE}{fl fu:RO}{pos p2:VX}{m:Bool}{x y:To}{i n:Nat}{st:UW}{ρ:Ul}{h:TH}{pins:List (Tn×UK)}{ws:WL}{s:Tj}{ds:θ}
omit Y
theorem wN:QO X ng rO0:=#[λz q=>by exact Tq #[ng,_,z,.none,q]]
theorem wO (h:QE X a fa):QO X Ϸ (rO1 fa):=#[λz q=>by refine Uy (h.h z q.bnd) λu s1 #[x,h1,z,q]=>?_;split at q;obtain⟨t,rfl⟩:=z.int;exact#[_,_,z.tl,.int _ t,q];exact q.elim]
theorem zeL {x:D}(z4:J X pins ρ h ((x,v)::ws) s4)(sl:s4.heap.IsSliceOf sa vl vu .none)(pl:IsPart vl l)(pu:IsPart vu u)(q:(gSl m x l u h).sat P X.E)(hp:∀v,subscripted sli fh v (.ref sa)=operate [.ref sa,v] (getItem v (.ref sa))):X.wp (subscriptTail a sli v (.ref sa)) (RP X pins ρ ws P) s4:=by unfold gSl at q;split at q;rename_i z;obtain⟨hz,q⟩:=q.i;obtain⟨t,rfl⟩:=z4.str;obtain⟨l,rfl,rfl⟩:=part_of pl;obtain⟨u,rfl,rfl⟩:=part_of pu;have hz:=nK hz;refine X3 (typeIs_str s4 z t) BX.lookup (getItem_meets (typeIs_str s4 z t) (by decide) BX PySem.F.entry_str_getitem (PySem.F.args_str_getitem_2 _ _) (meets_str_getitem_slice z t sa l u ng rfl) #[sl,?_]) (hp _);unfold Zv at hz q;unfold sliceMade slicePicked;by_cases y:((Builtin.Str.strSliceIndices (l.map (·.1)) (u.map (·.1)) 1 z.length).length==z.length)=tj;rw[Ta y] at hz q;rw[Ta (by exact y)];exact#[_,_,z4,q];rw[S9 y] at hz q;rw[S9 (by exact y)];exact#[hz,z4.tl.gstr q];rename_i ds;obtain⟨hw,q⟩:=q.i;obtain⟨c,us,rfl,le,zz,f,z5⟩:=z4.opS aR rfl;(have eN:=by exact hV▸le.symm);refine X3 f.typeIs xQ.lookup (NAH.ZR f sl pl pu (by rw[eN];simp only[kR,Bool.and_eq_false_iff] at hw;rintro⟨h1,h2⟩;rcases hw with hw | hw<;>simp_all [gG]) ?_ (by exact hV▸zz)) (hp _);rw[eN];obtain⟨g1,g2,g3⟩:=Hd le [Yf,0,l] ([Yf,ds.length,u]-[Yf,0,l]);(have z6:J X pins ρ h ((cutD ds l u).zip ((us.drop [Yf,0,l]).take ([Yf,ds.length,u]-[Yf,0,l]))++ws) s4:=z5.sub λw hw=>by rcases dh.mp hw with hw | hw;exact df _ (g3 w hw);simp[hw]);exact#[_,_,z6.dat ig (λ_ _=>Heap.get?_push_of_some _) (Heap.get?_push_size _ rfl) (λg A r=>.tup #[_,r,λ_ e=>#[_,e,rfl,_,rfl]] g1 (cf g2 zz) A) s4.toks,q];rename_i x' n1 n2;obtain⟨ds,e1,q⟩:=q.o;(have nt:ϴ=fh:=by cases x<;>first |rfl|exact[Oq,n2 _]);obtain⟨c,us,rfl,le,zz,f,z5⟩:=z4.opS aR e1;rw[nt] at f;obtain⟨n,f⟩:=f;have il:s4.heap.IsList c us.toArray:=#[_,f,rfl,n,rfl];refine X3 il.typeIs slot_list_getitem.lookup (XR il sl pl pu .none (by simp) ?_ (by exact hV▸zz)) (hp _);rw[I4,<-le];obtain⟨g1,g2,g3⟩:=Hd le [Yf,0,l] ([Yf,ds.length,u]-[Yf,0,l]);(have z6:J X pins ρ h ((cutD ds l u).zip ((us.drop [Yf,0,l]).take ([Yf,ds.length,u]-[Yf,0,l]))++ws) s4:=z5.sub λw hw=>by rcases dh.mp hw with hw | hw;exact df _ (g3 w hw);simp[hw]);exact z6.pushL g1 (cf g2 zz) q s4.toks
theorem zeg {lo hi:Option TV}(he:QE X a fa)(hl:QO X lo fl)(hu:QO X hi fu):QE X [N7,a,.Slice lo hi ng p2] (rSl m fa fl fu):=#[λ{pins ρ _ ws _ P} z q=>Subscript_ (Uy (he.h z q.bnd) λv s1 #[x,_,z,q]=>wpAny_Slice (Uy (hl.h z q.bnd) λvl s2 #[l,_,z,pl,q]=>Uy (hu.h z q.bnd) λvu s3 #[u,h3,z,pu,q]=>by exact Tq (zeL (z.kept (λ_ _=>Heap.get?_push_of_some _) s3.toks) (Heap.IsSliceOf.new ..) pl pu q λv=>by with_unfolding_all rfl)))]
theorem He {lo hi st:Option TV}{G:D->XK->XK->XK->TH->Prop}(he:QE X a fa)(hl:QO X lo fl)(hu:QO X hi fu)(hs:QO X st ft)(z:J X pins ρ h ws s)(q:(fa ρ h).sat (λx h=>(fl ρ h).sat (λl h=>(fu ρ h).sat (λu h=>(ft ρ h).sat (λt h=>G x l u t h) X.E) X.E) X.E) X.E) (hG:∀{x l u t h},G x l u t h->t≠se 0/\∃ds:List D,eL h x=bj/\∀us:Ϛ,ds.length=us.length->∃(ds':List D) (us':List Value),Wr us.toArray l u t=us'.toArray/\ds'.length=us'.length/\us'.length<=us.length/\(∀w∈JI,w∈Ϩ)/\(RX.mk m ds' h).sat P X.E) (hp:∀u v,∃ops,subscripted (.Slice lo hi st p2) fh u v=operate ops (getItem u v)):X.wp [Ϧ,[N7,a,.Slice lo hi st p2]] (RP X pins ρ ws P) s :=Subscript_ (Uy (he.h z q) λv s1 #[x,_,z,q]=>wpAny_Slice (Uy (hl.h z q) λvl s2 #[l,_,z,pl,q]=>Uy (hu.h z q) λvu s3 #[u,h3,z,pu,q]=>Uy (hs.h z q) λvt s4 #[t,h4,z,pt,q]=>by have z5:J X pins ρ h4 ((x,v)::ws) { s4 with heap:=s4.heap.push { cls:=.type "slice",data:=.fields ([vl,vu,vt].toArray)}}:=z.kept (λ_ _=>Heap.get?_push_of_some _) s4.toks;obtain⟨t0,ds,e1,q⟩:=hG q;obtain⟨c,us,rfl,le,zz,⟨n,f⟩,z6⟩:=z5.opL aR e1;obtain⟨ds',us',g0,g1,g2,g3,q⟩:=q us le;have il:Heap.IsList (s4.heap.push { cls:=.type "slice",data:=.fields ([vl,vu,vt].toArray)}) c us.toArray:=#[_,f,rfl,n,rfl];obtain⟨ops,hp⟩:=hp Jp (.ref s4.heap.objs.size);show Tv [Zh,X.B.w] X.A (subscriptTail a (.Slice lo hi st p2) Jp (.ref s4.heap.objs.size)) (RP X pins ρ ws P) X.xe { s4 with heap:=s4.heap.push { cls:=.type "slice",data:=.fields ([vl,vu,vt].toArray)}};refine X3 il.typeIs slot_list_getitem.lookup (XR il (Heap.IsSliceOf.new ..) pl pu pt t0 ?_ (by exact hV▸zz)) hp;rw[g0];(have z7:J X pins ρ h4 (JI++ws) { s4 with heap:=s4.heap.push { cls:=.type "slice",data:=.fields ([vl,vu,vt].toArray)}}:=z6.sub λw hw=>by rcases dh.mp hw with hw | hw;exact df _ (g3 w hw);simp[hw]);exact z7.pushL g1 (cf g2 zz) q s4.toks))
theorem Qc {i1 i2:Int}{j1 j2:Nat}{q1 q2:VX}{bb:Bool}(he:QE X a fa)(h1:i1=(if bb then 0 else 1):=by rfl)(h2:i2=2:=by rfl):QE X [N7,a,.Slice (se (.Constant (.int i1) j1 q1)) ng (se (.Constant (.int i2) j2 q2)) p2] (xbp m bb fa):=#[λ{pins ρ h ws s P} z q=>by subst h1 h2;refine He (G:=λx l u t h=>l=se (if bb then 0 else 1)/\u=ng/\t=se 2/\(T5 (eL h x) λds=>RX.mk m (xbJ ds bb) h).sat P X.E) (m:=m) he (wO zX) wN (wO zX) z (q.bnd.mono λx h q=>?_) (λ{x l u t h} #[el,eu,et,q]=>?_) λu v=>#[_,by with_unfolding_all rfl];exact#[rfl,rfl,rfl,q];subst el eu et;obtain⟨ds,e1,q⟩:=q.o;refine#[by simp,ds,e1,λus le=>?_];obtain⟨g1,g2,g3⟩:=zdw bb le;exact#[_,_,zeH us bb,g1,g2,g3,q]]
theorem zaF (ha:QE X a fa)(hb:QE X b fb)(hp:∀u v,∃ops,subscripted (.Slice ng ng SW p2) fh u v=operate ops (getItem u v):=by exact λ_ _=>⟨_,by with_unfolding_all rfl⟩):QE X [N7,a,.Slice ng ng SW p2] (xbz m fa fb):=#[λ{pins ρ h ws s P} z q=>by refine He (G:=λx l u t h=>l=ng/\u=ng/\∃ds,eL h x=bj/\((t=se 1/\(RX.mk m ds h).sat P X.E)\/(t=se (-1)/\(RX.mk m ds.reverse h).sat P X.E))) (m:=m) ha wN wN (wO hb) z (q.bnd.mono λx h q=>?_) (λ{x l u t h} #[el,eu,ds,e1,q]=>?_) hp;refine[N6,λy h q=>?_];obtain⟨ds,e1,q⟩:=q.o;split at q;exact#[rfl,rfl,ds,e1,.inl #[rfl,q]];rw[DV] at q;exact#[rfl,rfl,ds,e1,.inr #[rfl,q]];exact q.elim;subst el eu;rcases q with ⟨rfl,q⟩ | ⟨rfl,q⟩;exact#[by simp,ds,e1,λus le=>#[ds,us,zcs us,le,ϱ,λ_ z=>z,q]];refine#[by simp,ds,e1,λus le=>#[ds.reverse,us.reverse,P7 us,by simp[le],by simp,λw hw=>?_,q]];obtain⟨i,hi⟩:=bH hw;rw[bU] at hi;(have lt:=by simpa using (aQ.mp hi.1).1);refine aM (i:=ds.length-1-i) (bU.mpr ?_);rw[A8 lt,A8 (by exact le▸lt)] at hi;rw[<-le] at hi;exact hi]
end
class IpOk (op:Operator) (f:Int->Int->Int):Prop where
 h:∀{B:Cb} {A:TC} {E Q s a b t u},Q (.int (f a b) s.toks) { s with toks:=s.toks+1}->Tv (Tz B.P B.w) A (inplaceOp op (.int a t) (.int b u)) Q E s
instance:IpOk .Add uT:=#[λh=>iadd_int h]
instance:IpOk .Sub rK:=#[λh=>isub_int h]
section
variable {X:Cz}{k:Nat}[Y:Yx X k] {o a b e:TV}{fa fb fe:RE}{fA:RA}{pos aC px py pt pt2:VX}{x y:To}{i j n kt k2:Nat}{st:UW}{fs:RS}{ρ ρ':Ul}{h:TH}{pins:List (Tn×UK)}{ws:WL}{s:Tj}{d xx yy:D}{ks:Ϟ}{ds:θ}{g:Gs}{u v w:Value}{op:Operator}{iop:Int->Int->Int}{P:Fl->TH->Prop}
include Y in
theorem zfj (h:QE X e fa)(hi:X.N[i]?=ω:=by rfl)(hx:Loc X.env.scope x:=by first | exact Or.inl rfl | exact r8 rfl)(hs:VU e (se [QY,aC]) pos.line X.env=Sj:=by rfl)(hf:X.fn x=tj\/NL=XL:=by first | exact .inl rfl | exact .inr rfl):QS X (.Assign [[QY,aC]] e pos) [π,fa,i]:=#[λz q=>wpAny_Assign_Name (Uy (h.h z q.bnd) λv s1 #[d,h1,z,q]=>by obtain⟨ρ',e,q⟩:=q.o;cases e;exact z.store Y.nd hi hx hf λs2 z2=>#[_,_,z2,by rw[<-eI];exact q]) hs]
omit Y
theorem og (z:J X pins ρ h ws s)(mx:(xx,u)∈ws)(e:XX h xx=se (i,ds))(lt:m<ds.length)(mv:(d,v)∈ws)(q:∀s',J X pins ρ (hs h i (.ml (ZC ds m d))) ws s'->Q () s'):Tv [Zh,X.B.w] X.A (setItem u (.int m t) v) Q E s:=by obtain⟨a,us,rfl,rfl,eh,l,zz,⟨n,f⟩,z⟩:=z.opM mx e;have hn:=vy;refine PySem.W.ki_setAt f ε (by lia) ε (q _ ?_);rw[eI];refine(z.lset (us':=us.set m v) (dG _ mx) eh f (by simp) (by simp[l]) (by simpa using zz) (λw hw=>?_) s.toks).sub λw hw=>dG _ hw;obtain⟨i,hi⟩:=bH hw;rw[bU,oV,oV] at hi;split at hi;split at hi;obtain⟨h1,h2⟩:=hi;cases dU h1;cases dU h2;exact dG _ mv;have:=hi.2;cases this;exact df _ [LV,hi]
theorem zbV (z:J X pins ρ h ((yy,w)::(xx,u)::(d,v)::ws) s)(q:(gSet xx yy d ρ h).sat P X.E)(k:∀s' h',J X pins ρ h' ws s'->P Qd h'->Q () s'):Tv [Zh,X.B.w] X.A (setItem u w v) Q E s:=by unfold gSet at q;split at q;obtain⟨⟨i,ds⟩,e,q⟩:=q.o;obtain⟨lt,q⟩:=q.i;obtain⟨t,rfl⟩:=z.int;exact og z (by simp) e (by rw[aW] at lt;simpa [cF] using lt) (by simp) λs' z=>k s' _ (z.sub (by simp +contextual [or_imp])) q;exact q.elim
theorem Qh (z:J X pins ρ h ((yy,w)::(xx,u)::(d,v)::ws) s)(q:(gDput xx yy d ρ h).sat P X.E)(k:∀s' h',J X pins ρ h' ws s'->P Qd h'->Q () s'):Tv [Zh,X.B.w] X.A (setItem u w v) Q E s:=by obtain⟨⟨i,ks,ds⟩,e,q1⟩:=q.o;obtain⟨kk,e2,q2⟩:=q1.o;obtain⟨eb,q3⟩:=q2.i;rw[cC] at eb;(have hk:[MI,X.B.w].is kk w=tj:=by obtain⟨_,_,r⟩:=z.at aR;exact pO r e2);obtain⟨kl,a,us,rfl,rfl,eh,l,zz,⟨n,f⟩,z⟩:=z.opMd (a7 _ aR) e;obtain⟨us',f1,f2,f3,f4,f5⟩:=Ha (vR eb.1) kl l;(have lt:=by have:=eb.2;rw[aW] at this;simpa [cF] using this);have:=Ak;refine wpAny_setItem_pairs hk f (λh' pZ lR=>k _ _ ((z.setD (by simp) eh (λb o hb e=>lR.extBut b o hb e) n (by exact f1▸pZ) f2 f3 (by lia) (λw hw=>?_) _).sub (by simp +contextual [or_imp])) q3) ε;rcases f5 w hw with z | z;simp[z];exact df _ z
theorem Qi (hv:QE X e fe)(ho:QE X o fa)(hi:QE X a fb)(hs:VU e (se (.Subscript o a aC)) pos.line X.env=Sj:=by rfl):QS X (.Assign [.Subscript o a aC] e pos) (YQ fe fa fb):=#[λ{pins ρ h ws s P} z q=>wpAny_Assign_Subscript (Uy (hv.h z q.bnd) λv s1 #[d,_,z,q]=>Uy (ho.h z q.bnd) λu s2 #[x,_,z,q]=>Uy (hi.h z q.bnd) λw s3 #[y,h3,z,q]=>by have k:∀s' h',J X pins ρ h' ws s'->P Qd h'->SR X pins ws P Flow.next s':=λs' h' z p=>#[_,h',z,p];cases hd:isD x h3 with| true=>rw[hd] at q;exact Qh z q k| false=>rw[hd] at q;exact zbV z q k) hs]
theorem Qj [I:IpOk op iop] (ho:QE X o fa)(hi:QE X a fb)(he:QE X e fe)(ha:∀ov iv new,augStore a ov iv new=(do holding [new,ov,iv] (setItem ov iv new);release [new,ov,iv] [];pure .next):=by intros;rfl):QS X (.AugAssign (.Subscript o a aC) op e pos) (xaw iop fa fb fe):=#[λz q=>wpAny_AugAssign_SubscriptAny (Uy (ho.h z q.bnd) λu s1 #[x,_,z,q]=>Uy (hi.h z q.bnd) λw s2 #[y,h2,z,q]=>by split at q;rename_i m;obtain⟨⟨i,ds⟩,e,q1⟩:=q.o;obtain⟨d0,e1,q2⟩:=q1.o;obtain⟨n,e2,q3⟩:=q2.o;obtain⟨t,rfl⟩:=z.int;obtain⟨c,us,rfl,l,zz,⟨n',f⟩,z'⟩:=z.opL (a7 _ aR) (ub e);rw[aX] at e1;obtain⟨v0,e3,z1⟩:=z'.item l e1;have hn:=vy;have lt:='n'.1;(have lt2:=by exact l▸lt);refine wpAny_getItem_list #[_,f,rfl,n',rfl] ε (by lia) (by simpa using e3) ?_;(have hv:∃t,v0=.int n t:=by obtain⟨_,_,r⟩:=z1.at aR;cases r<;>first |(cases e2;exact#[_,rfl])|cases e2);obtain⟨t0,rfl⟩:=hv;refine Uy (he.h z1 q3.bnd) λv4 s4 #[d4,h4,z4,q4]=>?_;obtain⟨n4,e4,q5⟩:=q4.o;obtain⟨⟨i5,ds5⟩,e5,q6⟩:=q5.o;obtain⟨lt5,q7⟩:=q6.i;(have hv:∃t,v4=.int n4 t:=by obtain⟨_,_,r⟩:=z4.at aR;cases r<;>first |(cases e4;exact#[_,rfl])|cases e4);obtain⟨t4,rfl⟩:=hv;refine I.h ?_;refine og ((z4.tok (s4.toks+1)).add λ_=>.int) (by simp) e5 (by rw[aW] at lt5;simpa [cF] using lt5) aR λs' z=>#[_,_,z.sub (by simp +contextual [or_imp]),q7];exact q.elim) ha]
theorem Iv.ren (I:Iv X g ρ h s)(l:ρ'.length=ρ.length)(f:∀(i:Nat) d',ρ'[i]?=se (se d')->∃d,ρ[i]?=SX/\∀u,DU X.B g d u->DU X.B g d' u):Iv X g ρ' h s :=#[I.ok,I.os,I.bare,I.hk,I.bs,I.kp,I.ip,I.lf,by obtain⟨m,a,b⟩:=I.lc;exact#[m,a,λi x d e1 e2 e3=>let #[d0,g1,g2]:=f i d e2;let #[u,r,lk]:=b i x d0 e1 g1 e3;#[u,g2 u r,lk]],I.ce,by exact l▸I.len]
theorem J.frzN (j:J X pins ρ h ws s)(e:ρ[i]?=SX)(e2:eMd h d=se (jj,ks,ds)):J X pins (ZC ρ i (se (.dic ks ds))) (hs h jj .no) ws s:=by(have bE:d=.at jj/\h[jj]?=se (.md ks ds):=by unfold eMd at e2;split at e2;split at e2;rename_i e1;cases e2;rw[aX] at e1;exact#[rfl,e1];cases e2;cases e2);obtain⟨rfl,eh⟩:=bE;cases j with | mk g I p W =>(have lt:=by exact I.hk.len▸'<'.1);have e0:g.ι[jj]?=se g.ι[jj]:=aV lt;generalize g.ι[jj]=a at e0;cases[Kw,_,_,_,eh]with | md r dd ns kl l z A =>obtain⟨o,es,ep,e1,e3⟩:=id dd;obtain⟨x,q⟩:=I.hk.gone e1 r;have gr:Gr g (g.upd a ND):=#[λb r' z f=>by(have n:b≠a:=by rintro rfl;rw[r] at z;cases z;rcases f with f | f<;>cases f);rwa [OH],x.i];rw[show hs h jj .no=h.set jj .no from eI _ _ _,eI];have I2:=I.go gr q (λ_ _ _ e=>e) s.toks;refine#[_,I2.ren (by simp) λi' d' e'=>?_,λy z=>gr.f _ _ (p y z) lS,x.held W];rw[oV] at e';split at e';rename_i ei;subst ei;split at e';cases dU e';refine#[_,e,λu du=>?_];(cases du with | at_ e4 =>have e4:g.ι[jj]?=se _:=e4;rw[e0] at e4;cases e4;exact .dic #[o,Gs.upd_same,λ_ e=>#[o,es,ep,e,e3]] ns kl l z (x.held A));cases e';exact#[d',e',λ_ z=>z]
theorem zc1 (lV:QS X st fs):QS X st (xbA i fs):=#[λ{pins ρ h ws s P} z q=>Uy (lV.h z q.bnd) λf s1 t=>by cases f with| next =>(obtain⟨ρ1,h1,z1,q1⟩:=t;replace q1:(match eg ρ1 i with| some (se d)=>T5 (eMd h1 d) λp=>R.ok (Fl.nx (ZC ρ1 i (se (.dic p.2.1 p.2.2)))) (hs h1 p.1 .no)| _=>R.no).sat P X.E:=q1;split at q1;rename_i d e;rw[aX] at e;obtain⟨⟨jj,ks,ds⟩,e2,q2⟩:=q1.o;exact#[_,_,z1.frzN e e2,q2];exact q1.elim)| ret v=>obtain⟨d,ρ1,h1,z1,q1⟩:=t;exact#[d,ρ1,h1,z1,q1]| brk=>exact t.elim| cont=>exact t.elim]
include Y
theorem zcr (ha:QA X [a,b] fA)(hi:X.N[i]?=ω:=by rfl)(hj:X.N[j]?=Ϫ:=by rfl)(hij:i≠j:=by decide) (hx:NL=XL:=by rfl) (hy:Qa=XL:=by rfl) (hw:swappedStores [.Tuple [[QY,px],[tA,py]] kt pt] (.Tuple [a,b] k2 pt2) X.env=pure (se [x,y]):=by with_unfolding_all rfl) (hs:swapsWithSole [.Tuple [[QY,px],[tA,py]] kt pt] (.Tuple [a,b] k2 pt2) pos.line X.env=Sj:=by rfl):QS X (.Assign [.Tuple [[QY,px],[tA,py]] kt pt] (.Tuple [a,b] k2 pt2) pos) (rPar i j fA):=#[λ{pins ρ h ws s P} z q=>by show Tv _ _ _ _ _ _;rw[exec_Assign_arm];refine Ti (wpAny_standAt ?_);rw[hs];refine Ti (Tq ?_);rw[S9 (by decide)];refine Ti (Tuple_ (Uy [CX,z] λus s1 #[ds,h1,l,z1,q1]=>?_));split at q1;rename_i d1 d2;obtain⟨u1,u2,rfl,z2⟩:=two l z1;refine Uq ?_ (by show 2<=sizeLine;decide);rw[hw];refine Ti (Tq ?_);show Tv [Zh,X.B.w] X.A (do rule "assign.swapped-stores";let items <-unpackItems (.ref s1.heap.objs.size) 2 ng;assignInOrder [λv=>bindName X.env y v,λv=>bindName X.env x v] items.reverse;pure Flow.next) _ _ _;refine[P8,Ti (unpackItems_tuple (items:=([u1,u2].toArray)) (z2.hd Y) (IsTup.new s1.heap _) λh' g8=>?_)];have z3:=z2.kept (λb o e=>g8 b o [QJ,Heap.get?_push_of_some _ e] (Heap.get?_push_of_some _ e)) s1.toks;show Tv _ _ (assignInOrder [λv=>bindName X.env y v,λv=>bindName X.env x v] [u2,u1]>>=λ_=>pure Flow.next) _ _ _;refine Ti (Ux (wpAny_bindName (z3.store Y.nd hj (.inl hy) (.inr hy) λs4 z4=>?_)));refine Ux (wpAny_bindName (z4.store Y.nd hi (.inl hx) (.inr hx) λs5 z5=>XN (Tq ?_)));rw[BF _ _ (Ne.symm hij)] at z5;refine#[_,h1,z5,?_];have q1:=q1;rw[eI,eI] at q1;exact q1;exact q1.elim]
end
end NAL.RZ
namespace NAL.EX
open PySem PySem.Spec PyProof.Rows
section
end
section
end
section
variable {prog:TF}{w:Ud}{A:TC}{E:Value->Tj->Prop}{s:Tj}
theorem Hf {b:Nat}{p q:Bool×Tn}(hh:A.handled=ng)(hp:p.2<b)(hq:q.2<b)(st:ZSt b [p,q] k s.heap)(hx:[te,p.1,p.2,xs])(hy:[te,q.1,q.2,ys]) (hQ:∀h' x y,xs[k]?=ω->ys[k]?=Ϫ->ZSt b [p,q] (k+1) h'->jS h' s.heap.objs.size [x,y]->h'.objs.size=s.heap.objs.size+1->Kept b 2 s.heap h'->Q (se VK) { s with heap:=h'}) (hE:xs[k]?=ng\/ys[k]?=ng->∀h',Kept b 2 s.heap h'->Q ng { s with heap:=h'}):Tv [ϑ,w] A (pyNext (.ref (b+4))) Q E s:=by refine C5 (xss:=λj=>if j=0 then xs else ys) hh (by simp) (by exact Nat.le_add_left ..) (λr hr=>?_) st (λi r hr=>?_) (λh' aA vl vx z t sz kk=>?_) λhex h' kk=>hE ?_ h' kk;simp only[bi,gW,or_false] at hr;rcases hr with rfl | rfl<;>assumption;rcases i with _ | _ | i<;>cases hr;exact hx;exact hy;rcases aA with _ | ⟨x,_ | ⟨y,_ | _⟩⟩<;>simp at vl;exact hQ h' x y (vx 0 (by exact l7 _)) (vx 1 (by exact i9 _)) z t sz kk;obtain⟨i,hi,e⟩:=hex;rcases i with _ | _ | i;exact .inl e;exact .inr e;exact absurd hi (by simp)
end
end NAL.EX
namespace PySem
theorem zew:[Pa,"zip","keys"]=pure none:=by kernel_rfl
theorem zdn:[Pa,"zip","__getattr__"]=pure none:=by kernel_rfl
theorem zcG:entryFor table "zip.__getattribute__"=se Builtin.«object.__getattribute__»:=entryFor_alias (id':="object.__getattribute__") (by kernel_rfl) (by decide +kernel) (by decide +kernel) (by kernel_rfl)
theorem zfc (a:Tn)(vs:K3)(u:Tok):Meets (Builtin.«object.__getattribute__» #[[ψ,.str "keys" u],[]]) (λA R s=>MV=se { cls:=.type "zip",dict:=ng,data:=KL,slots:=([].toArray)}/\raisesAttr ψ "keys" A R s) :=Meets.of_wp λprog w A R s #[hx,hs]=>by obtain⟨hp,g,d,tk,os⟩:=s;have hT:(#[hp,g,d,tk,os]:Tj).TypeIs ψ "zip":=#[_,hx,rfl];have hmiss:=zew;unfold Builtin.«object.__getattribute__»;(repeat(any_goals(first |assumption|wp_step)));all_goals exact wpAny_raiseAttrError hs.1 hs.2 (attrMsg_fits (by decide +kernel) (by size_fits))
section
variable {prog:TF}{w:Ud}{A:TC}{E:Value->Tj->Prop}{s:Tj}
theorem getAttr?_keys_zip (hx:MV=se { cls:=.type "zip",dict:=ng,data:=KL,slots:=([].toArray)})(hA:A.handled=ng) (h:∀h' tk,(∀b ob,ϧ=Mo->Mz=Mo)->Q ng { s with heap:=h',toks:=tk}) :Tv [ϑ,w] A (X6 ψ "keys") Q E s:=by obtain⟨hp,g,d,tk,os⟩:=s;have hT:∀bD,(#[hp,g,d,bD,os]:Tj).TypeIs ψ "zip":=λ_=>#[_,hx,rfl];have f1:=sub_AttributeError;have f3:=F.slot_zip_getattribute.lookup;have f4:=F.slot_zip_getattribute.bind ψ;have f5:=zdn;unfold X6 getAttrBy? getAttrBy;(repeat(any_goals(first |assumption|exact hT _|((with_reducible show Tv _ _ (call (Value.builtin "zip.__getattribute__") _ _) _ _ _);refine Vy F.slot_zip_getattribute (hT _) zcG (F.args_zip_getattribute_2 _ _) (zfc a vs _) #[hx,hA,λh' bD e g8=>?_])|wp_step)));obtain⟨t',u',he⟩:=g8.there;show Tv _ _ (VO _ _ _ _ _ _ _) _ _ _;unfold VO;(repeat(any_goals(first |assumption|wp_step)));exact h h' bD g8.keeps
end
end PySem
namespace NAL.EX
open PySem PySem.Spec PyProof.Rows
section
variable {prog:TF}{w:Ud}{K:Type}[DecidableEq K] {knd:KeyKind prog w K}
structure ZPairs (knd:KeyKind prog w K)(xs ys:K3)(ps:List (K×Value)):Prop where
 at_:∀(j:Nat) p,ps[j]?=ϕ->∃bE,xs[j]?=se bE/\ys[j]?=se p.2/\knd.is p.1 bE=tj
 end_:xs[ps.length]?=ng\/ys[ps.length]?=ng
theorem Qq {b:Nat}{p q:Bool×Tn}(hA:A.handled=ng)(zp:ZPairs knd xs ys ps)(hp:p.2<b)(hq:q.2<b)(st:ZSt b [p,q] 0 s.heap)(h1:[te,p.1,p.2,xs])(h2:[te,q.1,q.2,ys])(hz:ps.length<=sizeLine) (h:∀h' tk,[Jk,knd,putAll [] ps]->(∀c o,c<b->ff=ζ->Lh=ζ)->Q VK { s with heap:=h',toks:=tk}) :Tv [ϑ,w] A (call (.type "dict") [.ref (b+4)]) Q E s:=by obtain⟨f0,f1,hf,hz0⟩:=st.zip;have hd:b+4<s.heap.objs.size:=Heap.lt_size hz0;have K:∀{c:Tn} {h h':TU},Kept b 2 h h'->¬(b<=c/\c<=b+4)->∀o,Pu=ζ->Lh=ζ:=λ{c h h'} k hc o ho=>k c o (by unfold Kp;lia) ho;refine Dr (fp:=λc=>b<=c/\c<=b+4) hA hz0 rfl hz (by decide) getAttr?_keys_zip (λs2 k lt hQ=>vD (st.keep λc _ _ o ho=>k c o ho) (hQ _ _ (λi h=>ZSt b [p,q] i h/\SeqAt p.1 h p.2 xs/\SeqAt q.1 h q.2 ys) #[λz=>by lia,?_,?_,?_] #[st.keep λc _ _ o ho=>k c o ho,h1.at λo ho=>k _ _ ho,h2.at λo ho=>k _ _ ho] λ_ _ ho=>ho)) λh' tk hd k=>h h' tk hd λc o hc ho=>k c o (λz=>by lia) ho;intro i h h'#[a,b,c]kk;exact#[a.keep λc _ hc o ho=>kk _ _ (cG (hZ hc hd)) ho,b.at λo ho=>kk _ _ (cG (by lia)) ho,c.at λo ho=>kk _ _ (cG (by lia)) ho];intro i r A s Q E hA hr#[a,b,c]hQ;obtain⟨bE,g1,g2,g3⟩:=zp.at_ i r hr;refine Hf hA hp hq a b c (λh' x y e1 e2 gQ tT sz kk=>?_) λhex=>?_;rw[g1] at e1;rw[g2] at e2;cases e1;cases e2;exact hQ h' _ _ _ bE #[gQ,b.at λo ho=>kk _ _ (.inl hp) ho,c.at λo ho=>kk _ _ (.inl hq) ho] tT rfl rfl g3 λc o hc ho=>K kk hc o ho;rw[g1,g2] at hex;rcases hex with z | z<;>cases z;intro A s Q E hA#[a,b,c]hQ;refine Hf hA hp hq a b c (λh' x y e1 e2 _ _ _ _=>?_) λ_ h' kk=>hQ h' λc o hc ho=>K kk hc o ho;rcases zp.end_ with z | z;rw[z] at e1;cases e1;rw[z] at e2;cases e2
end
section
end
section
end
noncomputable def seen:μ->μ:=List.foldl (λacc k=>if k∈acc then acc else acc++[k]) []
theorem Am (l:μ)(k:To):seen (l++[k])=if k∈seen l then seen l else seen l++[k]:=by unfold seen;simp_all
theorem Hg (P:μ->Prop)(h0:P [])(hs:∀l k,P l->P (l++[k]))(l:μ):P l:=by(have:∀n l,l.length=n->P l:=λn=>by induction n with| zero=>simp_all| succ n ih =>intro l hl;(have dB:l ≠ []:=λz=>by simp_all);rw[<-AX dB];simp_all);simp_all
theorem Hh (l:μ):k∈seen l↔k∈l:=by induction l using Hg with| h0=>rfl| hs l j ih =>rw[Am,dh];split;rename_i z;rw[ih,cO];exact#[.inl,λq=>q.elim id λe=>e▸ih.mp (e▸z)];rw[dh,ih]
theorem Qr (l:μ):(seen l).length<=l.length/\((seen l).length<l.length↔¬l.Nodup):=by induction l using Hg with| h0=>exact#[bN _,by trivial]| hs l j ih =>obtain⟨a,b⟩:=ih;rw[Am,k7,eE];split;rename_i z;refine#[by exact o4 a,λ_ q=>q.2.2 j ((Hh l).mp z) j (cO.mpr rfl) rfl,λ_=>by exact rY a];rename_i z;refine#[by simp;assumption,λq=>?_,λq=>?_];have:=b.mp (by simp at q;assumption);exact λw=>this w.1;have:=λw=>q #[w,by simp,λx hx y hy e=>z ((Hh l).mpr (by rwa [<-cO.mp hy,<-e]))];have:=b.mpr this;simp;assumption
section
variable {prog:TF}{w:Ud}
theorem Hj {h h':TU}(x:h.SetOf [PF,w] S f n)(k:∀o,h.get? S=ζ->h'.get? S=ζ):h'.SetOf [PF,w] S f n:=by obtain⟨o,es,ep,t,ho,r⟩:=x;exact#[o,es,ep,t,k o ho,r]
theorem zdy (S it l:Tn)(items:K3)(ks:μ)(hk:∀(j:Nat) k,ks[j]?=Q8->∃t,items[j]?=se (.str k t))(hn:items.size=ks.length)(hb:ks.length+1<scanBound)(h1:S≠it)(h2:S≠l)(h3:it≠l)(n:Nat) :∀i s A R,ks.length-i=n->i<=ks.length->A.handled=ng->s.heap.IsListIter it l i->s.heap.IsList l items->s.heap.SetOf [PF,w] S (λk=>decide (k∈seen N8)) (seen N8).length->(∀h' tk,h'.SetOf [PF,w] S (λk=>decide (k∈'.')) '.'.length->(∀b o,b≠S->b≠it->ϧ=ζ->Mz=ζ)->R [JF,.none] { s with heap:=h',toks:=tk})->Wh [ϑ,w] A (.builtin "set.update.loop" #[[.ref S,II],[]]) R s:=by induction n with| zero =>intro i s A R hi hl hA dD hls hS hR;(have e:i=ks.length:=by lia);subst e;refine Vk F.entry_set_update_loop ?_;rw[Around.under_plainId F.plain_set_update_loop _];refine Ti (Wl (show A.in1.handled=ng from hA) dD hls (by simp[hn]) λh' eb=>Tq ?_);rw[lY] at hS;exact hR h' s.toks (Hj hS λo ho=>eb _ _ h1 ho) λb o _ hb ho=>eb b o hb ho| succ n ih =>intro i s A R hi hl hA dD hls hS hR;(have fI:i<ks.length:=by lia);obtain⟨k,hki⟩:∃k,ks[i]?=se k:=#[_,aV fI];obtain⟨t,ht⟩:=hk i k hki;(have et:ks.take (i+1)=ks.take i ++ [k]:=by obtain⟨y1,y2⟩:=aQ.mp hki;rw[qK,hki];rfl);refine Vk F.entry_set_update_loop ?_;rw[Around.under_plainId F.plain_set_update_loop _];refine Ti (V6 dD hls ht λh' hit' sb=>?_);refine Ti (UN ?_);unfold setAdd;(have i4:=by show Value.isStrOf k (.str k t)=tj;simp[Value.isStrOf]);refine UN (Ti ((strKind prog w).pyHash i4 ?_));(have ur:(seen (ks.take i)).length+1<scanBound:=by have:=(Qr (ks.take i)).1;rw[jr] at this;lia);refine wpAny_setAddHashed_of i4 rfl (Hj hS λo ho=>(sb.2 S h1).trans ho) ur λkD jo jD=>?_;(have hS3:kD.SetOf (strKind prog w) S (λj=>decide (j∈seen (ks.take (i+1)))) (seen (ks.take (i+1))).length:=by rw[et,Am];refine SetOf_congr jD (λj=>?_) ?_;by_cases z:k∈seen (ks.take i);rw[Ta z];by_cases y:j=k;subst y;simpa using z;simp[y];rw[S9 z];simp_all;by_cases z:k∈seen (ks.take i);simp[z];simp[z]);have up:∀b o,b≠S->b≠it->s.heap.get? b=se o->kD.get? b=se o:=λb o b1 b2 ho=>(jo.2 b b1).trans ((sb.2 b b2).trans ho);exact Tq #[plainId_quiet F.plain_set_update_loop _,ih (i+1) _ A R (by lia) fI hA (hit'.at λo ho=>(jo.2 it (Ne.symm h1)).trans ho) (hls.at λo ho=>up l o (Ne.symm h2) (Ne.symm h3) ho) hS3 λh4 tk hS4 k4=>hR h4 tk hS4 λb o b1 b2 ho=>k4 b o b1 b2 (up b o b1 b2 ho)]
variable {A:TC}{E:Value->Tj->Prop}{s:Tj}
set_option maxHeartbeats 3200000 in
theorem zbA {l:Tn}{items:K3}{ks:μ}{Q:Value->Tj->Prop}(hh:A.handled=ng)(hl:s.heap.IsList l items)(hk:∀(j:Nat) k,ks[j]?=Q8->∃t,items[j]?=se (.str k t))(hn:items.size=ks.length)(hb:ks.length+1<scanBound)
  (h:∀(h':TU) (tk:Nat),h'.SetOf [PF,w] s.heap.objs.size (λk=>decide (k∈'.')) '.'.length->(∀b o,ϧ=ζ->Mz=ζ)->Q VK { s with heap:=h',toks:=tk}) :
  Tv [ϑ,w] A (call (.type "set") [Qg]) Q E s:=by
 obtain⟨c,tl,hmro⟩:=F.called_set.mro;have g1:=F.called_set.made;have g2:=F.called_set.sub
 have g3:=F.called_set.notType;have g4:=F.called_set.canCreate
 have g5:=F.typeCall_set_1 Qg;refine Wp (codeAny_of_tree (?_:Tv _ _ (callAny (.type "set") _) _ _ _));refine Tq #[Code.quiet_builtin _ (by decide +kernel),Vk F.entry_type_call ?_]
 rw[Around.under_plain (weight_type_call_type "set" [Qg] []) rfl]
 repeat(any_goals(first |assumption|wp_step))
 let so:Bool->UK:=λiM=>{ cls:=.type "set",dict:=ng,data:=.set ([].toArray) 0 (.fresh 0 0 iM)}
 refine U5 (code_set_new_1 Qg (E:=E) (Q₁:=λobj s₁=>∃iM:Bool,obj=VK/\s₁={ s with heap:=[Qk,iM]}) λiM=>#[iM,rfl,rfl]) λr s₁ hr=>?_
 cases r with
 | error e=>exact hr
 | ok fl =>
  cases fl with
  | ret obj =>
   obtain⟨iM,rfl,rfl⟩:=hr;have hS:[Qk,iM].get? s.heap.objs.size=se (so iM):=Heap.get?_push_size _ rfl;have hT:Shared.TypeIs { s with heap:=[Qk,iM]} VK "set":=#[_,hS,rfl]
   have g6:=F.called_set.init.lookup;have g7:=F.called_set.init.bind VK
   repeat(any_goals(first |assumption|wp_step))
   refine U5 (WJ (R:=wants (λr s₂=>r=.none/\∃h' tk,s₂={ s with heap:=h',toks:=tk}/\h'.SetOf [PF,w] s.heap.objs.size (λk=>decide (k∈'.')) '.'.length/\∀b o,ϧ=ζ->Mz=ζ) E) F.called_set.init.plain F.entry_set_init (check_set_init_1 hT ?_)) λr₂ s₂ hr₂=>?_
   .obtain⟨⟨oc,od,ot,os'⟩,hol,uE,nl,hdl⟩:=hl;dsimp only at uE hdl;subst uE hdl;have gz:∀(b:Tn) o,ϧ=ζ->b<s.heap.objs.size:=λb o ho=>Qp;have hlS:=gz _ _ hol
    have hol':[Qk,iM].get? l=se #[.type "list",od,.seq items nl,os']:=Heap.get?_push_of_some _ hol;have z1:=F.sub_list_set
    have z2:=F.sub_list_frozenset;have z3:(Value.type "list"==Value.type "dict")=fh:=by decide
    have iZ:[Qk,iM].IsList l items:=#[_,hol',rfl,nl,rfl];unfold Builtin.«set.__init__» noKeywords Builtin.Frozenset.updateFrom;generalize hPI:pyIter=PI
    wp_walk
    subst hPI;refine Uo iZ (Ti (wpAny_runValue ?_));have ez:[Qk,iM].objs.size=s.heap.objs.size+1:=Heap.size_push ..;have gS:([Qk,iM].push { cls:=.type "list_iterator",data:=.fields ([Qg,.int 0 0].toArray)}).get? s.heap.objs.size=se (so iM):=Heap.get?_push_of_some _ hS
    refine zdy s.heap.objs.size [Qk,iM].objs.size l items ks hk hn hb (by rw[ez];exact cG (i9 _)) (eG hlS) (by rw[ez];exact eG (fE hlS)) _ 0 _ _ _ rfl (ja _) (show A.in1.in1.in1.handled=ng by simp[hh]) #[_,Heap.get?_push_size _ rfl,rfl,rfl] (iZ.push _)
     (SetOf_congr ((setObjOf_fresh (knd:=[PF,w]) iM).setOf gS (by unfold scanBound;lia)) (λj=>(Tf (by simp[seen])).symm) rfl) λh4 tk hS4 k4=>?_
    refine Tq ?_;show Tv _ _ (ret Value.none) _ _ _;exact Tq #[rfl,h4,tk,rfl,hS4,λb o ho=>k4 b o (cG (gz _ _ ho)) (by rw[ez];exact cG (fE (gz _ _ ho))) (Heap.get?_push_of_some _ (Heap.get?_push_of_some _ ho))]
   .cases r₂ with
    | error e=>exact hr₂
    | ok f₂ =>
     cases f₂ with
     | ret r =>
      obtain⟨rfl,h',tk,rfl,hS',cP⟩:=hr₂
      repeat(any_goals(first |assumption|wp_step))
      exact h _ _ hS' cP
     | _=>exact hr₂.elim
  | _=>exact hr.elim
end
theorem zfk:T9 "set"=[P6,"set"]:=by decide +kernel
section
end
end NAL.EX
namespace NAL.RZ
open PySem PySem.Spec PyProof.Rows NAL NAL.EX NAL.RX
section
variable {X:Cz}{k:Nat}[Y:Yx X k] {o a b e:TV}{es:LI}{fa fb:RE}{fA:RA}{pos aD p p1 p2 q0 ay ax:VX}{x y:To}{i j n nc:Nat}{ρ:Ul}{h:TH}{pins:List (Tn×UK)}{ws:WL}{s:Tj}{d xx:D}{ks:Ϟ}{ds:θ}{us:Ϛ}{g:Gs}{u v w:Value}{P:D->TH->Prop}{m:Bool}{H':TU}{E:Value->Tj->Prop}{B:Cb}
theorem Hl:1000<=sizeLine:=by decide
omit Y
theorem kds_len:∀ks:Ϟ,(kds ks).length=ks.length| []=>rfl| k::ks=>congrArg jb (kds_len ks)
theorem Hm:∀{ks:List T4} {i:Nat},(kds ks)[i]?=ks[i]?.map kd| [],i=>by simp[kds]| k::ks,0=>rfl| k::ks,i+1=>by have:kds (k::ks)=kd k::kds ks:=rfl;rw[this,uW,uW];exact Hm
theorem J.adds (z:J X pins ρ h ws s)(l:ds.length=us.length)(f:∀(i:Nat) d u,ds[i]?=ϩ->us[i]?=MT->∀g,DU X.B g d u):J X pins ρ h (Ϩ++ws) s:=by cases z with | mk g I p W =>refine#[g,I,p,jW (λw hw=>?_) W];obtain⟨i,hi⟩:=bH hw;rw[bU] at hi;exact f i _ _ hi.1 hi.2 g
theorem J.keysL {vs:Ϛ}(z:J X pins ρ h ws s)(kl:ks.length=vs.length)(zz:vs.length<=sizeLine)(hk:∀b o,ϧ=ζ->'0'=ζ)(hS:H'.get? s.heap.objs.size=se { cls:=.type "list",dict:=ng,data:=.seq acc cc,slots:=([].toArray)})(aF:ItemsOf (λi v=>∃k x,'g'[i]?=se (k,x)/\[MI,X.B.w].is k v=tj) acc 'g'.length)(q:(RX.mk m (kds ks) h).sat P X.E):RP X pins ρ ws P VK { s with heap:=H',toks:=tk}:=by(have la:acc.toList.length=ks.length:=by have:=aF.1;simp[this,kl]);refine(z.adds (by rw[kds_len,la]) λi d u e1 e2 g=>?_).mkL (by rw[kds_len,la]) (by rw[la,kl];exact zz) ig hk (by exact hS) q tk;rw[Hm,kg] at e1;obtain⟨k,e3,rfl⟩:=e1;obtain⟨k',x',e4,e5⟩:=aF.2 i u (by simpa using e2);rw[bU,e3] at e4;cases e4.1;exact Ah e5
include Y
instance:BOk X "list" (ZT m):=#[_,H2,vz,.inr #[_,rfl],λ{pins ρ h ws s P ds us} l0 z q=>by unfold ZT at q;split at q;rename_i x;obtain⟨u,rfl,z⟩:=one l0 z;split at q;rename_i p e1;obtain⟨kl,a,us,rfl,l,zz,⟨n,dd⟩,_⟩:=z.opD aR e1;obtain⟨od,es,ep,g1,g2,g3,g4⟩:=id dd;exact Cj (PySem.W.kdl_dict n) (z.hd Y) (show s.heap.DictAt [MI,X.B.w] a _ ep from#[od,es,g1,g2,g3,g4]) (by simp;simp_all) λh' tk acc cc hk hS aF=>z.tl.keysL (by rw[kl,l]) zz hk hS aF q;obtain⟨ds,e1,q⟩:=q.o;obtain⟨a,us,rfl,l,zz,f,z2⟩:=z.opS aR e1;have fin:∀h' c',(∀b o',ϧ=se o'->Mz=se o')->h'.get? s.heap.objs.size=se { cls:=.type "list",dict:=ng,data:=.seq us.toArray c',slots:=([].toArray)}->RP X pins ρ ws P VK { s with heap:=h'}:=λh' c' kp e=>(z2.sub (by simp +contextual [or_imp])).mkL l zz ig kp e q s.toks;(cases ht:ϴ with| true=>rw[ht] at f;obtain⟨o,ho,hc,n,hd⟩:=f;exact call_list_seq a Kl ho hc hd fin (by exact zz)| false=>rw[ht] at f;obtain⟨n,f⟩:=f;exact call_list_seq a lS f rfl rfl fin (by exact zz));exact q.elim]
theorem Qv (ho:QE X o fa)(sc:SC X "list" pos [[Na,[KU,o,"keys"],[],[]]]:=by exact⟨rfl,by decide,by decide,rfl⟩)(sm:SM X o "keys" ay [] ax:=by exact⟨rfl,rfl,rfl,rfl⟩) (hs:[ϵ,[[Na,[KU,o,"keys"],[],[]]]]=[(fh,[Ϧ,[Na,[KU,o,"keys"],[],[]]])]:=by rfl):QE X [Os,.Name "list" p,[[Na,[KU,o,"keys"],[],[]]],[]] (xbU m fa):=#[λ{pins ρ h ws s P} z q=>Tw (gZ z sc.g H2 vz (ju sc.pl (gu sc.pl (by rw[hs];refine Calls.spliced_cons (V7 sm.base sm.few sm.line rfl (Uy (ho.h z q.bnd) λu s1 #[x,h1,z,q]=>?_));obtain⟨⟨ks,ds⟩,e1,q⟩:=q.o;obtain⟨t1,t2⟩:=z.tyD (by unfold isD;rw[e1]);obtain⟨kl,a,us,rfl,l,zz,⟨n,dd⟩,_⟩:=z.opD aR e1;refine#["dict","dict.keys",si,BZ,PySem.F.type_dict_keys,t1,t2,Calls.callWith_builtin rfl (BU ?_)];refine W8 BZ t1 PySem.F.entry_dict_keys (PySem.F.args_dict_keys_1 _) (PySem.W.kdl_meets_keys [MI,X.B.w] a n) #[#[_,dd],Calls.spliced_nil ?_];obtain⟨od,es,ep,g1,g2,g3,g4⟩:=id dd;have z2:J X pins ρ h1 ws { s1 with heap:=s1.heap.push { cls:=.type "dict_keys",data:=.fields ([ψ].toArray)}}:=z.tl.kept (λ_ _=>Heap.get?_push_of_some _) s1.toks;exact Cj (PySem.W.kdl_keys) (z.hd Y) #[#[_,Heap.get?_push_size _ rfl,rfl,rfl],#[od,es,Heap.get?_push_of_some _ g1,g2,g3,g4]] ε λh' tk acc cc hk hS aF=>z2.keysL (by rw[kl,l]) zz hk hS aF q))) sc.n sc.d)]
omit Y
theorem zd0:∀(rows:List (Tn×List D×List Value)) {g:Gs} {ws:WL},Iv X g ρ h s->(∀p∈pins,g.G p.1=[gV,p.2])->cI X.B g ws->(rows.map (·.1)).Nodup->(∀r∈rows,g.G r.1=ng/\s.heap.get? r.1=se { cls:=.type "tuple",data:=.seq r.2.2.toArray}/\r.2.1.length=r.2.2.length/\r.2.2.length<=sizeLine/\∀w∈r.2.1.zip r.2.2,w∈ws)->∃g',Iv X g' ρ h s/\(∀p∈pins,g'.G p.1=[gV,p.2])/\cI X.B g' (rows.map (λr=>(D.tup r.2.1,Value.ref r.1))++ws)/\∀b,b∉rows.map (·.1)->Ku=Ϝ:=by intro rows;induction rows with| nil =>rintro g ws I p W _ _;exact#[g,I,p,W,λ_ _=>rfl]| cons r rows ih =>rintro g ws I p W nd f;obtain⟨n1,n2⟩:=eW.mp nd;obtain⟨g',I',p',W',k'⟩:=ih I p W n2 λr hr=>f r (a7 _ hr);obtain⟨f1,f2,f3,f4,f5⟩:=f r aR;(have n:g'.G r.1=none:=by rw[k' _ n1,f1]);have x:=Gr.upd (r:=se (.dat { cls:=.type "tuple",data:=.seq r.2.2.toArray })) n;have q:=I'.hk.dat n (λ_ _ e=>e) f2;refine#[_,I'.go x q (λ_ _ _ e=>e) s.toks,λy z=>x.f _ _ (p' y z) (.inl rfl),pM (.tup #[_,Gs.upd_same,λ_ e=>#[_,e,rfl,_,rfl]] f3 f4 (x.le.held λw hw=>W' w (dG _ (f5 w hw)))) (x.le.held W'),λb hb=>?_];rw[Gs.upd_ne (by rintro rfl;simp at hb),k' b (by simp at hb ⊢;exact hb.2)]
include Y
theorem Qx (ho:QE X o fa)(sc:SC X "list" pos [[Na,[KU,o,"items"],[],[]]]:=by exact⟨rfl,by decide,by decide,rfl⟩)(sm:SM X o "items" ay [] ax:=by exact⟨rfl,rfl,rfl,rfl⟩) (hs:[ϵ,[[Na,[KU,o,"items"],[],[]]]]=[(fh,[Ϧ,[Na,[KU,o,"items"],[],[]]])]:=by rfl):QE X [Os,.Name "list" p,[[Na,[KU,o,"items"],[],[]]],[]] (xa8 m fa):=#[λ{pins ρ h ws s P} z q=>Tw (gZ z sc.g (Y.no _) vz (ju sc.pl (gu sc.pl (by rw[hs];refine Calls.spliced_cons (V7 sm.base sm.few sm.line rfl (Uy (ho.h z q.bnd) λu s1 #[x,h1,z,q]=>?_));obtain⟨⟨ks,ds⟩,e1,q⟩:=q.o;obtain⟨hz,q⟩:=q.i;obtain⟨t1,t2⟩:=z.tyD (by unfold isD;rw[e1]);obtain⟨kl,a,us,rfl,l,zz,⟨n,dd⟩,z2⟩:=z.opD aR e1;refine#["dict","dict.items",si,BY,PySem.F.type_dict_items,t1,t2,Calls.callWith_builtin rfl (BU ?_)];refine W8 BY t1 PySem.F.entry_dict_items (PySem.F.args_dict_items_1 _) (meets_dict_items (Ue X.B.P X.B.w) a n) #[#[_,dd],Calls.spliced_nil ?_];obtain⟨od,es,ep,g1,g2,g3,g4⟩:=id dd;(have zl:(ks.zip us).length=us.length:=by simp[kl,l]);refine PySem.W.kdx_call (z.hd Y) #[_,Heap.get?_push_size _ rfl,rfl,rfl] #[od,es,Heap.get?_push_of_some _ g1,g2,g3,g4] (by exact zl▸zz) λh' tk acc cc as hkp hS hl hG aF=>?_;rw[Heap.size_push ..] at hG hS ⊢;rw[zl] at hl;have old:=λb o e=>hkp b o (Heap.get?_push_of_some _ e);have nd:=hG.rise.imp λh=>cG h;(have bE:∀(j:Nat) c,as[j]?=se c->∃kk d v kv,ks[j]?=se kk/\ds[j]?=se d/\us[j]?=se v/\(Ue X.B.P X.B.w).is kk kv=tj/\h'.get? c=se { cls:=.type "tuple",data:=.seq ([kv,v].toArray) }:=λj c hj=>by obtain⟨kv,kk,v,f1,f2,f3⟩:=hG.pairs j c hj;rw[bU] at f1;(have lt:=by exact l▸(aQ.mp f1.2).1);exact#[kk,ds[j],v,kv,f1.1,aV lt,f1.2,f2,f3]);(have ch:∀j:Nat,∃r:Tn×List D×List Value,∀c,as[j]?=se c->r.1=c/\∃kk d v kv,r.2=([kd kk,d],[kv,v])/\ks[j]?=se kk/\ds[j]?=se d/\us[j]?=se v/\(Ue X.B.P X.B.w).is kk kv=tj/\h'.get? c=se { cls:=.type "tuple",data:=.seq ([kv,v].toArray) }:=λj=>by cases e:as[j]? with| none=>exact#[(0,[],[]),λc z=>by cases z]| some c=>obtain⟨kk,d,v,kv,f⟩:=bE j c e;exact#[(c,[kd kk,d],[kv,v]),λc' z=>by cases z;exact#[rfl,kk,d,v,kv,rfl,f]]);obtain⟨T,hT⟩:=Classical.axiomOfChoice ch;let rows:=(aT as.length).map T;(have ra:∀j:Nat,j<as.length->rows[j]?=se (T j):=λj hj=>by simp[rows,hj]);(have rm:rows.map (·.1)=as:=jY λj=>by by_cases hj:j<as.length;rw[bo,ra j hj,aV hj];exact congrArg se (hT j _ (aV hj)).1;rw[gf (by simp[rows];exact qN hj),gf (by exact qN hj)]);cases z2 with | mk g I p W =>have I':=I.go .refl (I.hk.kept old) (λb o _=>old b o) tk;have fr:∀b,s1.heap.objs.size<=b->g.G b=none:=λb hb=>I.hk.fresh (Heap.get?_none_of_le hb);have W4:cI X.B g (rows.flatMap (λr=>r.2.1.zip r.2.2)++ws):=jW (λw hw=>by obtain⟨r,hr,hw⟩:=jO.mp hw;obtain⟨j,hj,rfl⟩:=aU.mp hr;obtain⟨_,kk,d,v,kv,er,f1,f2,f3,f4,f5⟩:=hT j _ (aV (dA.mp hj));rw[er] at hw;simp only[i8,Bi,bi,gW,or_false] at hw;rcases hw with rfl | rfl;exact Ah f4;exact W _ (df _ (aM (bU.mpr #[f2,f3])))) λw hw=>W w (dG _ (a7 _ hw));(obtain⟨g5,I5,p5,W5,k5⟩:=zd0 rows I' p W4 (by exact rm▸nd) λr hr=>by obtain⟨j,hj,rfl⟩:=aU.mp hr;obtain⟨ec,kk,d,v,kv,er,f1,f2,f3,f4,f5⟩:=hT j _ (aV (dA.mp hj));refine#[fr _ ?_,by rw[ec,er];exact f5,by rw[er];rfl,by rw[er];show 2<=sizeLine;decide,λw hw=>df _ (jO.mpr #[_,hr,hw])];have:=hG.above (T j).1 (by exact ec▸ka _);exact fF (BM this));have ln:=λhm=>o5 _ (hG.above _ hm);(have pl:(prs ks ds).length=as.length:=by rw[DO kl,hl,kl,l]);refine zZ (us:=as.map Value.ref) I5 p5 (λw hw=>?_) (by simp[pl]) (by simp[hl];exact zz) (by rw[k5 _ (by exact rm▸ln)];exact fr _ (l7 _)) (λ_ _ e=>e) (c:=cc) (by rw[hS];simp[Xy,<-aF]) q tk;rcases dh.mp hw with hw | hw;obtain⟨j,hj⟩:=bH hw;rw[bU,bo,kg] at hj;obtain⟨h1,c,h2,h3⟩:=hj;obtain⟨kk',d',e5,e6,e7⟩:=DN h1;obtain⟨ec,kk,d,v,kv,er,f1,f2,f3,f4,f5⟩:=hT j _ h2;rw[e5] at f1;cases f1;rw[e6] at f2;cases f2;refine W5 w (df _ (aU.mpr #[T j,aM (ra j (aQ.mp h2).1),?_]));rw[er,ec];exact Prod.ext e7.symm h3;exact W5 w (dG _ (dG _ hw))))) sc.n sc.d)]
omit Y
theorem Qy {kk:T4}(n:kk∉r.map (·.1)):Wq r kk v=r++[(kk,v)]:=by unfold Wq;rw[S9];simp only[gU,decide_eq_true_eq,not_exists,not_and];exactλx hx e=>n (by exact e▸uZ hx)
theorem Qz:∀{r acc:List (T4×Value)},((acc++r).map (·.1)).Nodup->putAll acc r=acc++r:=by intro r;induction r with| nil =>rintro acc _;rw[k8];rfl| cons p r ih =>rintro acc nd;(have e:Wq acc p.1 p.2=acc ++ [p]:=Qy λz=>by rw[dz,k7] at nd;exact nd.2.2 _ z _ (by simp) rfl);show putAll (Wq acc p.1 p.2) r=_;rw[e,ih (by simpa using nd)];simp
theorem Hn (nd:ks.Nodup)(l:ks.length=us.length):putAll [] 'C'='C':=by have:=Qz (r:='C') (acc:=[]) (by simpa [G9 l] using nd);exact this
theorem J.newD {vs:Ϛ}(z:J X pins ρ h (ds.zip vs++ws) s)(kl:ks.length=ds.length)(l:ds.length=vs.length)(zz:vs.length<=sizeLine)(hk:∀b o,ϧ=ζ->'0'=ζ)(dd:H'.DictOf [MI,X.B.w] s.heap.objs.size 'g')(q:(RX.mkD m ks ds h).sat P X.E):RP X pins ρ ws P VK { s with heap:=H',toks:=tk} :=z.mkD kl l zz ig hk z.big dd q tk
theorem zcI (W:Hk B g h s.heap):∀{ds:List D} {us:List Value} {ks:List T4} {es:List D},T6 prK ds=se ks->T6 prV ds=se es->ds.length=us.length->cI B g Ϩ->∃vs:List Value,ks.length=es.length/\es.length=vs.length/\ds.length=vs.length/\cI B g (es.zip vs)/\∀(j:Nat) p,'g'[j]?=ϕ->∃t bE,us[j]?=[TS,t]/\s.heap.IsTuple t ([bE,p.2].toArray)/\(Ue B.P B.w).is p.1 bE=tj:= by intro ds;induction ds with| nil=>intro us ks es e1 e2 l _;cases e1;cases e2;exact#[[],rfl,rfl,rfl,λ_ z=>by simp at z,λj p z=>by simp at z]| cons d ds ih =>intro us ks es e1 e2 l A;obtain⟨kk,ks,h1,h2,rfl⟩:=TW.mp e1;obtain⟨e,es,h3,h4,rfl⟩:=TW.mp e2;cases us with| nil=>cases l| cons u us =>obtain⟨vs,l1,l2,l3,A3,f⟩:=ih h2 h4 (by simpa using l) λw z=>A w (a7 _ z);have dq:=A (d,u) aR;unfold prK at h1;split at h1;rename_i d1 d2;cases h3;(cases dq with | @tup a _ us2 ft lt zt At =>(rcases us2 with _ | ⟨v1,_ | ⟨v2,_ | _⟩⟩<;>first |cases lt |skip);obtain⟨o,eo,fo⟩:=ft;have it:=fo _ (W.st _ _ (.inl eo));refine#[v2::vs,by simp[l1],by simp[l2],by simp[l3],pM (At (_,v2) (a7 _ aR)) A3,λj p hj=>?_];cases j with| zero=>cases hj;exact#[a,v1,rfl,it,pO (At (d1,v1) (by simp)) h1]| succ j=>exact f j p (by exact hj));cases h1
include Y
theorem zei:Gx X (.type "dict") (X7 m):=λ{pins ρ h ws s P ds us} l0 z q=>by unfold X7 at q;split at q;rename_i x;obtain⟨u,rfl,z⟩:=one l0 z;split at q;rename_i p e1;obtain⟨kl,a,us,rfl,l,zz,⟨n,dd⟩,z2⟩:=z.opD aR e1;exact kt_call_dict n dd ε λh' pZ hs=>(z2.sub (by simp +contextual [or_imp])).newD kl l zz (λb q hq=>(hs.2 b [QJ,hq]).trans (Heap.get?_push_of_some _ hq)) pZ q;obtain⟨ds,e1,q⟩:=q.o;obtain⟨ks,e2,q⟩:=q.o;obtain⟨es,e3,q⟩:=q.o;obtain⟨nd,q⟩:=q.i;obtain⟨a,us,rfl,l,zz,⟨n,f⟩,z2⟩:=z.opL aR e1;have hd:=z2.hd Y;(cases z2 with | mk g I p W =>obtain⟨vs,l1,l2,l3,A,fp⟩:=zcI I.hk e2 e3 l λw hw=>W w (df _ hw);have z3:J X pins ρ h (es.zip vs++ws) s:=#[g,I,p,jW A λw hw=>W w (by simp[hw])];refine zeu (ps:='g') hd f #[ε,λj p hj=>?_] (by exact zz) λh' tk dd kp=>z3.newD l1 l2 ε kp (by rw[Hn (vR nd) (by rwa [l1])] at dd;exact dd) q;obtain⟨t,bE,g1,g2,g3⟩:=fp j p hj;exact#[t,bE,by simpa using g1,g2,g3]);exact q.elim
theorem QF (ha:QA X es fA)(sc:SC X "dict" pos es:=by exact⟨rfl,by decide,by decide,rfl⟩):QE X [Os,.Name "dict" p,es,[]] (Ui (X7 m) fA):=#[λ{pins ρ h ws s P} z q=>Tw (gZ z sc.g H2 CJ (ju sc.pl (gu sc.pl (Uy [CX,z] λus s1 #[ds,h1,l,z,q]=>zei l z q))) sc.n sc.d)]
theorem zdl (h1:QE X a fa)(h2:QE X b fb)(sc:SC X "dict" pos [.Call [Oz,"zip"] [a,b] [] aD]:=by exact⟨rfl,by decide,by decide,rfl⟩)(sz:SC X "zip" aD [a,b]:=by exact⟨rfl,by decide,by decide,rfl⟩)(rB:[ϵ,[.Call [Oz,"zip"] [a,b] [] aD]]=[(fh,[Ϧ,.Call [Oz,"zip"] [a,b] [] aD])]:=by rfl)(hs:[ϵ,[a,b]]=[(fh,[Ϧ,a]),(fh,[Ϧ,b])]:=by rfl) :QE X [Os,.Name "dict" p1,[.Call [Oz,"zip"] [a,b] [] aD],[]] (rDz m fa fb):=#[λ{pins ρ h ws s P} z q=>Tw (gZ z sc.g H2 CJ (ju sc.pl (gu sc.pl (by rw[rB];refine[Sa,gZ z sz.g H2 x7 (ju sz.pl (gu sz.pl ?_)) sz.n sz.d];rw[hs];refine[Nu,h1.h z q.bnd,λu s1 #[x,_,z,q]=>[Nu,h2.h z q.bnd,λv s2 #[y,h3,z,q]=>Calls.spliced_nil ?_]];obtain⟨ds,e1,q⟩:=q.o;obtain⟨es,e2,q⟩:=q.o;obtain⟨ks,e3,q⟩:=q.o;obtain⟨eb,q⟩:=q.i;simp only[cC] at eb;obtain⟨eb1,eb2,eb3⟩:=eb;obtain⟨c2,vs,rfl,l2,Al,f2,z2⟩:=z.opS aR e2;obtain⟨c1,us,rfl,l1,S8,f1,z1⟩:=z2.opS (dG _ (a7 _ aR)) e1;(have sq:∀{x c} {us:List Value},(bif ϴ then IsTup s2.heap c us.toArray else∃n,s2.heap.get? c=se (Xy us n))->SeqAt ϴ s2.heap c us.toArray:=λ{x c us} f=>by cases ht:ϴ with| true=>rw[ht] at f;exact f| false=>rw[ht] at f;obtain⟨n,f⟩:=f;exact#[_,f,rfl,n,rfl]);have k1:=sq f1;have k2:=sq f2;have kl:=(jT e3).1;(have le:=by rw[aW,aW] at eb2;exact nJ eb2);(have lt:=by simpa [aW] using eb3);have t16:=Hl;(have hk:∀j kk u,ks[j]?=se kk->us[j]?=MT->[MI,X.B.w].is kk u=tj:=λj kk u e4 e5=>by(have oH:j<ds.length:=by exact kl▸(aQ.mp e4).1);obtain⟨kk',e6,e7⟩:=(jT e3).2 j ds[j] (aV oH);rw[e4] at e6;cases e6;obtain⟨_,_,r⟩:=z1.at (df _ [LV,#[aV oH,e5]]);exact pO r e7);refine C7 (p:=(ϴ,c1)) (q:=(Ug y,c2)) k1 k2 λh' z0 kk=>Calls.spliced_nil ?_;(have lz:s2.heap.objs.size+4<h'.objs.size:=by obtain⟨f0,f1,_,hz0⟩:=z0.zip;exact Heap.lt_size hz0);refine Qq (knd:=[MI,X.B.w]) (ps:='g') (z.hd Y) #[λj r hr=>?_,.inl ε] (ym k1) (ym k2) z0 (k1.at λo g=>kk _ o g) (k2.at λo g=>kk _ o g) ε λh2 tk hd kp=>?_;rw[bU] at hr;(have oH:=by exact l1▸kl▸(aQ.mp hr.1).1);exact#[us[j],by simp[oH],by simpa using hr.2,hk j _ _ hr.1 (aV oH)];rw[Hn (vR eb1) (by rwa [le])] at hd;have n:s2.heap.get? h'.objs.size=none:=Heap.get?_none_of_le (by lia);have big:=(J.big (z.kept kk s2.toks):);exact(z2.sub (by simp +contextual [or_imp])).mkD le l2 Al n (λc o g=>kp c o (Heap.lt_size g) (kk c o g)) big hd q tk))) sc.n sc.d)]
omit Y in
theorem Ho:∀{n k i:Nat},(dUp k n)[i]?=if i<n then[ϒ,.ofNat (k+i)]else ng
 | 0,k,i=>by rw[S9 (l6 _)];rfl
 | n+1,k,i=>by
  have e:dUp k (n+1)=[KZ,k]::dUp (k+1) n:=rfl;rw[e];cases i with
  | zero=>simp
  | succ i =>
   rw[uW,Ho]
   by_cases z:i<n<;>simp[z]
   lia
omit Y in
theorem An:∀{n k:Nat},(dUp k n).length=n
 | 0,_=>rfl
 | n+1,k=>congrArg jb (An (n:=n) (k:=k+1))
theorem zcJ (h1:QE X a fa)(sc:SC X "list" pos [.Call [Oz,"range"] [a] [] aD]:=by exact⟨rfl,by decide,by decide,rfl⟩)(sr:SC X "range" aD [a]:=by exact⟨rfl,by decide,by decide,rfl⟩)(rB:[ϵ,[Expr.Call [Oz,"range"] [a] [] aD]]=[(fh,[Ϧ,Expr.Call [Oz,"range"] [a] [] aD])]:=by rfl)(hs:[ϵ,[a]]=[(fh,[Ϧ,a])]:=by rfl) :QE X [Os,.Name "list" p1,[.Call [Oz,"range"] [a] [] aD],[]] (ZM m fa):=#[λ{pins ρ h ws s P} z q=>Tw (gZ z sc.g H2 vz (ju sc.pl (gu sc.pl (by rw[rB];refine[Sa,gZ z sr.g H2 boot_range (ju sr.pl (gu sr.pl ?_)) sr.n sr.d];rw[hs];refine[Nu,h1.h z q.bnd,λu s1 #[x,hh,z,q]=>Calls.spliced_nil ?_];split at q;rename_i n;obtain⟨hb,q⟩:=q.i;obtain⟨t,rfl⟩:=z.int;(have hb:=by simpa using hb);refine call_range_1 (Calls.spliced_nil ?_);have z2:J X pins ρ hh ws { s1 with heap:=s1.heap.push { cls:=.type "range",data:=.fields ([.int 0 s1.toks,.int (rJ n) t,.int 1 (s1.toks+1)].toArray)},toks:=s1.toks+1+1}:=z.tl.kept (λ_ _=>Heap.get?_push_of_some _) _;refine call_list_range (n:=n) (z.hd Y) (Heap.get?_push_size _ rfl) (small_one ε ε (by simp) (by simp;lia)) (by rw[rangeSize_one];split<;>simp_all) (by lia) λh' tk acc c' hk hS dD=>?_;(have la:acc.toList.length=n:=by have:=dD.1;exact this);have t16:=Hl;refine(z2.adds (ds:=dUp 0 n) (by rw[An,la]) λi d u e1 e2 g=>?_).mkL (by rw[An,la]) (by lia) ig hk (by exact hS) q tk;rw[Ho] at e1;split at e1;cases dU e1;obtain⟨t',e3⟩:=dD.2 i u (by simpa using e2);rw[e3];(have:0+i*1=rJ (0+i):=by simp);exact this▸.int;cases e1;exact q.elim))) sc.n sc.d)]
theorem zeI (h1:QE X a fa)(sc:SC X "len" pos [.Call [Oz,"set"] [a] [] aD]:=by exact⟨rfl,by decide,by decide,rfl⟩)(sr:SC X "set" aD [a]:=by exact⟨rfl,by decide,by decide,rfl⟩)(rB:[ϵ,[.Call [Oz,"set"] [a] [] aD]]=[(fh,[Ϧ,.Call [Oz,"set"] [a] [] aD])]:=by rfl)(hs:[ϵ,[a]]=[(fh,[Ϧ,a])]:=by rfl) :QE X [Os,.Name "len" p1,[.Call [Oz,"set"] [a] [] aD],[]] (rLs fa):=#[λ{pins ρ h ws s P} z q=>Tw (gZ z sc.g H2 (show T9 "len"=[TO,"len"]by decide +kernel) [Pg,sc.pl,sc.pl,by rw[rB];refine[Sa,gZ z sr.g H2 zfk (ju sr.pl (gu sr.pl ?_)) sr.n sr.d];rw[hs];refine[Nu,h1.h z q.bnd,λu s1 #[x,hh,z,q]=>Calls.spliced_nil ?_];obtain⟨ds,e1,q⟩:=q.o;obtain⟨ks,e2,q⟩:=q.o;obtain⟨eb,q⟩:=q.i;simp only[cC,kR] at eb;obtain⟨c,us,rfl,l,zz,f,z2⟩:=z.opS aR e1;rw[eb.1] at f;obtain⟨n,f⟩:=f;have kl:=(jT e2).1;(have lt:=by have:=eb.2;simpa [aW] using this);refine zbA (ks:=ks) (z.hd Y) #[_,f,rfl,n,rfl] (λj kk hj=>?_) (by simp;simp_all) (by unfold scanBound;lia) λh' tk hS kk=>Calls.spliced_nil ?_;(have oH:=by exact kl▸'Z'.1);obtain⟨kk',e6,e7⟩:=(jT e2).2 j ds[j] (aV oH);rw[hj] at e6;cases e6;obtain⟨u,e8,z3⟩:=z2.item l (aV oH);obtain⟨_,_,r⟩:=z3.at aR;generalize ds[j]=dj at r e7;(cases r<;>first |(cases e7;exact#[_,by simpa using e8])|cases e7);obtain⟨o,es,ep,t,ho,g1,g2,_,_,g5,g6,g7⟩:=hS;refine call_len_set ho g1 g2 g6 (Int.lt_trans (Int.ofNat_lt.mpr g5) (by decide)) ?_;rw[g7];rw[aW,DP] at q;exact(z.tl.kept kk tk).gint q] sc.n sc.d)]
omit Y in
theorem mE (K:a9):∀{t c:Nat},t<7->c<7->c≠0->nO K (.type (tn t)) (.type (tn c))=se (isBn t c):=by intro t c ht hc h0;rcases t with _ | _ | _ | _ | _ | _ | _ | t<;>first |(exact absurd ht (by lia))|(rcases c with _ | _ | _ | _ | _ | _ | _ | c<;>first |rfl|exact[Oq,h0]|exact absurd hc (by lia))
omit Y in
theorem zcK {Q:Value->Tj->Prop}{t c:Nat}(z:J X pins ρ h ((xx,u)::ws) s)(e:tc h xx=se t)(hc:c<7)(h0:c≠0)(q:∀tk,Q (.bool (isBn t c)) { s with toks:=tk}):Tv [Zh,X.B.w] X.A (call (.builtin "isinstance") [u,.type (tn c)]) Q E s:=by
 cases z with | mk g I p W =>
 have kin:Ll:=I.kIn;cases W _ aR with
 | non=>cases e;exact kh Ch kin True.intro (mE (t:=0) _ (by decide) hc h0) (λz=>nomatch z) q
 | bl=>cases e;exact kh PySem.W.kitx_bool kin True.intro (mE (t:=1) _ (by decide) hc h0) (λz=>nomatch z) q
 | int=>cases e;exact kh PySem.W.kitx_int kin True.intro (mE (t:=2) _ (by decide) hc h0) (λz=>nomatch z) q
 | str=>cases e;exact kh PySem.W.kitx_str kin True.intro (mE (t:=3) _ (by decide) hc h0) (λz=>nomatch z) q
 | fn=>cases e
 | lst f l zz A=>cases e;exact kh xW kin #[_,[Re,_,_,f],rfl] (mE (t:=4) _ (by decide) hc h0) (λz=>nomatch z) q
 | tup f l zz A =>
  cases e;obtain⟨o,e1,f⟩:=f;obtain⟨o,h1,h2,_⟩:=f _ [Re,_,_,e1];exact kh PySem.W.kitx_tuple kin #[o,h1,h2] (mE (t:=5) _ (by decide) hc h0) (λz=>nomatch z) q
 | dic=>cases e
 | @at_ i a e0 =>
  replace e:(match eg h i with
   | some (.ml _)=>se 4
   | some (.mr _)=>se 4
   | some (.md _ _)=>se 6
   | _=>ng)=se t:=e
  rw[aX] at e
  split at e
  .rename_i e1;cases e;cases[Kw,_,_,_,e1]with | ml r f l zz A=>exact kh xW kin #[_,f,rfl] (mE (t:=4) _ (by decide) hc h0) (λz=>nomatch z) q
  .rename_i e1;cases e;cases[Kw,_,_,_,e1]with | mr f l zz A=>exact kh xW kin #[_,[Re,_,_,f],rfl] (mE (t:=4) _ (by decide) hc h0) (λz=>nomatch z) q
  .rename_i e1;cases e;cases [Kw,_,_,_,e1] with | md r f n k l zz A =>
   obtain⟨o,es,ep,h1,h2,_⟩:=f;exact kh PySem.W.kitx_dict kin #[o,h1,h2.1] (mE (t:=6) _ (by decide) hc h0) (λz=>nomatch z) q
  .cases e
theorem zcF (ha:QE X e fa)(hy:bltN.contains y=tj:=by decide +kernel)(hv:T9 y=[P6,tn nc]:=by decide +kernel)(hn:nc<7:=by decide)(h0:nc≠0:=by decide)(sc:SC X "isinstance" pos [e,[tA,q0]]:=by exact⟨rfl,by decide,by decide,rfl⟩)(sy:SC X y pos []:=by exact⟨rfl,by decide,by decide,rfl⟩)(hs:[ϵ,[e,[tA,q0]]]=[(fh,[Ϧ,e]),(fh,[Ϧ,[tA,q0]])]:=by rfl) :QE X [Os,.Name "isinstance" p,[e,[tA,q0]],[]] (ZN nc fa):=#[λ{pins ρ h ws s P} z q=>Tw (gZ z sc.g H2 CG [Pg,sc.pl,sc.pl,by rw[hs];refine[Nu,[CX,z],λu s1 #[x,h1,z,q]=>Calls.spliced_cons (gZ z sy.g (Y.no y hy) hv (Calls.spliced_nil ?_) sy.n sy.d)];obtain⟨t,e1,q⟩:=q.o;exact zcK z e1 hn h0 λtk=>(z.tl.tok tk).gbl q] sc.n sc.d)]
end
structure LamK (mg:To->Hc)(base:TU)(c P:Tn):Prop where
 code:PySem.W.CodeHd base c P
 blt:[MZ,P]
 ne:TB≠P
section
variable {X:Cz}{B:Cb}{g:Gs}{H H':TU}{ρ:Ul}{h:TH}{s:Tj}{pins:List (Tn×UK)}{ws:WL}{k l j0:Nat}{a c P cd:Tn}{oc:UK}
theorem Hk.lam (q:Hk B g h H)(n:g.G c=ng)(e:H'.get? c=se oc)(rP:g.G P=se (.tab j0))(k:∀b o,b≠P->'8'=ζ->'0'=ζ)(eP:∃o,H'.get? P=ζ)(tb:∀j,j<B.C.nl->B.C.tb j=P->Tb B (g.upd c L8) H' j):Hk B (g.upd c L8) h H':=by have x:=Le.upd (r':=L8) (show g.free c fromλr z=>by rw[n] at z;cases z);(have old:∀{b r},Ϝ=ϊ->(g.upd c L8).G b=ϊ:=λ{b r} z=>by rw[Gs.upd_ne (by rintro rfl;rw[n] at z;cases z),z]);(have nP:∀{b r},Ϝ=ϊ->(∀j,r≠.tab j)->b≠P:=λ{b r} z y=>by rintro rfl;rw[rP] at z;cases z;exact y _ rfl);(have cs:∀{b r},(g.upd c L8).G b=ϊ->(b=c/\r=.dat oc)\/Ϝ=ϊ:=λ{b r} z=>by by_cases y:b=c;subst y;rw[Gs.upd_same] at z;cases z;exact .inl #[rfl,rfl];rw[Gs.upd_ne y] at z;exact .inr z);refine#[λb o z=>?_,λb o z=>?_,λb r z=>?_,q.len,λi t b e1 e2=>(q.th i t b e1 e2).go x (λb z=>old z) λb o z=>k b o (nP z (by simp)),λj hj=>?_];rcases z with z | z<;>rcases cs z with ⟨rfl,y⟩ | y;cases y;exact e;exact k _ _ (nP y (by simp)) (q.st b o (.inl y));cases y;exact k _ _ (nP y (by simp)) (q.st b o (.inr y));rcases cs z with ⟨rfl,y⟩ | y;cases y;obtain⟨n,sl,e⟩:=q.sl b o y;exact#[n,sl,k _ _ (nP y (by simp)) e];rcases cs z with ⟨rfl,y⟩ | y;exact#[_,e];by_cases w:b=P;subst w;exact eP;obtain⟨o,e⟩:=q.al b r y;exact#[o,k _ _ w e];by_cases w:B.C.tb j=P;exact tb j hj w;obtain⟨⟨j',r⟩,ps,e,q1,q2⟩:=q.tb j hj;exact#[#[j',old r],ps,k _ _ w e,q1,λpos c z=>by obtain⟨c',e,f⟩:=q2 pos c z;exact#[c',e,x.fz f]]
theorem QN {c cv:Value}{a b:Int}:∀l,TriplesOk l->Yb aC (l++[XS a,XS b,c])=se cv->cv=c\/Yb aC l=se cv:=by intro l h e;fun_induction TriplesOk l with| case1 =>simp only[BB,XS,Yb] at e;simp_all| case2 a' t b' u x rest ih =>simp only[oW,Yb] at e ⊢;lia| case3 l h1 h2=>exact h.elim
theorem zdK (z:H.CodeRec Jp q):∃o,H.get? c=ζ/\∀h:TU,Pu=ζ->h.CodeRec Jp q:=by obtain⟨c',oc,vs,tq,hc,hoc,r⟩:=z;cases hc;exact#[oc,hoc,λh e=>#[_,oc,vs,tq,rfl,e,r]]
variable {params:Arguments}{body:TV}{scope:WU}{pos:VX}
theorem zd2 (L:LamK X.mg X.base cd (X.B.C.tb l))(inj:∀j,j<X.B.C.nl->X.B.C.tb j=X.B.C.tb l->(X.B.C.lm j).qual=(X.B.C.lm l).qual)(hk:bI l X.B.C.nl=tj:=by rfl)(hL:X.B.C.lm l=#[X.env.qual++"<lambda>",params,body,scope]:=by rfl)(oM:X.env.code=.ref cd:=by rfl)(uE:closureFor scope X.env=pure []:=by rfl)(hdef:defaultsOf params X.env=([],[]):=by rfl):QE X (.Lambda params body scope pos) (rLam l):=#[λ{pins ρ h ws s P} z q=>by cases z with | mk g I p W =>have lt:=cF.mp hk;obtain⟨⟨j0,rP⟩,ps,eP,ht,hr⟩:=I.hk.tb l lt;have C:=L.code.keeps I.bk;have hg:='6';obtain⟨bm,ob,b1,b2,b3,b4,b5,b6⟩:=L.blt;have hb:s.heap.BuiltinsAt X.mg (X.B.C.tb l):=#[bm,ob,b1,b2,b3,b4,I.bk _ _ b5,b6];have q:P (.at Id) (hp h (.mf l)):=q;rw[show Id=h.length from aW h,show hp h (.mf l)=h++[.mf l]from gj _ _] at q;refine PySem.W.kla_eval hdef ?_;(have ql:(X.B.C.lm l).qual=X.env.qual++"<lambda>":=by rw[hL]);cases e:Yb pos ps.toList with| none =>(refine PySem.W.kla_makeFunction uE I.ok.glob hg oM C eP ht e L.ne hb λc' ctv h' tk hx hge fI hrec htb=>?_;obtain⟨oc,ec,fc⟩:=zdK hrec;have gc:=I.hk.fresh (Heap.get?_none_of_le hge);have ga:=I.hk.fresh (Heap.get?_none_of_le (fF (ke hge fI)));have gr:=Gr.upd (r:=L8) gc;have k1:=λb o hb e=>hx b o hb e;(have q1:=I.hk.lam gc ec rP k1 #[_,htb] λj hj ej=>by refine#[#[j0,by rw[ej,Gs.upd_ne (by rintro rfl;rw[gc] at rP;cases rP),rP]],_,by exact ej▸htb,by simpa using TriplesOk_snoc pos.line pos.col (.ref c') ps.toList ht,λaC cv hcv=>?_];rw[inj j hj ej];have bE:=QN ps.toList ht (by simpa using hcv);rcases bE with rfl | bE;exact#[c',rfl,oc,Gs.upd_same,by exact ql▸fc];obtain⟨c2,z1,z2⟩:=hr aC cv bE;exact#[c2,z1,gr.le.fz z2]);have I1:=I.go gr q1 (λb o z=>k1 b o (by rintro rfl;rw[rP] at z;cases z)) tk;refine#[_,_,tU (ws':=[]) (s:={ s with heap:=h',toks:=tk}) I1 (λy z=>gr.f _ _ (p y z) lS) Qu [h'.objs.size] (λb z=>?_) (λ_ _=>Heap.get?_push_of_some _) (λb z=>by rw[Nj];exact#[_,Heap.get?_push_size _ rfl]) (λg' x _ r=>?_) tk,q];rw[Nj,Gs.upd_ne (eG fI),ga];refine .mf (ctv:=ctv) (pm:=(X.mg "__name__").getD .none) (r _ (by simp)) ?_ (x.fz #[oc,Gs.upd_same,by exact ql▸fc]);exact hL▸Heap.get?_push_size _ rfl)| some cv =>obtain⟨c',e1,e2⟩:=hr pos cv e;subst e1;refine PySem.W.kla_makeFunctionHit uE I.ok.glob hg oM C eP ht e hb λctv h' tk cP hs=>?_;have ga:=I.hk.fresh (Heap.get?_none_of_le hs);refine#[_,_,tU (a:=h'.objs.size) (ws':=[]) I p W [h'.objs.size] (λb z=>by rw[Nj,ga]) (λb o e=>Heap.get?_push_of_some _ (cP b o e)) (λb z=>by rw[Nj];exact#[_,Heap.get?_push_size _ rfl]) (λg' x _ r=>?_) tk,q];refine .mf (ctv:=ctv) (pm:=(X.mg "__name__").getD .none) (r _ (by simp)) ?_ (x.fz e2);exact hL▸Heap.get?_push_size _ rfl]
noncomputable def czL (T:Bz) (N:μ) (qual:To) (scope:WU) (f:Tn) (cd:Value) (A:TC) (outer:Rg) (g:Gs) (h:TH) (s:Tj):Cz :={YD T N qual scope f cd A outer g h s (λ_ _=>False)with E:=λ_ _=>False,xe:=λ_ _=>False}
structure LamF (T:Bz)(j k n:Nat)(fb:RE):Prop where
 ex:∃ps:List To,ps.length=n/\VB ps ps 'v'.scope/\(∀(pm cd ct:Value) (us:List Value),us.length=ps.length->bindArgs (PySem.W.kla_fn "<lambda>" 'v'.qual 'v'.params 'v'.body 'v'.scope [] pm cd ct) #[us,[]]=SD) /\
  ∀(f:Tn) (cd:Value) (A:TC) (outer:List Env) (g:Gs) (h:TH) (s:Tj),UM (j+1) A->QE (czL T ps 'v'.qual 'v'.scope f cd A outer g h s) 'v'.body fb
theorem Hq (z:J X pins ρ h ws s)(m:(x,u)∈ws)(e:eMf h x=Q8):∃a pm c ctv,u=ψ/\MV=se (Cm "<lambda>" 'G'.qual 'G'.params 'G'.body 'G'.scope [] pm c ctv)/\s.heap.CodeRec Jp 'G'.qual:=by unfold eMf at e;split at e;split at e;rename_i e1;cases e;rw[aX] at e1;(cases z with | mk g I p W =>cases W _ m with | at_ e0 =>cases[Kw,_,_,_,e1]with | mf r e f =>obtain⟨o,eo,fo⟩:=f;exact#[_,_,_,_,rfl,e,fo _ [Re,_,_,eo]]);cases e;cases e
variable {k':Nat}{x:To}{p:VX}{es:LI}{fa:RE}{fA:RA}{lb:Nat->Option (Nat×RE)}
theorem za4 [Y:Yx X k] (LF:∀l p,lb l=ϕ->LamF X.toBz k' l p.1 p.2)(hk:bR (k'+1) k=tj)(hn:QE X [QY,p] fa)(ha:QA X es fA)(hpl:(backTo pos [ϵ,es]).any (·.1)=fh:=by rfl):QE X [Os,[QY,p],es,[]] (xa7 lb fa fA):=#[λ{pins ρ h ws s P} z q=>Tw (Uy (hn.h z q.bnd) λu s1 #[d,h1,z,q]=>by obtain⟨k0,e1,q⟩:=q.o;obtain⟨a,pm,c1,ctv,rfl,e2,e3⟩:=Hq z aR e1;refine Cd (by rw[hpl];rfl) PySem.W.keeps_F (gu hpl (Uy [CX,z] λus s2 #[ds,h2,l,z2,q2]=>?_));obtain⟨k1,e4,q3⟩:=q2.o;obtain⟨⟨n,fb⟩,e5,q4⟩:=q3.o;obtain⟨eb,q5⟩:=q4.i;obtain⟨a',pm,c2,ctv,ea,e6,e7⟩:=Hq z2 (dG _ aR) e4;cases ea;obtain⟨ps,hps,S,kQ,hb⟩:=(LF k1 _ e5).ex;(have dl:ds.length=ps.length:=by rw[hps,<-aW];exact nJ eb);refine#[#[_,_,_,_,e6],?_];(have kP:∀y∈Ml,'E'.scope.names.lookup y.1=XL\/('E'.scope.names.lookup y.1=RM/\((cellsFrom (s2.heap.objs.size+1) 'E'.scope.names []).lookup y.1).isSome=tj):=λ#[n,v] hy=>by rcases S.par n (cg hy).1 with q | q;exact .inl q;exact .inr #[q,xR _ _ _ (.inl q)]);have hr:=[Sm,hk];cases z2 with | mk g I p W =>have ca:=I.ca;refine Wp (U5 (R:=CR X.toBz X.stack [MO,s2.heap] s2 P X.E) (PySem.W.kla_callFunE hr.depth e6 rfl S.co S.gen rfl e7 ?_) λr s' hq=>by have:=I.ret p (ws:=ws) (λw z=>W w (by simp[z])) hq;cases r with| error e=>exact this| ok fl=>cases fl<;>exact this);rw[show(#[[]++us,[]]:Args)=#[us,[]]from rfl,kQ pm SE ctv us (l▸dl▸rfl)];refine Tq (Xd S.kind kP λenv he s3 x=>?_);subst he;refine#[I.nolimit.keeps x.toInCall.keep,PySem.W.kla_codeExpr ?_];obtain⟨g1,J1,gr⟩:=Iv.start (E:=λ_ _=>False) (j:=0) S hr.hd ca l dl rfl (Le.hid.held λw z=>W w (df _ z)) x;have J2:Iv (czL X.toBz ps 'E'.qual 'E'.scope a SE X.A X.stack [MO,s2.heap] h2 s2) g1 (Xq ds 0) h2 s3:=#[#[J1.ok.mod,J1.ok.kind,J1.ok.glob,J1.ok.blt,J1.ok.inj,J1.ok.has,J1.ok.hd,J1.ok.frames,J1.ok.fr],J1.os,J1.bare,J1.hk,J1.bs,J1.kp,J1.ip,J1.lf,J1.lc,J1.ce,J1.len];refine UF ((hb a SE X.A X.stack [MO,s2.heap] h2 s2 hr).h (pins:=[]) (ws:=[]) #[g1,J2,λ_ z=>by simp at z,λ_ z=>by simp at z] q5.unx) (λu s' hs=>?_) λ_ _ f=>f.elim;obtain⟨d',h',⟨g',I',_,W'⟩,p'⟩:=hs;exact#[d',g',h',I'.os,I'.bare,#[λa r z y=>I'.kp a r z (y.elim id λy=>absurd z (y▸ca.nl a)),I'.ip],I'.hk,W' _ aR,p'])]
end
end NAL.RZ
namespace NAL.EX
open PySem PySem.Spec PyProof.Rows
abbrev FA (K:a9)(x q:To)(st:UW)(f:Tn):Prop:=∃(oc:Value) (od:Option Tn) (kV cj pm:Value) (an:Option Tn) (cdv ct:Value) (dY:Array (Option Value)),Ki=se #[oc,od,.func (iH x q Nq Ke wr .none kV cj pm an cdv ct),dY]/\ly K cdv q=tj/\iG K Fr=tj
abbrev FT (K:a9)(x:To)(st:UW):Prop:=∃f,jQ K TB x=PH/\FA K x x st f
abbrev FM (K:a9)(C:Tn)(x q:To)(st:UW):Prop:=∃f,[TT,K,x]=PH/\o7 K Fr=tj/\FA K x q st f
abbrev BA (x q:To)(st:UW)(ps:μ):Prop:=∀(kV cj pm:Value) (an:Option Tn) (cdv ct:Value) (us:List Value),us.length=ps.length->bindArgs (iH x q Nq Ke wr .none kV cj pm an cdv ct) #[us,[]]=SD
theorem ft_mk {K:a9}{st:UW}{kV cj pm cdv ct:Value}(a:jQ K TB x=PH) (l:Ki=se #[oc,od,.func (iH x x Nq Ke wr .none kV cj pm an cdv ct),dY]) (c:ly K cdv x=tj) (k:iG K Fr=tj):FT K x st :=#[f,a,oc,od,kV,cj,pm,an,cdv,ct,dY,l,c,k]
theorem fm_mk {K:a9}{st:UW}{kV cj pm cdv ct:Value}(a:[TT,K,x]=PH) (l:Ki=se #[oc,od,.func (iH x q Nq Ke wr .none kV cj pm an cdv ct),dY]) (c:ly K cdv q=tj) (k:iG K Fr=tj) (i:o7 K Fr=tj):FM K C x q st :=#[f,a,i,oc,od,kV,cj,pm,an,cdv,ct,dY,l,c,k]
theorem QV {K:a9}{st:UW}(ps:μ)(X:IF)(G:h.Ns TB mg)(t:FT K x st)(b:BA x x st ps):Top K mg x st ps:=by obtain⟨f,a,oc,od,kV,cj,pm,an,cdv,ct,dY,l,c,k⟩:=t;exact zfm X G a l c k b
theorem zcz {K:a9}{st:UW}(ps:μ)(t:FM K C x q st)(cl:Cls K C)(b:BA x q st ps):MTop K C x q st ps:=by obtain⟨f,a,i,oc,od,kV,cj,pm,an,cdv,ct,dY,l,c,k⟩:=t;exact#[#[f,_,nU l c k,(nU l c k).binds b,#[a,i,k]],cl]
end NAL.EX
namespace NAL.RZ
open PySem PySem.Spec PyProof.Rows NAL NAL.EX NAL.RX
structure Bg where
 P:TF
 w:Ud
 K:a9
 mg:To->Hc
 base:TU
noncomputable abbrev Bg.T (Θ:Bg) (R:Cb->ERt) (C:CT):Bz:=#[#[C,Θ.P,Θ.w],Θ.mg,Θ.base,R #[C,Θ.P,Θ.w]]
structure MTopC (K:a9)(C:Tn)(m qual:To)(st:UW)(ps:μ)(c:Tn):Prop where
 is:∃(f:Tn) (fd:Uk),(∃(oc:Value) (od:Option Tn) (kV cj pm:Value) (an:Option Tn) (ct:Value) (dY:Array (Option Value)),fd=iH m qual Nq Ke wr .none kV cj pm an Jp ct/\Ki=se #[oc,od,.func fd,dY]/\ly K Jp qual=tj)/\Binds K fd ps []/\Meth K C m f
 cl:Cls K C
section
variable {T:Bz}{N:μ}{x y qual:To}{st:UW}{k c n j m:Nat}{ps:μ}{f cd:Tn}{fd:Uk}{keep:Bool}{fs:RS}{ev:θ->TH->ta}
structure Bx (T:Bz):Prop where
 blt:∀x∈bltN,T.mg x=ng
 fld:∀c f,(T.B.C.nm c).contains f=tj->ClsF T.B.C.K Rh f
 xp:∀{N qual scope f cd A outer g h s E g1 ρ h1 s1 e s'},Iv (YD T N qual scope f cd A outer g h s E) g1 ρ h1 s1->T.ER ([Mw,qual,scope,f,cd]::outer) (g1.hid s1.heap s.heap.objs.size) s1 (mB E g.ι.length) e s'->(YD T N qual scope f cd A outer g h s E).xe e s'
 en:∀{st g s e s'},T.ER st g s (λ_ _=>False) e s'->False
theorem Hr (B:Bx T)(nd:N.Nodup)(hr:UM k (YD T N qual scope f cdv A outer g h s E).A):Yx (YD T N qual scope f cdv A outer g h s E) k :=#[hr,rfl,B.blt,nd,PassesOwn.leaving,B.xp,B.en,B.fld]
theorem zaj (B:Bx T)(nd:N.Nodup)(hr:UM (k+1) A):Yx (czL T N qual scope f cdv A outer g h s) k :=#[hr.deeper _,rfl,B.blt,nd,PassesOwn.never,λ_ z=>B.en z,B.en,B.fld]
abbrev ox (T:Bz)(N:μ)(qual:To)(st:UW)(k:Nat)(fs:RS):Prop :=∀(f:Tn) (cdv:Value) (A:TC) (outer:List Env) (g:Gs) (h:TH) (s:Tj) (E:Nat->TH->Prop),Yx (YD T N qual wr f cdv A outer g h s E) k->QB (YD T N qual wr f cdv A outer g h s E) Ke fs
abbrev QZ (T:Bz)(N:μ)(qual:To)(st:UW)(cd:Tn)(k:Nat)(fs:RS):Prop :=∀(f:Tn) (A:TC) (outer:List Env) (g:Gs) (h:TH) (s:Tj) (E:Nat->TH->Prop),Yx (YD T N qual wr f (.ref cd) A outer g h s E) k->QB (YD T N qual wr f (.ref cd) A outer g h s E) Ke fs
structure xbg (ev:θ->TH->ta)(n j:Nat)(fs:RS):Prop where
 h:∀{ds h P E},(ev ds h).sat P E->ds.length=n/\(fs (Xq ds j) h).sat (λx h'=>Fin P h (val x) h') (mB E h.length)
theorem uc:xbg (UL keep n j fs) n j fs:=#[λq=>Pq q]
theorem Q0:xbg (fnK m n j fs) n j fs:=#[λq=>Pr q]
theorem wP (B:Bx T)(F:Fun T.B.C.K x qual st f fd)(S:VB N ps wr)(hL:N.length=ps.length+j)(e:xbg ev ps.length j fs)(h:ox T N qual st k fs):xaK T (k+1) f fd ps ev:=by obtain⟨oc,od,kV,cj,pm,an,cdv,ct,dY,rfl,lk,hcd⟩:=F.ex;exact GT lk hcd S hL e.h λA outer g hh s E hr=>h f cdv A outer g hh s E (Hr B S.nd hr)
theorem Q2 (B:Bx T)(t:Top T.B.C.K T.mg x st ps)(S:VB N ps wr)(hn:ps.length=n)(hL:N.length=n+j)(e:xbg ev n j fs)(h:ox T N x st k fs):RDef T x (k+1) ps ev:=by subst hn;obtain⟨f,fd,F,hb,hm⟩:=t.is;exact#[f,fd,wP B F S hL e h,hb,hm,F.kp]
theorem Q3 (B:Bx T)(t:MTop T.B.C.K Rh x qual st ps)(S:VB N ps wr)(hn:ps.length=n)(hL:N.length=n+j)(e:xbg ev n j fs)(h:ox T N qual st k fs):RMet T c x (k+1) ps ev:=by subst hn;obtain⟨f,fd,F,hb,hm⟩:=t.is;exact#[#[f,fd,wP B F S hL e h,hb,hm],t.cl]
theorem Hs (B:Bx T)(t:∃f fd,Fun T.B.C.K x qual st f fd/\Binds T.B.C.K fd ps []/\Mk T.B.C.K Rh f)(hm:T.mg y=[TS,Rh])(S:VB N ps wr)(hn:ps.length=n)(hL:N.length=n+j)(e:xbg ev n j fs)(h:ox T N qual st k fs):RCls T y c (k+1) ps ev:=by subst hn;obtain⟨f,fd,F,hb,hk⟩:=t;exact#[#[f,fd,wP B F S hL e h,hb,hk],hm]
theorem zfs (B:Bx T)(t:MTopC T.B.C.K Rh x qual st ps cd)(S:VB N ps wr)(hn:ps.length=n)(hL:N.length=n+j)(e:xbg ev n j fs)(h:QZ T N qual st cd k fs):RMet T c x (k+1) ps ev:=by subst hn;obtain⟨f,fd,F,hb,hm⟩:=t.is;refine#[#[f,fd,?_,hb,hm],t.cl];obtain⟨oc,od,kV,cj,pm,an,ct,dY,rfl,lk,hcd⟩:=F;exact GT lk hcd S hL e.h λA outer g hh s E hr=>h f A outer g hh s E (Hr B S.nd hr)
end
theorem Q5:∀{vs:List Value} {ns:xam},IntsAre vs ns->∀w∈ns.zip vs,∃t,w.2=.int w.1 t:=by intro vs ns h;induction h with| nil=>intro w hw;simp at hw| cons n t h ih =>intro w hw;rcases bi.mp hw with hw | hw;subst hw;exact#[t,rfl];exact ih w hw
theorem Q6 {K:a9}{ts:List (Tn×To)}{R:ERt}(en:∀{st g s e s'},R st g s (λ_ _=>False) e s'->False)(hCK:C.K=K) (KX:K.In s₁.heap) (qb:s₁.heap.Ns TB mg) (hb:s₁.heap.Ns builtinsNs mb) (hbb:∀x:To,x≠"__name__"->mb x=T9 x) (hlim:s₁.heap.NoLimit) (hg:s₁.gens=([].toArray)) (ha:s₁.heap.get? a=se { cls:=.type "list",data:=Me}) (hi:IntsAre vs ns) (hl:ns.length<=sizeLine) (hr:UM k callerA) (hkt:Cn K=tj) (iY:∀b q,HT=Ϡ->'k'=se (vv ([].toArray))/\isCodeTable s₁.heap b/\s₁.heap.BuiltinsAt mg b) (hC:∀k,k<C.nl->∃q,ts.lookup (C.tb k)=Ϡ) (hCt:∀b q,HT=Ϡ->∃k,k<C.nl/\C.tb k=b) (F:∀base:TU,OB->base.Ns TB mg->(∀b q,HT=Ϡ->[MZ,b])->xaK #[#[C,P,w],mg,base,R] k fa fd [x] ev) (kQ:∀s u,BindsTo s fd #[[u],[]] [(x,u)]) (oL:∃h,ev [.at 0] [Rt]=.ok ϻ h) :Wh (Tz P w) callerA (.call (.ref fa) #[[ψ],[]]) (λr s'=>r=[JF,Ng]/\OldK s₁.heap s'.heap/\s'.os=s₁.os/\SS) s₁:=by have uB:=hi.length;(have mem:∀{b},b∈ts.map (·.1)↔∃q,HT=Ϡ:=λ{b}=>by clear hC F iY hCt;induction ts with| nil=>simp| cons p ts ih =>rw[bz,bi,jt,ih];by_cases z:b=p.1;subst z;simp;rw[show(b==p.1)=fh from beq_eq_false_iff_ne.mpr z];simp[z]);let base:=xZ s₁.heap (ts.map (·.1));(have get:∀{b o},'k'=ζ->HT=ng->Rs=ζ:=λ{b o} e n=>Ce _ e λhm=>by obtain⟨q,z⟩:=mem.mp hm;rw[n] at z;cases z);(have of:∀{b o},Rs=ζ->'k'=ζ/\HT=none:=λ{b o} e=>by refine#[xU _ e,?_];cases z:HT with| none=>rfl| some q =>have:Rs=none:=B9 _ (mem.mpr #[q,z]);rw[this] at e;cases e);(have free:∀{b:Tn} {o:UK},'k'=ζ->o≠vv ([].toArray)->HT=none:=λ{b o} e n=>by cases z:HT with| none=>rfl| some q=>have:=(iY b q z).1;rw[e] at this;cases this;exact[Oq,n]);have nsK:∀{b:Tn} {m:To->Option Value},s₁.heap.Ns b m->base.Ns b m:=λ{b m} #[o,es,ep,e,d,r]=>#[o,es,ep,get e (free e (by rintro rfl;cases d)),d,r];have hKb:=λb o e=>get (KX b o e) (free (KX b o e) (by rintro rfl;exact absurd (show fh=tj from iO.mp hkt _ (PySem.W.mem_of_lookupK e)) rG));(have hB:∀b q,HT=Ϡ->[MZ,b]:=λb q y=>by obtain⟨bm,o,b1,b2,b3,b4,b5,b6,b7,b8⟩:=(iY b q y).2.2;exact#[bm,o,b1,b2,b3,b4,get b5 (free b5 (by rintro rfl;cases b8)),b6,b7,b8]);let g:Gs:=#[λb=>match HT with| some _=>se (.tab 0)| none=>'k'.map .dat,[a]];(have gt:∀{b q},HT=Ϡ->Ϝ=se (.tab 0):=λ{b q} z=>by show(match HT with | some _=>se (Ro.tab 0)| none=>_)=_;rw[z]);(have gd:∀{b},HT=ng->Ϝ='k'.map .dat:=λ{b} z=>by show(match HT with | some _=>se (Ro.tab 0)| none=>_)=_;rw[z]);(have cs:∀{b r},Ϝ=ϊ->(r=.tab 0/\∃q,HT=Ϡ)\/∃o,r=.dat o/\'k'=ζ:=λ{b r} z=>by cases y:HT with| some q=>rw[gt y] at z;cases z;exact .inl #[rfl,q,rfl]| none =>rw[gd y,kg] at z;obtain⟨o,e,rfl⟩:=z;exact .inr #[o,rfl,e]);have na:=free ha (by intro z;cases z);(have hk:Hk #[C,P,w] g [Rt] s₁.heap:=by refine#[λb o z=>?_,λb o z=>?_,λb r z=>?_,rfl,λi t b e1 e2=>?_,λk hk=>?_];rcases z with z | z<;>rcases cs z with ⟨y,_⟩ | ⟨o',y,e⟩<;>cases y;exact e;rcases cs z with ⟨y,_⟩ | ⟨o',y,e⟩<;>cases y;rcases cs z with ⟨_,q,y⟩ | ⟨o',y,e⟩;exact#[_,(iY b q y).1];exact#[o',e];(match i,e1,e2 with| 0,e1,e2 =>cases e1;cases e2;exact .mr (by rw[gd na,ha];rfl) uB.symm (by exact uB▸hl) λw hw=>by exact Q5 hi w hw| i+1,e1,_=>simp at e1);obtain⟨q,y⟩:=hC k hk;exact#[#[0,gt y],([].toArray),(iY _ q y).1,trivial,λpos c z=>by cases z]);have ca:Ca #[#[C,P,w],mg,base,R] callerA [] g [Rt] s₁:=#[rfl,hCK▸#[hKb,nsK qb,#[mb,nsK hb,hbb],by obtain⟨mc,h1,h2⟩:=hlim;exact#[mc,nsK h1,h2]],λb o e=>by rw[gd (of e).2,(of e).1];rfl,hk,.of_eq hg,(λb z=>by rcases cs z with ⟨y,_⟩ | ⟨_,y,_⟩<;>cases y),λ_ z=>by simp at z];obtain⟨h,oL⟩:=oL;refine U5 ((F base hKb (nsK qb) hB).run (ds:=[.at 0]) (us:=[ψ]) (P:=λv _=>v=ϻ) (E:=λ_ _=>False) hr ca (kQ s₁ ψ) rfl (λw hw=>by exact(cO.mp hw)▸.at_ rfl) (by rw[oL];rfl)) λr s' hq=>?_;cases r with| error e=>exact(en hq).elim| ok fl =>cases fl with| next=>exact PG| brk=>exact PG| cont=>exact PG| ret u =>obtain⟨d,g',h',os,br,x,cP,dq,p⟩:=hq;subst p;cases dq;refine#[rfl,#[λb o e=>?_,λb o e=>?_],os,br];(cases y:HT with| none=>exact .inl (cP.st b o (.inl (x.f b _ (by rw[gd y,e];rfl) lS)))| some q =>obtain⟨k,hk,rfl⟩:=hCt b q y;obtain⟨_,ps,e2,_⟩:=cP.tb k hk;rw[(iY _ q y).1] at e;cases e;exact .inr (.inl #[(iY _ q y).2.1,rfl,([].toArray),ps,rfl,by rw[e2];simp[vv]]));cases y:HT with| none=>exact#[o,cP.st b o (.inl (x.f b _ (by rw[gd y,e];rfl) lS))]| some q =>obtain⟨k,hk,rfl⟩:=hCt b q y;obtain⟨_,ps,e2,_⟩:=cP.tb k hk;exact#[_,e2]
theorem walk_ofR {l:PySem.W.OpenLaw}{K:Params->a9}{ts:List (Tn×To)}{R:Cb->ERt}(en:∀{B st g s e s'},R B st g s (λ_ _=>False) e s'->False) (hn:l.most=se n) (hn2:n<=sizeLine) (hdf:d.params.defaults=[]) (hr:UM k callerA) (hY:∀w h,YP w h->'R'.In h) (hT:∀w h,YP w h->∀b q,HT=Ϡ->h.get? b=se (vv ([].toArray))) (hC:∀(w:Ud) b q,HT=Ϡ->∃c,xX 'R' c b=tj) (hkt:∀w:Ud,Cn 'R'=tj) (F:∀w mg fa h,'R'.In h->h.Ns TB mg->mg d.name=[TS,fa]->∃(C:CT) (fd:Uk),C.K='R'/\(∀k,k<C.nl->∃q,ts.lookup (C.tb k)=Ϡ)/\(∀b q,HT=Ϡ->∃k,k<C.nl/\C.tb k=b)/\(∀s u,BindsTo s fd #[[u],[]] [(x,u)])/\∀base:TU,'R'.In base->base.Ns TB mg->(∀b q,HT=Ϡ->[MZ,b])->xaK (Bg.T #[l.prog,w,'R',mg,base] R C) k fa fd [x] ev) (oL:∀ns:xam,ns.length<=n->∃h,ev [.at 0] [Rt]=.ok ϻ h) :PySem.W.WalkO q kE XP YP l.row.toRowW d [] (λf vs=>PySem.call f vs):=by refine NAA.attach_call hn hdf λw s₀ s₁ mg mb fa o pm cd cj a vs ns G Y ho hd hcd hmg hobj hints eN hg=>?_;have KX:=hY w _ Y;obtain⟨C,fd,ck,hc,hct,hb,hF⟩:=F w mg fa _ KX G.T.g hmg;obtain⟨bm,ob,b1,b2,b4,b5,b6,b7⟩:=G.T.bmain;refine Q6 (R:=R #[C,l.prog,w]) en ck KX G.T.g G.T.b G.T.builtins G.T.nolimit hg hobj hints (cf eN hn2) hr (hkt w) (λb q y=>?_) hc hct hF hb (oL ns eN);have t:=hT w _ Y b q y;obtain⟨c,hc⟩:=hC w b q y;obtain⟨o,vs,file,tf,flags,tg,inF,text,tt,e1,r1,r2,r3,_⟩:=Cf KX hc;refine#[t,#[c,o,vs,e1,r1,r2,r3],bm,ob,b1,b2,λz=>?_,λz=>?_,b4,b5,b6,b7];obtain⟨o2,es,ep,g1,g2,_⟩:=G.T.g;simp_all;lia
section
variable {K:a9}{mg:To->Hc}{h base:TU}{x q:To}{C c f a:Tn}{ps:μ}{st:UW}{i j:Int}{oc:Value}{od an:Option Tn}{dY sl:Array Hc}{fs:μ}{B:Cb}
noncomputable def okB (K:a9) (x:To):Bool:=match jQ K TB x with| some ng=>tj| _=>fh
theorem zbK (X:IF)(G:h.Ns TB mg)(e:okB K x=tj):mg x=none:=by unfold okB at e;split at e;rename_i z;exact PySem.W.mg_none_of X G z;cases e
noncomputable def okC (K:a9) (C:Tn) (fs:μ):Bool:=sj K C Str.empty&&vo K C&&xV K C&&([TT,K,"__setattr__"]==se [TO,"object.__setattr__"])&&qP K C&&iG K H1&&fs.all λf=>[TT,K,f]==PV
theorem Ao (e:okC K C fs=tj):Cls K C/\qP K C=tj/\iG K H1=tj/\∀f,fs.contains f=tj->ClsF K C f:=by unfold okC at e;simp only[cC,beq_iff_eq,iO] at e;obtain⟨⟨⟨⟨⟨⟨e1,e2⟩,e3⟩,e4⟩,e5⟩,e6⟩,e7⟩:=e;exact#[#[e1,e2,e3,e4],e5,e6,λf hf=>#[#[e1,e2,e3,e4],e7 f (kY.mp hf)]]
noncomputable def okI (K:a9) (x:To) (i:Int):Bool:=match jQ K TB x with| some (se (.int j _))=>j==i| _=>fh
theorem Ht (X:IF)(G:h.Ns TB mg)(e:okI K x i=tj):RCst B mg base x JE:=by unfold okI at e;split at e;rename_i j t z;cases beq_iff_eq.mp e;exact#[_,nQ X G z,λg _=>.int];cases e
theorem zaJ {t1 t2 n:Nat}(X:IF)(G:h.Ns TB mg)(XB:OB)(u:jQ K TB x=se (se ψ)) (l:K.lookup a=se #[.type "tuple",od,.seq ([.int i t1,.int j t2].toArray) n,sl]):RCst B mg base x (.tup [JE,.int j]) :=#[_,nQ X G u,λg hg=>.tup #[_,hg _ _ (XB _ _ l),λ_ e=>#[_,e,rfl,n,rfl]] rfl (show 2<=sizeLine by decide) λw hw=>by simp only[i8,Bi,bi,gW,or_false] at hw;rcases hw with rfl | rfl<;>exact .int]
theorem Hu (ps:μ)(p5:qP K C=tj)(p6:iG K H1=tj)(t:FM K C "__init__" q st)(b:BA "__init__" q st ps):∃f fd,Fun K "__init__" q st f fd/\Binds K fd ps []/\NAL.Mk K C f:=by obtain⟨f,a,i,oc,od,kV,cj,pm,an,cdv,ct,dY,l,c,kp⟩:=t;exact#[f,_,nU l c kp,(nU l c kp).binds b,#[p5,a,i,p6]]
abbrev FMC (K:a9)(C:Tn)(x q:To)(st:UW)(c:Tn):Prop:=∃f,[TT,K,x]=PH/\o7 K Fr=tj/\∃(oc:Value) (od:Option Tn) (kV cj pm:Value) (an:Option Tn) (ct:Value) (dY:Array (Option Value)),Ki=se #[oc,od,.func (iH x q Nq Ke wr .none kV cj pm an Jp ct),dY]/\ly K Jp q=tj/\iG K Fr=tj
theorem fmc_mk {kV cj pm ct:Value}(a:[TT,K,x]=PH) (l:Ki=se #[oc,od,.func (iH x q Nq Ke wr .none kV cj pm an Jp ct),dY]) (d:ly K Jp q=tj) (k:iG K Fr=tj) (i:o7 K Fr=tj):FMC K C x q st c :=#[f,a,i,oc,od,kV,cj,pm,an,ct,dY,l,d,k]
theorem zc3 (ps:μ)(cl:Cls K C)(t:FMC K C x q st c)(b:BA x q st ps):MTopC K C x q st ps c:=by obtain⟨f,a,i,oc,od,kV,cj,pm,an,ct,dY,l,d,kp⟩:=t;exact#[#[f,_,#[oc,od,kV,cj,pm,an,ct,dY,rfl,l,d],(nU l d kp).binds b,#[a,i,kp]],cl]
theorem Ra (X:OB)(e:xX K c T=tj)(b:[MZ,T])(n:TB≠T):LamK mg base c T:=#[Cf X e,b,n]
theorem one_tab (e:[(a,x)].lookup b=se q'):b=a:=by rw[jt] at e;by_cases z:b=a;exact z;rw[show(b==a)=fh from beq_eq_false_iff_ne.mpr z] at e;cases e
end
inductive Er (B:Cb) (outer:Rg) (g:Gs) (s:Tj) (E:Nat->TH->Prop) (e:Value) (s':Tj):Prop
 | mk (a:Tn) (t:Value) (F:TU) (c:Nat) (h':TH) (g':Gs) (ee:e=ψ) (os:s'.os=s.os) (br:SS) (fly:Heap.FlyingW F outer a (.ref (B.C.xc c)) t s'.heap) (na:Pc=ng) (hE:E c h') (fx:∀b r,Ϝ=ϊ->r.fix=tj->Ku=ϊ) (ip:∃l,g'.ι=g.ι++l) (hk:Hk B g' h' s'.heap) (bf:∀b r,Ku=ϊ->(∀o,r≠Zj)->∃o,F.get? b=ζ)
section
variable {B:Cb}{g g':Gs}{h h':TH}{H H' F:TU}{s s' s1:Tj}{a:Tn}{c m:Nat}{t:Value}{E:Nat->TH->Prop}{outer:Rg}
theorem Er.no (q:Er B outer g s (λ_ _=>False) e s'):False:=by obtain⟨_,_,_,_,_,_,_,_,_,_,_,z,_⟩:=q;exact z
theorem Hk.fly (q:Hk B g h H)(bf:∀b r,Ϝ=ϊ->(∀o,r≠Zj)->∃o,F.get? b=ζ)(s1:F.StaysIn H)(s2:F.StaysIn H')(up:H.UpToSlots H'):Hk B g h H':=by(have nn:∀{b r o},Ϝ=ϊ->(∀o,r≠Zj)->'8'=ζ->'0'=ζ:=λ{b r o} z n e=>by obtain⟨o',e1⟩:=bf b r z n;rw[s1 _ _ e1] at e;cases e;exact s2 _ _ e1);(have ns:∀{a o},Ϙ=se Zj->NF o/\∃sl,Lz=se { o with slots:=sl}:=λ{a o} z=>by obtain⟨n,sl,e⟩:=q.sl a o z;obtain⟨sl',e'⟩:=up a _ e n;exact#[n,sl',e']);refine q.go .refl rfl (λb r z y=>#[z,λo e=>nn z (by obtain⟨i,y | y⟩:=y<;>subst y<;>simp) e]) (λa o z=>?_) (λa o z=>ns z) λa r z=>?_;rcases z with z | z;exact nn z (by simp) (q.st a o (.inl z));exact nn z (by simp) (q.st a o (.inr z));by_cases y:∃o,r=Zj;obtain⟨o,rfl⟩:=y;obtain⟨_,sl,e⟩:=ns z;exact#[_,e];obtain⟨o,e⟩:=q.al a r z;exact#[o,nn z (λo e=>y #[o,e]) e]
theorem Er.fin (n:g.ι.length=m)(os:s'.os=s.os)(br:SS)(fly:Heap.FlyingW F outer a (.ref (B.C.xc c)) t s'.heap)(na:Pc=ng)(hE:mB E m c h')(fx:∀b r,Ϝ=ϊ->r.fix=tj->Ku=ϊ)(ip:∃l,g'.ι=g.ι++l)(hk:Hk B g' h' s'.heap)(bf:∀b r,Ku=ϊ->(∀o,r≠Zj)->∃o,F.get? b=ζ):Er B outer g s E ψ s':=by rcases hE with hE | ⟨h0,e,hE⟩;exact#[a,t,F,c,h',g',rfl,os,br,fly,na,hE,fx,ip,hk,bf];refine#[a,t,F,c,h0,g'.trunc s'.heap m,rfl,os,br,fly,?_,hE,λb r z f=>ou (fx b r z f) (by rintro i rfl;cases f),#[[],?_],hk.trunc e,λb r z y=>?_];unfold Gs.trunc;dsimp only;rw[na];obtain⟨l,el⟩:=ip;show g'.ι.take m=_;rw[el,<-n,List.take_left,k8];cases e1:Ku with| none=>unfold Gs.trunc at z;dsimp only at z;rw[e1] at z;cases z| some r0=>exact bf b r0 e1 (by rintro o rfl;rw[ou e1 (by simp)] at z;cases z;exact y _ rfl)
theorem zaQ:∀{l:List Env},(∀env∈l,env.scope.kind≠.module/\∃L o,env.frame=se L/\L∈fs/\H.get? L=ζ/\NF o)->H.FunFrames (xZ H fs) l:=by intro l;induction l with| nil =>rintro _;exact trivial| cons env l ih =>rintro q;obtain⟨k,L,o,f,m,e,n⟩:=q env aR;exact#[k,#[L,o,f,B9 _ m,e,n],ih λx z=>q x (a7 _ z)]
end
section
variable {T:Bz}{N:μ}{qual:To}{scope:WU}{f:Tn}{cd:Value}{A:TC}{outer:Rg}{g g1:Gs}{h h1:TH}{s s1 s':Tj}{E:Nat->TH->Prop}{ρ:Ul}{c:Nat}{a:Tn}{us:Ϛ}{h':TU}{e:Value}
theorem Hv (z:g1.G a=ϊ)(f:r.fix=tj):(g1.hid H L).G a=ϊ:=by rw[jg (by rw[z];rintro⟨⟩;cases f),z]
theorem zeW (hT:T.ER=Er T.B)(I:Iv (YD T N qual scope f cd A outer g h s E) g1 ρ h1 s1)(hE:mB E g.ι.length c h1)(hx:Heap.MadeExcOf s1.heap h' a (.ref (T.B.C.xc c)) us):(YD T N qual scope f cd A outer g h s E).xe ψ { s1 with heap:=h'}:=by have ca:=I.ca;(have bf:∀b r,(g1.hid s1.heap s.heap.objs.size).G b=ϊ->(∀o,r≠Zj)->∃o,(xZ s1.heap ((Xl qual scope s.heap.objs.size f cd::outer).filterMap (·.frame))).get? b=ζ:=λb r z n=>by obtain⟨o,e⟩:=ca.hk.al b r z;refine#[o,Ce _ e λhm=>?_];obtain⟨env,he,hf⟩:=rQ.mp hm;obtain⟨_,L,o',f,r'⟩:=ca.fr env he;rw[f] at hf;cases hf;exact n o' (dU (z.symm.trans r')));refine wpAny_leaves_madeW I.ok.frames rfl (λb o q=>xU _ q) (zaQ (fs:=(Xl qual scope s.heap.objs.size f cd::outer).filterMap (·.frame)) λenv he=>?_) hx λh2 t x1 x2 x3 x4=>?_;obtain⟨k,L,o,f,r⟩:=ca.fr env he;obtain⟨n,sl,e⟩:=ca.hk.sl L o r;exact#[k,L,_,f,rQ.mpr #[env,he,f],e,n];exact hT▸Er.fin rfl I.os I.bare x1 (ca.hk.fresh hx.new) hE (λb r z f=>Hv (I.kp b r z f) f) I.ip (ca.hk.fly bf (λb o q=>xU _ q) x1.1 λb o e n=>x4 b o (hx.keeps _ _ e) n) bf
theorem zds (hT:T.ER=Er T.B)(I:Iv (YD T N qual scope f cd A outer g h s E) g1 ρ h1 s1)(q:T.ER ([Mw,qual,scope,f,cd]::outer) (g1.hid s1.heap s.heap.objs.size) s1 (mB E g.ι.length) e s'):(YD T N qual scope f cd A outer g h s E).xe e s':=by rw[hT] at q;obtain⟨a,t,F,c,h',g',rfl,os,br,fly,na,hE,fx,ip,hk,bf⟩:=q;refine wpAny_leaves_onW I.ok.frames rfl fly λh2 uI up2=>?_;rw[hT];refine Er.fin rfl (os.trans I.os) br uI na hE (λb r z f=>fx b r (Hv (I.kp b r z f) f) f) ?_ (hk.fly bf fly.1 uI.1 up2) bf;obtain⟨l,e⟩:=ip;obtain⟨m,e'⟩:=I.ip;exact#[m++l,by rw[e];show g1.ι++l=_;rw[e'];simp[YD]]
end
section
variable {X:Cz}{k:Nat}{e:TV}{es:LI}{x y y' n fx:To}{pos np ax fp p8 kF kA p1 p2 p3:VX}{fA:RA}{i j c k':Nat}{ev:θ->TH->ta}{ps:μ}
theorem Rd (ha:QA X (e::es) fA)(O:ExcD X.B.C.K X.mg x LR:=by assumption)(mk:∀{g ρ h s h' a us},Iv X g ρ h s->X.E c h->Heap.MadeExcOf s.heap h' a (.ref LR) us->X.xe ψ { s with heap:=h'}:=by exact zeW rfl)(hc:X.calm=tj:=by rfl) (h:SC X x ax (e::es):=by exact⟨rfl,by decide,by decide,rfl⟩) (he:[ϵ,e::es]=(fh,[Ϧ,e])::[ϵ,es]:=by rfl):QS X (.Raise (se [Na,[QY,np],e::es,[]]) ng pos) (rRaise c fA):=#[λz q=>by obtain⟨g0,I⟩:=z.inv;obtain⟨bm,N,nm,q0,bs,hdct,sn,sub,ab,col,dd,k0,k1,k2,k3,k5,mN,hC,hN,hni,T⟩:=(Ky O I.ok.mod.kin).obj;refine wpAny_Raise_call_subT (nm:=nm) (q:=q0) (N:=N) (bs:=bs) (hdct:=hdct) (sn:=sn) (sub:=sub) (ab:=ab) (col:=col) (dd:=dd) (k0:=k0) (k1:=k1) (k2:=k2) (k3:=k3) (k5:=k5) BV (T.hasType BV.hasBase) (I.ok.hd hc) h.pl hni (pL z h.g O.mg #[rfl,?_] h.d);have h2:=ha.h (pos:=ax) z q.bnd;rw[he] at h2 ⊢;refine Calls.evalArgs_plain (Uy h2 λus s1 #[ds,h1,l,z,q]=>?_);obtain⟨eb,q⟩:=q.i;obtain⟨g1,I1⟩:=z.inv;exact#[rfl,by exact l▸Aa eb,I1.bk _ _ hC,hN.keeps I1.bk,T.keeps I1.bk,λh' a m=>mk I1 q m]]
variable {g:Gs}{ρ:Ul}{h:TH}{s:Tj}{pins:List (Tn×UK)}{ws:WL}
noncomputable abbrev Cz.wth (X:Cz) (A:TC) (c:Bool):Cz:={ X with A:=A,calm:=c,E:=λ_ _=>False,xe:=λ_ _=>False}
theorem Iv.wth (I:Iv X g ρ h s)(hd:b=tj->A.handled=ng)(fr:A.frames=se X.stack):Iv (X.wth A b) g ρ h s :=#[#[I.ok.mod,I.ok.kind,I.ok.glob,I.ok.blt,I.ok.inj,I.ok.has,hd,fr,I.ok.fr],I.os,I.bare,I.hk,I.bs,I.kp,I.ip,I.lf,I.lc,I.ce,I.len]
theorem J.wth (z:J X pins ρ h ws s)(hd:b=tj->A.handled=ng)(fr:A.frames=se X.stack):J (X.wth A b) pins ρ h ws s:=by cases z with | mk g I p W=>exact#[g,I.wth hd fr,p,W]
theorem J.unw (z:J (X.wth A b) pins ρ h ws s)(ok:X.Ok):J X pins ρ h ws s:=by cases z with | mk g I p W=>exact#[g,#[ok,I.os,I.bare,I.hk,I.bs,I.kp,I.ip,I.lf,I.lc,I.ce,I.len],p,W]
theorem J.gone (z:J X pins ρ h ws s)(nd:X.N.Nodup)(hi:X.N[i]?=se n)(hl:K7=XL)(q:∀s',J X pins (ρ.set i ng) h ws s'->Q () s'):Tv M A (do bindName X.env n .none;unbindBehindTheSuite X.env n kF) Q E s:=by cases z with | mk g I p W =>obtain⟨m,hn,hx⟩:=id I.lc;refine wpAny_nameGoes_keeps hl hn (by rw[I.ok.kind];rfl) λh' v qn sm=>q _ #[g,#[I.ok,I.os,I.bare,I.hk.loc (λb o z e=>(sm.2 b (by rintro rfl;exact z I.lf)).trans e) (λb o e=>?_),I.bs,I.kp,I.ip,I.lf,#[_,qn,λj y d e1 e2 e3=>?_],λy c e=>?_,by simpa using I.len],p,W];by_cases y:b=X.env.locals;subst y;obtain⟨o,_,_,e,_⟩:=qn;exact#[o,e];exact#[o,(sm.2 b y).trans e];(have ne:i≠j:=by rintro rfl;rw[oV] at e2;split at e2;split at e2<;>cases e2;exact[Oq,‹_›]);rw[bF ne] at e2;obtain⟨u,dq,l⟩:=hx j y d e1 e2 e3;refine#[u,dq,?_];rcases l with ⟨kk,e⟩ | ⟨kk,c,e,w⟩;exact .inl #[kk,by simp[show y≠n from λe=>ne (xaz nd hi (e▸e1)),e]];exact .inr #[kk,c,e,w.sameBut sm ME];obtain⟨⟨v,w⟩,r⟩:=I.ce y c e;exact#[#[v,w.sameBut sm ME],r]
theorem zbE [Y:Yx X k] {yk:Nat->Bool}{D0:Tn}(ha:QA (X.wth X.A X.calm) es fA)(F:RDef X.toBz fx k' ps ev:=by assumption)(hk:bR k' k=tj:=by rfl)(YY:∀c,yk c=tj->ExcY X.B.C.K X.mg y D0 LR:=by assumption)(hT:X.ER=Er X.B:=by rfl) (sc:SC X fx ax es:=by exact⟨rfl,by decide,by decide,rfl⟩) (hgy:NAG X y:=by rfl) (hdy:(y==("__debug__"))=fh:=by decide) (hi:X.N[i]?=se n:=by rfl) (kH:K7=XL:=by rfl) (hj:X.N[j]?=se y':=by rfl) (jh:X.env.scope.names.lookup y'=XL:=by rfl) (hd1:(n==("__debug__"))=fh:=by decide) (hd2:(n==("__classdict__"))=fh:=by decide) (lV:X.stack=X.env::X.outer:=by rfl) (hfr:X.env.frame=se X.env.locals:=by rfl) (pY:VU [Na,.Name fx fp,es,[]] ng p8.line X.env=Sj:=by rfl) (hsw2:VU (.Name n p1) (se [Oz,y']) p3.line X.env=Sj:=by rfl) :QS X (.Try [.Expr [Na,.Name fx fp,es,[]] p8] [.ExceptHandler (se [tA,np]) (se n) [.Assign [[Oz,y']] (.Name n p1) p3] kF] [] [] kA) (rTryN i yk ev fA [π,rV i,j]):=#[λ{pins ρ h ws s P} z q=>by obtain⟨f,fd,G,hb,hm,kp⟩:=F.is;obtain⟨g0,I0⟩:=z.inv;refine wpAny_Try_except (X2 (wpAny_Expr_any ?_ (by simp[interactive,I0.ok.kind]) pY));refine Tw (pL z sc.g hm ?_ sc.d);refine wI sc.pl kp (UF (ha.h (z.wth I0.ok.hd I0.ok.frames) q.bnd.unx) (λus s1 t=>?_) λv s' z=>z.elim);obtain⟨ds,h1,l,z1,q1⟩:=t;have z1:=z1.unw I0.ok;refine#[z1.kIn,?_];cases z1 with | mk g I p W =>have ca:=I.ca;(have q2:(ev ds h1).sat (λ_ h'=>P Qd h') (λc h'=>yk c=tj/\(xbo i [π,rV i,j] ρ c h').sat P X.E):=by unfold xbT at q1;split at q1;rename_i e;rw[e];exact q1;rename_i e;rw[e];exact q1.i;exact q1.elim);(have hl:(us++[]).length=ps.length:=by rw[k8,<-l];exact G.len q2);refine Wp (U5 (G.run [Sm,hk] ca (by simpa using hb s1 us I.kIn hl) l (Le.hid.held λw z=>W w (df _ z)) q2) λrs s2 hq=>?_);have W':=λw z=>W w (dG _ z);cases rs with| ok fl =>(cases fl with| ret u =>obtain⟨d,h',z,q⟩:=I.ret (r:=[JF,u]) p W' hq;exact Vi (Vi #[_,_,z.tl,q])| next=>exact PG| brk=>exact PG| cont=>exact PG)| error ex =>replace hq:X.ER X.stack [MO,s1.heap] s1 (λc h'=>yk c=tj/\(xbo i [π,rV i,j] ρ c h').sat P X.E) ex s2:=hq;rw[hT] at hq;obtain⟨a,t,F,c,h',g',rfl,os,br,fly,na,⟨yc,q3⟩,fx,ip,hk,bf⟩:=hq;have gr:Gr [MO,s1.heap] g':=#[λb r z y=>y.elim (fx b r z) λy=>absurd z (y▸ca.nl b),ip];(have hfrm:=by exact lV▸I.ok.frames);rw[lV] at fly;refine wpAny_looks_onW hfrm hfr fly λh4 uh up4=>?_;refine wpAny_landsW uh λh5 qu up5=>?_;(have at_:∀{h6:TU},Heap.FlyingW F (X.env::X.outer) a (.ref LR) t h6->Y9 a LR h6:=λz=>by obtain⟨oe,ws,w1,w2,w3,_⟩:=z.first;exact#[oe,ws,w1,w2,w3]);obtain⟨I5,_⟩:=I.back (s':={ s2 with heap:=h5}) gr (hk.fly bf fly.1 qu.1 (up4.trans up5)) os br;refine wpAny_handleBy_cons (codeAny_handlers_test ?_) (by intro q;cases q);refine pL (X:=X.wth (X.A.mark (se ψ)) fh) (J.wth (pins:=[]) (ws:=[]) #[_,I5,λ_ z=>by simp at z,λ_ z=>by simp at z] (λz=>nomatch z) I.ok.frames) hgy (YY c yc).mg ?_ hdy;refine zay (YY c yc) I5.kIn (at_ qu) ?_;refine codeAny_handlers_suite_as ?_;refine lands_againW qu λh6 qj up6=>?_;obtain⟨I6,gr6⟩:=I.back (s':={ s2 with heap:=h6}) gr (hk.fly bf fly.1 qj.1 ((up4.trans up5).trans up6)) os br;(have nb:'J'.G a=none:=by by_cases y:Ϙ=rv;obtain⟨o,e⟩:=[Q7,_,y];have:=gr.f _ _ (lQ y e) (.inl (by by_cases w:a=X.env.locals<;>simp[w,Ro.fix]));rw[na] at this;cases this;rw[ky y,na]);have z6:=tU (ws':=[]) (tm:=.mx c) I6 (λy z=>gr6.f _ _ (p y z) lS) (gr6.le.held W') [a] (by simpa using nb) (λ_ _ e=>e) (by obtain⟨o,_,e,_⟩:=at_ qj;simpa using #[o,e]) (λg _ _ r=>.mx (r a (by simp)) (at_ qj)) s2.toks;unfold xbo at q3;rw[show hn h'=h'.length from aW h',show hp h' (.mx c)=h'++[.mx c]from gj _ _,eI] at q3;refine J.store z6 Y.nd hi (.inl kH) (.inr kH) λs7 z7=>?_;have hs:QB (X.wth (X.A.mark (se ψ)) fh) [.Assign [[Oz,y']] (.Name n p1) p3] [π,rV i,j]:=GD #[λz q=>wpAny_Assign_Name (Uy ((q_v (X:=X.wth (X.A.mark (se ψ)) fh) hi (.inl kH) hd1 hd2).h z q.bnd) λv s1 #[d,h1,z,q]=>by obtain⟨ρ',e,q⟩:=q.o;cases e;exact z.store (X:=X.wth (X.A.mark (se ψ)) fh) Y.nd hj (.inl jh) (.inr jh) λs2 z2=>#[_,_,z2,by rw[<-eI];exact q]) hsw2];refine UF (hs.h (z7.wth (λz=>nomatch z) I.ok.frames) q3.bnd.unx) (λfl s8 h8=>?_) λ_ _ z=>z.elim;cases fl with| next =>obtain⟨ρ',h8,z8,q8⟩:=h8;replace q8:P (.nx (ZC ρ' i ng)) h8:=q8;rw[eI] at q8;exact J.gone (z8.unw I.ok) Y.nd hi kH λs9 z9=>#[_,_,z9,q8]| ret u =>obtain⟨d,ρ',h8,z8,q8⟩:=h8;exact J.gone (z8.unw I.ok) Y.nd hi kH λs9 z9=>#[d,_,_,z9,q8]| brk=>exact False.elim h8| cont=>exact False.elim h8]
end
structure IsXF (C:CT)(K:a9)(c:Value)(bs:Nat->JG):Prop where
 ne:c=.type "ValueError"\/∃a,c=ψ
 non:nO K (.type "NoneType") c=Ty
 exc:∀k b,bs k=SW->xaf K (C.xc k)/\nO K (.ref (C.xc k)) c=SW
structure IsXs (C:CT)(K:a9)(mg:To->Hc)(xnm:Nat->MX)(n:Nat):Prop where
 own:∀j y,xnm j=Ϫ->∃D,mg y=[TS,D]/\IsXF C K (.ref D) (bX n j)
 val:IsXF C K (.type "ValueError") (bV n)
section
variable {X:Cz}{k:Nat}[Y:Yx X k] {e:TV}{y:To}{pos p q0:VX}{fa:RE}{cv:Value}{bs:Nat->JG}{xnm:Nat->MX}{n j:Nat}
include Y
theorem Hw (F:IsXF X.B.C X.B.C.K cv bs)(ha:QE X e fa)(ld:∀{pins ρ h ws s E} {Q:Value->Tj->Prop},J X pins ρ h ws s->Q cv s->Tv [Zh,X.B.w] X.A [Ϧ,[tA,q0]] Q E s)(sc:SC X "isinstance" pos [e,[tA,q0]])(hs:[ϵ,[e,[tA,q0]]]=[(fh,[Ϧ,e]),(fh,[Ϧ,[tA,q0]])]) :QE X [Os,.Name "isinstance" p,[e,[tA,q0]],[]] (YB bs fa):=#[λz q=>Tw (gZ z sc.g H2 CG [Pg,sc.pl,sc.pl,by rw[hs];refine[Nu,[CX,z],λu s1 #[x,h1,z,q]=>Calls.spliced_cons (ld z (Calls.spliced_nil ?_))];split at q;cases z.non;exact kh Ch z.kIn True.intro F.non (by rcases F.ne with z | ⟨_,z⟩<;>subst z<;>exactλz=>nomatch z) λtk=>(z.tl.tok tk).gbl q;split at q;rename_i c e1;rw[aX] at e1;obtain⟨b,e2,q⟩:=q.o;obtain⟨x1,x2⟩:=F.exc c b e2;have kin:=z.kIn;obtain⟨g,hk,dq⟩:=z.at aR;(cases dq with | at_ e0 =>cases hk.th _ _ _ e1 e0 with | mx r ex=>exact kh (Kx x1) kin ex x2 (by rcases F.ne with z | ⟨_,z⟩<;>subst z<;>exactλz=>nomatch z) λtk=>(z.tl.tok tk).gbl q);exact q.elim;exact q.elim] sc.n sc.d)]
theorem zdb (F:IsXs X.B.C X.B.C.K X.mg xnm n)(ha:QE X e fa)(hx:xnm j=Ϫ:=by rfl)(hg:NAG X y:=by rfl)(hd:(y==("__debug__"))=fh:=by decide)(sc:SC X "isinstance" pos [e,[tA,q0]]:=by exact⟨rfl,by decide,by decide,rfl⟩)(hs:[ϵ,[e,[tA,q0]]]=[(fh,[Ϧ,e]),(fh,[Ϧ,[tA,q0]])]:=by rfl) :QE X [Os,.Name "isinstance" p,[e,[tA,q0]],[]] (YB (bX n j) fa):=by obtain⟨D,h1,h2⟩:=F.own j y hx;exact Hw h2 ha (λz q=>pL z hg h1 q hd) sc hs
theorem zbO (F:IsXs X.B.C X.B.C.K X.mg xnm n)(ha:QE X e fa)(hg:NAG X "ValueError":=by rfl)(sc:SC X "isinstance" pos [e,.Name "ValueError" q0]:=by exact⟨rfl,by decide,by decide,rfl⟩)(hs:[ϵ,[e,.Name "ValueError" q0]]=[(fh,[Ϧ,e]),(fh,[Ϧ,.Name "ValueError" q0])]:=by rfl) :QE X [Os,.Name "isinstance" p,[e,.Name "ValueError" q0],[]] (YB (bV n) fa) :=Hw F.val ha (λz q=>gZ z hg H2 (by decide +kernel) q (by decide) (by decide)) sc hs
end
section
variable {K:a9}{mg:To->Hc}{h:TU}{x y:To}{C:Tn}
noncomputable def adr (K:a9) (x:To):Tn:=match jQ K TB x with| some (se (.ref a))=>a| _=>0
noncomputable def ZG (K:a9) (x:To):Bool:=match jQ K TB x with| some (se (.ref _))=>tj| _=>fh
theorem Ap (X:IF)(G:h.Ns TB mg)(e:ZG K x=tj):mg x=[TS,adr K x]:=by refine nQ X G ?_;unfold ZG at e;unfold adr;split at e;rename_i a z;rw[z];cases e
noncomputable def okE (K:a9) (YE C:Tn):Bool:=([TT,K,"__getattribute__"]==se [TO,"BaseException.__getattribute__"])&&([TT,K,"__getattr__"]==PV)&&([TT,K,"__class__"]==se [TO,"object.__class__"])&&(Cg K (.builtin "object.__class__") "__get__"==se [TO,"getset_descriptor.__get__"])&&(Ck K (.builtin "object.__class__")==BT)&&(l8 K C (.type "object")==BT)&&(l8 K C (.type "BaseException")==BT)&&(o6 K C).isSome&&vw K C bmV "ValueError.__new__"&&(l8 K C (.ref YE)==BT)&&(nO K H1 (.type "ValueError")==BT)
theorem ud (e:okE K YE C=tj):xaf K C/\vw K C bmV "ValueError.__new__"=tj/\l8 K C (.ref YE)=BT/\nO K H1 (.type "ValueError")=BT:=by unfold okE at e;simp only[cC,beq_iff_eq] at e;obtain⟨⟨⟨⟨⟨⟨⟨⟨⟨⟨e1,e2⟩,e3⟩,e4⟩,e5⟩,e6⟩,e7⟩,e8⟩,e9⟩,e10⟩,e11⟩:=e;exact#[#[e1,e2,e3,e4,e5,e6,e7,e8],e9,e10,e11]
noncomputable def okX (K:a9) (xs:μ) (y:To):Bool:=xs.all (λx=>ZG K x&&okE K (adr K y) (adr K x)&&(nO K (.type "NoneType") (.ref (adr K x))==Ty))&&ZG K y&&(x6 K (.ref (adr K y))==[P6,"type"])&&(o6 K (adr K y)).isSome&&(l8 K (adr K y) (.type "BaseException")==BT)&&(nO K (.type "NoneType") (.type "ValueError")==Ty)&&(aT xs.length).all λk=>(aT xs.length).all λj=>nO K (.ref (adr K (xs.getD k ""))) (.ref (adr K (xs.getD j "")))==se (bW k j)
structure Xs (C:CT)(K:a9)(mg:To->Hc)(xs:μ)(y:To):Prop where
 d:∀k x,xs[k]?=ω->ExcD K mg x (C.xc k)
 y:∀k,k<xs.length->ExcY K mg y (adr K y) (C.xc k)
 i:IsXs C K mg (λc=>xs[c]?) xs.length
theorem zcw {C:CT}(X:IF)(G:h.Ns TB mg)(hC:∀k,C.xc k=adr K (xs.getD k ""))(e:okX K xs y=tj):Xs C K mg xs y:=by unfold okX at e;simp only[cC,beq_iff_eq,iO,dA] at e;obtain⟨⟨⟨⟨⟨⟨e1,e2⟩,e3⟩,e4⟩,e5⟩,e6⟩,e7⟩:=e;have bG:∀k x,xs[k]?=ω->C.xc k=adr K x/\x∈xs:=λk x z=>#[by rw[hC,bO,z];rfl,aM z];have lt':∀k,k<xs.length->∃x,xs[k]?=ω:=λk z=>#[_,aV z];refine#[λk x z=>?_,λk z=>?_,λj x z=>?_,lS,e6,λk b z=>?_];obtain⟨z1,z2⟩:=bG k x z;obtain⟨⟨q1,q2⟩,q3⟩:=e1 x z2;obtain⟨f1,f2,f3,f4⟩:=ud q2;rw[z1];exact#[Ap X G q1,f2,f1];obtain⟨x,zx⟩:=lt' k z;obtain⟨z1,z2⟩:=bG k x zx;obtain⟨⟨q1,q2⟩,q3⟩:=e1 x z2;obtain⟨f1,f2,f3,f4⟩:=ud q2;rw[z1];exact#[Ap X G e2,e3,e4,e5,f3];obtain⟨z1,z2⟩:=bG j x z;obtain⟨⟨q1,q2⟩,q3⟩:=e1 x z2;refine#[adr K x,Ap X G q1,.inr #[_,rfl],q3,λk b y=>?_];unfold bX at y;(cases hb:bI k xs.length with| false=>rw[hb] at y;cases y| true =>rw[hb] at y;cases y;have lk:=cF.mp hb;obtain⟨x',zx⟩:=lt' k lk;obtain⟨y1,y2⟩:=bG k x' zx;obtain⟨⟨p1,p2⟩,p3⟩:=e1 x' y2;refine#[y1▸(ud p2).1,?_];have:=e7 k lk j (aQ.mp z).1;rw[hC k,<-z1,hC j];exact this);unfold bV at z;cases hb:bI k xs.length with| false=>rw[hb] at z;cases z| true =>rw[hb] at z;cases z;obtain⟨x',zx⟩:=lt' k (cF.mp hb);obtain⟨y1,y2⟩:=bG k x' zx;obtain⟨⟨p1,p2⟩,p3⟩:=e1 x' y2;exact#[y1▸(ud p2).1,y1▸(ud p2).2.2.2]
end
end NAL.RZ
set_option maxHeartbeats 40000000
namespace NAM
open PySem PySem.Spec PyProof.Rows NAL NAL.EX NAL.RX NAL.RZ
def rl (s:String):Q4:=do
 let h <- `(?_)
 let t <-(s.splitOn " ").toArray.mapM fun x=>let p:=x.splitOn "/"; let e:Lean.Term:=#[Lean.Syntax.mkApp (Lean.mkIdent p.head!.toName) (.replicate (p.getD 1 "").length h)]; `(tacticSeq| refine $e)
 `(tactic| first $[| $t]*)
def gl (s:String):Q4:=do
 let t <-(s.splitOn " ").toArray.mapM fun x=>let i:=Lean.mkIdent x.toName; `(tacticSeq| show $i ..; walk_at $(Lean.Syntax.mkStrLit x))
 `(tactic| first $[| $t]*)
local macro_rules | `(tactic| walk_at "sc")=>`(tactic| exact ⟨by decide +kernel,rfl,rfl,by decide +kernel,(by repeat (first | exact True.intro | refine And.intro (Or.inl rfl) ?_ | refine And.intro (Or.inr rfl) ?_)),rfl,by decide +kernel,by decide +kernel,by intro _; rfl⟩)
local macro_rules | `(tactic| walk_at "q")=>gl "QE QA QT QW QS QB QI QO"
local macro_rules | `(tactic| walk_at "QE1")=>rl "q_v OL zX zcc zb5 zd8 ON/xx zeA/xx zaz/xxx zbD/x zeg/xxx Qc/x zaF/xx Qv/x zdg/xx Pd/x zaP/x zdp zfo/xx OW/xx O0/x zcg/x OT/x OX/xxx zea/xx PO/xx zen/xxx PQ/x zcq/xx zeD/xx zaM/xx zeJ/xx PR/x zbw/x Pn/x q_b/x QF/x zcF/x zcJ/x zeI/x zdl/xx Qx/x zeC/x"
local macro_rules | `(tactic| walk_at "QE")=>`(tactic| first
 | walk_at "QE1"
 | refine Ai (wJ (by decide)) (by walk_at "sc") ?_ (λc Y=>fR Y) λc Y=>?_
 | refine Ai (wK (by decide) (by decide)) (by walk_at "sc") ?_ (λc Y=>tY Y (fR Y) (fR Y)) λc Y=>?_
 | refine Ai (zcY (by decide) (by decide) (by decide)) (by walk_at "sc") ?_ (λc Y=>GV Y (fR Y) (fR Y) (fR Y)) λc Y=>?_
 | refine G6 (wJ (by decide)) (by walk_at "sc") ?_ (λc Y=>fR Y) (λc Y=>?_) λc Y=>?_
 | refine G6 (wK (by decide) (by decide)) (by walk_at "sc") ?_ (λc Y=>tY Y (fR Y) (fR Y)) (λc Y=>?_) λc Y=>?_
 | refine za4 (by assumption) rfl ?_ ?_
 | refine zdb (by assumption) ?_
 | refine zbO (by assumption) ?_
 | exact zd2 (by assumption) (λ_ _ _=>rfl))
local macro_rules | `(tactic| walk_at "QA")=>rl "rx tS/xx"
local macro_rules | `(tactic| walk_at "QT1")=>rl "zci/xx OZ/x OY/x"
local macro_rules | `(tactic| walk_at "QT")=>`(tactic| first
 | walk_at "QT1"
 | refine GC (Gz ?_ ?_)
 | refine GC (GA ?_ ?_))
local macro_rules | `(tactic| walk_at "QW")=>rl "Gz/xx GA/xx zdY/x O2/x"
local macro_rules | `(tactic| walk_at "QS1")=>rl "zfu/x O6/x O8/xxx Rd/x zcr/x zfj/x zbb/xx Qi/xxx Qj/xxx Pw/xx zfh zbE/x zc1/x"
local macro_rules | `(tactic| walk_at "QS")=>`(tactic| first
 | walk_at "QS1"
 | refine G7 (wJ (by decide)) (by walk_at "sc") ?_ (λc Y=>fR Y) λc Y=>?_
 | refine G7 (wK (by decide) (by decide)) (by walk_at "sc") ?_ (λc Y=>tY Y (fR Y) (fR Y)) λc Y=>?_
 | refine G8 (wJ (by decide)) (by walk_at "sc") ?_ (λc Y=>fR Y) (λc Y=>?_) λc Y=>?_
 | refine G8 (wK (by decide) (by decide)) (by walk_at "sc") ?_ (λc Y=>tY Y (fR Y) (fR Y)) (λc Y=>?_) λc Y=>?_
 | refine Af ?_ (λY=>fR Y) ?_
 | refine Af ?_ (λY=>tY Y (fR Y) (fR Y)) ?_
 | refine Af ?_ (λY=>GV Y (fR Y) (fR Y) (fR Y)) ?_)
local macro_rules | `(tactic| walk_at "QB")=>rl "GD/x O5/xx O4"
local macro_rules | `(tactic| walk_at "QI")=>rl "PE/x zdB/x zeS/xx PL/xxx PC/x"
local macro_rules | `(tactic| walk_at "QO")=>rl "wN wO/x"
local macro_rules | `(tactic| walk_at "x")=>`(tactic| repeat' (walk_at "q"))
local macro_rules | `(tactic| walk_at "sf")=>`(tactic| exact ⟨rfl,rfl,rfl,by decide +kernel,rfl,by decide +kernel,by decide +kernel⟩)
def Hx:Nat->(Ϛ->Prop)->Prop| 0,P=>P []| n+1,P=>∀a,Hx n λl=>P (a::l)
theorem ue {n:Nat}{P:Ϛ->Prop}(h:Hx n P):∀us:Ϛ,us.length=n->P us:=by induction n generalizing P with| zero=>(intro us hl;cases us with| nil=>exact h| cons _ _=>cases hl)| succ n ih=>intro us hl;cases us with| nil=>cases hl| cons a us=>exact ih (h a) us (lh hl)
local macro_rules | `(tactic| walk_at "b")=>`(tactic| first | exact fun _ _ _ _ _ _=>ue (n:=1) fun _=>rfl | exact fun _ _ _ _ _ _=>ue (n:=2) fun _ _=>rfl | exact fun _ _ _ _ _ _=>ue (n:=3) fun _ _ _=>rfl | exact fun _ _ _ _ _ _=>ue (n:=4) fun _ _ _ _=>rfl | exact fun _ _ _ _ _ _=>ue (n:=5) fun _ _ _ _ _=>rfl)
local macro_rules | `(tactic| walk_at "B")=>`(tactic| (intro f cdv A outer g h s E Y; walk_at "x"))
abbrev Fq:=Nat×Nat×To×To×UW
noncomputable abbrev tF (x:To) (i:Nat):Fq:=(0,0,x,x,top i)
noncomputable abbrev mF (c:Nat) (x q:To) (i j:Nat):Fq:=(1,c,x,q,ZQ (top i) j)
structure Ad where
 p:Tn
 r:Tn
 h:Tn
 t:Tn
noncomputable abbrev Cc (Θ:Bg) (a:Ad):CT:=gC Θ.K a.p a.r a.h a.t λi=>adr Θ.K (xbk.getD i "")
noncomputable abbrev Tt (Θ:Bg) (a:Ad):Bz:=Θ.T Er (Cc Θ a)
abbrev xS (i:Nat)(x:To)(Θ:Bg)(a:Ad):Prop:=ExcD Θ.K Θ.mg x ((Cc Θ a).xc i)
abbrev dS (x:To)(k:Nat)(ps:μ)(e:θ->TH->R D)(Θ:Bg)(a:Ad):Prop:=RDef (Tt Θ a) x k ps e
abbrev mS (c:Nat)(x:To)(k:Nat)(ps:μ)(e:θ->TH->R D)(Θ:Bg)(a:Ad):Prop:=RMet (Tt Θ a) c x k ps e
abbrev cS (x:To)(c k:Nat)(ps:μ)(e:θ->TH->R D)(Θ:Bg)(a:Ad):Prop:=RCls (Tt Θ a) x c k ps e
abbrev iS (x:To)(d:D)(Θ:Bg)(a:Ad):Prop:=RCst (Tt Θ a).B Θ.mg Θ.base x d
section
variable {Θ:Bg}{a:Ad}{K:a9}{N ps:μ}{x y q:To}{st:UW}{k c n j m:Nat}{keep:Bool}{fs:RS}{cl:Nat->Tn}
def Fcs (K:a9)(cl:Nat->Tn):List Fq->Prop| []=>True| (0,_,x,_,st)::l=>FT K x st/\Fcs K cl l| (_,c,x,q,st)::l=>FM K (cl c) x q st/\Fcs K cl l
theorem wQ:∀{l:List Fq} {n:Nat},Fcs K cl l->l[n]?=se (0,c,x,q,st)->FT K x st| _::_,0,a,e=>by cases e;exact a.1| (0,_)::_,_+1,a,e=>wQ a.2 e| (_+1,_)::_,_+1,a,e=>wQ a.2 e
theorem uf:∀{l:List Fq} {n:Nat},Fcs K cl l->l[n]?=se (1,c,x,q,st)->FM K (cl c) x q st| _::_,0,a,e=>by cases e;exact a.1| (0,_)::_,_+1,a,e=>uf a.2 e| (_+1,_)::_,_+1,a,e=>uf a.2 e
structure Bb (Θ:Bg)(a:Ad)(l:List Fq):Prop where
 B:Bx (Tt Θ a)
 X:∃h,Θ.K.In h/\Heap.Ns h TB Θ.mg
 f:Fcs Θ.K (Cc Θ a).cl l
 c:∀c,Cls Θ.K ((Cc Θ a).cl c)/\qP Θ.K ((Cc Θ a).cl c)=tj/\iG Θ.K (.ref ((Cc Θ a).cl c))=tj
 l:∀i p,lb i=ϕ->LamF (Tt Θ a) 0 i p.1 p.2
variable {l:List Fq}(B:Bb Θ a l)
include B
theorem dd (i:Nat)(N:μ)(t:l[i]?=se (0,0,x,x,st):=by rfl)(S:VB N ps wr:=by walk_at "sf")(b:BA x x st ps:=by walk_at "b")(hn:ps.length=n:=by rfl)(hL:N.length=n+j:=by rfl)(h:ox (Tt Θ a) N x st k fs:=by walk_at "B"):dS x (k+1) ps (UL keep n j fs) Θ a :=let #[_,X,G]:=B.X;Q2 B.B (QV ps X G (wQ B.f t) b) S hn hL uc h
theorem dm (i:Nat)(N:μ)(t:l[i]?=se (1,c,x,q,st):=by rfl)(S:VB N ps wr:=by walk_at "sf")(b:BA x q st ps:=by walk_at "b")(hn:ps.length=n:=by rfl)(hL:N.length=n+j:=by rfl)(h:ox (Tt Θ a) N q st k fs:=by walk_at "B"):mS c x (k+1) ps (UL keep n j fs) Θ a:=Q3 B.B (zcz ps (uf B.f t) (B.c c).1 b) S hn hL uc h
theorem dc (i:Nat)(N:μ)(hm:Θ.mg y=[TS,(Cc Θ a).cl c])(t:l[i]?=se (1,c,("__init__":To),q,st):=by rfl)(S:VB N ps wr:=by walk_at "sf")(b:BA "__init__" q st ps:=by walk_at "b")(hn:ps.length=n:=by rfl)(hL:N.length=n+j:=by rfl)(h:ox (Tt Θ a) N q st k fs:=by walk_at "B"):cS y c (k+1) ps (UL keep n j fs) Θ a:=Hs B.B (Hu ps (B.c c).2.1 (B.c c).2.2 (uf B.f t) b) hm S hn hL uc h
theorem dcK (i:Nat)(N:μ)(hm:Θ.mg y=[TS,(Cc Θ a).cl c])(t:l[i]?=se (1,c,("__init__":To),q,st):=by rfl)(S:VB N ps wr:=by walk_at "sf")(b:BA "__init__" q st ps:=by walk_at "b")(hn:ps.length=n:=by rfl)(hL:N.length=n+j:=by rfl)(h:ox (Tt Θ a) N q st k fs:=by walk_at "B"):cS y c (k+1) ps (fnK m n j fs) Θ a:=Hs B.B (Hu ps (B.c c).2.1 (B.c c).2.2 (uf B.f t) b) hm S hn hL Q0 h
end
theorem Ri {Θ:Bg}{a:Ad}(B:Bx (Tt Θ a)):∀l p,lb l=ϕ->LamF (Tt Θ a) 0 l p.1 p.2:=by intro l p e;cases l with| succ n=>cases e| zero =>cases e;(have S:VB ["share"] ["share"] lamS.scope:=by walk_at "sf");refine#[["share"],rfl,S,λpm cd ct us hl=>?_,λf cd A outer g h s hr=>?_];obtain⟨_,rfl⟩:=w9.mp hl;rfl;have Y:=zaj (T:=Tt Θ a) (N:=["share"]) (qual:=lamS.qual) (scope:=lamS.scope) (f:=f) (cdv:=cd) (outer:=outer) (s:=s) (g:=g) (h:=h) (k:=0) B (by decide +kernel) hr;walk_at "x"
noncomputable def fcs:List Fq:=[tF "_law_mixed" 51,tF "_law_names" 57,tF "_law_cell_at" 50,mF 2 "__init__" "House.__init__" 48 0,tF "_law_first_of" 59,tF "_law_some" 58,tF "_law_work" 54,tF "_law_put" 60,tF "_law_deed" 61,tF "is_name" 45,tF "need_name" 46,mF 1 "__init__" "Roll.__init__" 47 0,mF 1 "hand_names" "Roll.hand_names" 47 1,mF 2 "old_row" "House.old_row" 48 16,mF 0 "__init__" "Pour.__init__" 24 0,mF 0 "gives_with_rest" "Pour.gives_with_rest" 24 3,mF 0 "has_room" "Pour.has_room" 24 4,mF 0 "far_end" "Pour.far_end" 24 1,mF 0 "may_go" "Pour.may_go" 24 2,mF 0 "row_behind" "Pour.row_behind" 24 6,mF 0 "steps_to_room" "Pour.steps_to_room" 24 5,mF 0 "leads_on" "Pour.leads_on" 24 10,mF 0 "skip_dead_ties" "Pour.skip_dead_ties" 24 9,mF 0 "way_from" "Pour.way_from" 24 8,mF 0 "send_along" "Pour.send_along" 24 11,mF 0 "send_by_steps" "Pour.send_by_steps" 24 7,mF 0 "fill" "Pour.fill" 24 12,tF "pour_more" 26,tF "pour_all" 25,tF "ties_in" 28,tF "work_in" 29,tF "pour_in" 30,tF "chosen" 31,tF "crowds_by" 32,tF "is_whole" 14,tF "divisor_of" 15,tF "part_of" 16,tF "shares_in" 36,tF "rows_from" 33,tF "deal_evenly" 35,tF "plus_in_lowest" 18,tF "sum_of_parts" 19,tF "loads_of_shares" 37,tF "is_kept" 40,tF "kept_up" 39,mF 2 "changes_to" "House.changes_to" 48 17,mF 1 "by_names" "Roll.by_names" 47 2,mF 2 "with_crew" "House.with_crew" 48 13,mF 2 "hire" "House.hire" 48 4,mF 2 "need_hand" "House.need_hand" 48 2,mF 2 "with_task" "House.with_task" 48 14,mF 2 "put" "House.put" 48 5,mF 2 "need_chore" "House.need_chore" 48 3,mF 2 "drop" "House.drop" 48 6,mF 2 "grow" "House.grow" 48 9,mF 2 "more" "House.more" 48 7,mF 2 "fewer" "House.fewer" 48 8,mF 2 "move" "House.move" 48 12,mF 2 "away" "House.away" 48 10,mF 2 "back" "House.back" 48 11,tF "_law_do" 62,tF "_law_noted" 63,mF 2 "load" "House.load" 48 18,mF 2 "is_there" "House.is_there" 48 21,mF 2 "hands" "House.hands" 48 22,tF "is_below" 17,mF 2 "shares" "House.shares" 48 19,mF 2 "chores" "House.chores" 48 23,tF "chores_at" 21,tF "why_so" 22,tF "_law_below" 55,tF "_law_divisor" 52,tF "_law_lowest" 53,tF "_law_plus" 56,tF "_law_holds" 64,tF "_law_why" 66,tF "_law_is" 65,tF "_law_caught" 67,tF "law" 68]
section
variable {Θ:Bg}{a:Ad}(B:Bb Θ a fcs)
include B
abbrev ry:=dS "_law_mixed" 1 ["_law_cell","_law_k"] U1
theorem Rj :ry Θ a:=by exact dd B 0 ["_law_cell","_law_k","_law_number","_law_time"]
abbrev Hy:=dS "_law_names" 2 ["_law_cell","_law_many"] WW
theorem zb0 (_:ry Θ a):Hy Θ a:=by exact dd B 1 ["_law_cell","_law_many","_law_letters","_law_number","_law_base","_law_at"]
abbrev Hz:=dS "_law_cell_at" 1 ["_law_script","_law_k"] We
theorem zae :Hz Θ a:=by exact dd B 2 ["_law_script","_law_k"]
abbrev HB:=cS "House" 2 1 ["self"] ZV
theorem Rp  (u:Θ.mg "House"=[TS,a.h]):HB Θ a:=by exact dc B 3 ["self"] u
abbrev Aq:=dS "_law_first_of" 1 ["_law_names_here","_law_others"] VJ
theorem Rq :Aq Θ a:=by exact dd B 4 ["_law_names_here","_law_others","_law_name"]
abbrev HC:=dS "_law_some" 1 ["_law_number","_law_names_here"] Y0
theorem Rr :HC Θ a:=by exact dd B 5 ["_law_number","_law_names_here","_law_found","_law_name"]
abbrev Ar:=dS "_law_work" 2 ["_law_cell"] XI
theorem zeQ (_:ry Θ a):Ar Θ a:=by exact dd B 6 ["_law_cell","_law_number"]
abbrev HD:=dS "_law_put" 3 ["_law_cell","_law_note","_law_words"] ZF
theorem zaV (_:Aq Θ a)(_:ry Θ a)(_:HC Θ a)(_:Ar Θ a):HD Θ a:=by exact dd B 7 ["_law_cell","_law_note","_law_words","_law_chore","_law_number"]
abbrev HE:=dS "_law_deed" 4 ["_law_cell","_law_note","_law_words"] XJ
theorem Ru (_:ry Θ a)(_:Aq Θ a)(_:HD Θ a)(_:Ar Θ a):HE Θ a:=by exact dd B 8 ["_law_cell","_law_note","_law_words","_law_way","_law_number","_law_few","_law_name","_law_chore","_law_work_here"]
abbrev HF:=dS "is_name" 1 ["thing"] Zf
theorem zbo (_:iS "LONGEST_NAME" (.int 12) Θ a):HF Θ a:=by exact dd B 9 ["thing"]
abbrev As:=dS "need_name" 2 ["thing"] XH
theorem Rw (_:HF Θ a):As Θ a:=by exact dd B 10 ["thing"]
abbrev HG:=cS "Roll" 1 1 ["self","crew","tasks"] Y2
theorem zez  (u:Θ.mg "Roll"=[TS,a.r]):HG Θ a:=by exact dc B 11 ["self","crew","tasks","number_of","chore","numbers"] u
abbrev Au:=mS 1 "hand_names" 1 ["self","numbers"] U2
theorem zcU :Au Θ a:=by exact dm B 12 ["self","numbers"]
abbrev HH:=mS 2 "old_row" 2 ["self","roll","place","touched"] VM
theorem Rz (_:Au Θ a)(_:iS "NOTHING" (.tup [M4,LJ]) Θ a):HH Θ a:=by exact dm B 13 ["self","roll","place","touched","chore","doers"]
abbrev HI:=cS "Pour" 0 1 ["self","gives","takes","ties","sent"] XM
theorem RB  (u:Θ.mg "Pour"=[TS,a.p]):HI Θ a:=by exact dcK B 14 ["self","gives","takes","ties","sent","tie","ends","end"] u
abbrev Av:=mS 0 "gives_with_rest" 1 ["self"] Us
theorem zeR :Av Θ a:=by exact dm B 15 ["self"]
abbrev wR:=mS 0 "has_room" 1 ["self","ends"] UZ
theorem RD :wR Θ a:=by exact dm B 16 ["self","ends"]
abbrev wS:=mS 0 "far_end" 1 ["self","end","tie"] Vx
theorem zaq :wS Θ a:=by exact dm B 17 ["self","end","tie","ends"]
abbrev Aw:=mS 0 "may_go" 1 ["self","end","tie"] WB
theorem RH :Aw Θ a:=by exact dm B 18 ["self","end","tie"]
abbrev HJ:=mS 0 "row_behind" 2 ["self","row","steps"] Wf
theorem RJ (_:wS Θ a)(_:Aw Θ a):HJ Θ a:=by exact dm B 19 ["self","row","steps","behind","end","tie","far"]
abbrev HK:=mS 0 "steps_to_room" 3 ["self"] U3
theorem RK (_:Av Θ a)(_:wR Θ a)(_:HJ Θ a):HK Θ a:=by exact dm B 20 ["self","steps","row","give"]
abbrev HL:=mS 0 "leads_on" 2 ["self","end","tie","steps"] WN
theorem zdx (_:wS Θ a)(_:Aw Θ a):HL Θ a:=by exact dm B 21 ["self","end","tie","steps"]
abbrev HM:=mS 0 "skip_dead_ties" 3 ["self","end","steps","tried"] Vm
theorem za3 (_:HL Θ a):HM Θ a:=by exact dm B 22 ["self","end","steps","tried","ties"]
abbrev HN:=mS 0 "way_from" 4 ["self","give","steps","tried"] VL
theorem RN (_:wR Θ a)(_:HM Θ a)(_:wS Θ a):HN Θ a:=by exact dm B 23 ["self","give","steps","tried","way","ends","end","tie"]
abbrev HP:=mS 0 "send_along" 1 ["self","give","way"] Vo
theorem RQ :HP Θ a:=by exact dm B 24 ["self","give","way","take","amount","tie"]
abbrev HQ:=mS 0 "send_by_steps" 5 ["self","steps"] Vw
theorem RU (_:Av Θ a)(_:HN Θ a)(_:HP Θ a):HQ Θ a:=by exact dm B 25 ["self","steps","tried","give","way"]
abbrev HR:=mS 0 "fill" 6 ["self"] Y3
theorem zfp (_:HK Θ a)(_:wR Θ a)(_:HQ Θ a):HR Θ a:=by exact dm B 26 ["self","steps"]
abbrev HS:=dS "pour_more" 7 ["gives","takes","ties","sent"] YW
theorem zeN (_:HI Θ a)(_:HR Θ a):HS Θ a:=by exact dd B 27 ["gives","takes","ties","sent","pour","near"]
abbrev HU:=dS "pour_all" 8 ["gives","takes","ties"] ZD
theorem ze5 (_:HS Θ a):HU Θ a:=by exact dd B 28 ["gives","takes","ties"]
abbrev Ax:=dS "ties_in" 1 ["doers","crowd"] X8
theorem R2 :Ax Θ a:=by exact dd B 29 ["doers","crowd","place_of","ties","give","chore"]
abbrev HV:=dS "work_in" 1 ["works","crowd"] Z7
theorem R3 :HV Θ a:=by exact dd B 30 ["works","crowd"]
abbrev Ay:=dS "pour_in" 9 ["works","doers","crowd"] Zd
theorem R4 (_:HU Θ a)(_:Ax Θ a)(_:HV Θ a):Ay Θ a:=by exact dd B 31 ["works","doers","crowd","many","gives"]
abbrev HW:=dS "chosen" 1 ["things","marks","wanted"] ZU
theorem zaG :HW Θ a:=by exact dd B 32 ["things","marks","wanted"]
abbrev HX:=dS "crowds_by" 10 ["works","doers","many"] YX
theorem R6 (_:Ay Θ a)(_:HW Θ a):HX Θ a:=by exact dd B 33 ["works","doers","many","crowds","uncut","crowd","near","wanted"]
abbrev HY:=dS "is_whole" 1 ["thing"] Xo
theorem zbz :HY Θ a:=by exact dd B 34 ["thing"]
abbrev Az:=dS "divisor_of" 1 ["one","other"] Wd
theorem R8 :Az Θ a:=by exact dd B 35 ["one","other","greater","lesser","rest"]
abbrev HZ:=dS "part_of" 2 ["top","bottom"] Ze
theorem R9 (_:HY Θ a)(_:Az Θ a):HZ Θ a:=by exact dd B 36 ["top","bottom","divisor"]
abbrev H0:=dS "shares_in" 10 ["works","doers","crowd"] XG
theorem zfn (_:Ay Θ a)(_:HZ Θ a):H0 Θ a:=by exact dd B 37 ["works","doers","crowd","sent"]
abbrev H3:=dS "rows_from" 2 ["doers","crowds","sents","nothing"] YV
theorem Sb (_:Ax Θ a):H3 Θ a:=by exact dd B 38 ["doers","crowds","sents","nothing","rows","crowd","sent","tie","amount","chore"]
abbrev H4:=dS "deal_evenly" 11 ["works","doers","many"] WA
theorem zb1 (_:HX Θ a)(_:H0 Θ a)(_:H3 Θ a):H4 Θ a:=by exact dd B 39 ["works","doers","many","crowds","sents"]
abbrev H5:=dS "plus_in_lowest" 2 ["one","other"] Wx
theorem Sd (_:Az Θ a):H5 Θ a:=by exact dd B 40 ["one","other","shared","top","extra"]
abbrev H6:=dS "sum_of_parts" 3 ["parts"] Xn
theorem zau (_:H5 Θ a):H6 Θ a:=by exact dd B 41 ["parts","total","part"]
abbrev AA:=dS "loads_of_shares" 4 ["doers","many","shares"] Vn
theorem zaa (_:H6 Θ a):AA Θ a:=by exact dd B 42 ["doers","many","shares","shares_at","hands","row","hand","share"]
abbrev H7:=dS "is_kept" 1 ["hands","old","stayed"] Z9
theorem zao :H7 Θ a:=by exact dd B 43 ["hands","old","stayed"]
abbrev H8:=dS "kept_up" 12 ["works","doers","many","shares","old_loads"] Z8
theorem zc5 (_:H4 Θ a)(_:AA Θ a)(_:H7 Θ a):H8 Θ a:=by exact dd B 44 ["works","doers","many","shares","old_loads","dealt","loads","stayed"]
abbrev H9:=mS 2 "changes_to" 1 ["self","burdens"] VQ
theorem zdj (_:iS "NOTHING" (.tup [M4,LJ]) Θ a):H9 Θ a:=by exact dm B 45 ["self","burdens","changes"]
abbrev Ia:=mS 1 "by_names" 2 ["self","rows","is_above"] WM
theorem Sk (_:Au Θ a):Ia Θ a:=by have lf:=B.l;exact dm B 46 ["self","rows","is_above","told","chore","numbers","row"]
abbrev wT:=mS 2 "settle" 13 ["self","crew","tasks","touched"] UT
theorem Sl (_:HG Θ a)(_:HH Θ a)(_:H8 Θ a)(_:AA Θ a)(_:H9 Θ a)(_:Ia Θ a)(_:iS "NOTHING" (.tup [M4,LJ]) Θ a){cd:Tn}(lk:LamK Θ.mg Θ.base cd a.t)(F:FMC Θ.K a.h "settle" "House.settle" (ZQ (top 48) 15) cd):wT Θ a:=zfs (N:=["self","crew","tasks","touched","roll","many","old_rows","old_loads","dealt","burdens","changes"]) B.B (zc3 _ (B.c 2).1 F (by walk_at "b")) (by walk_at "sf") rfl rfl uc (by intro f A outer g h s E Y;walk_at "x")
abbrev AB:=mS 2 "with_crew" 14 ["self","name","is_present"] Vq
theorem zeF (_:wT Θ a):AB Θ a:=by exact dm B 47 ["self","name","is_present","crew"]
abbrev AC:=mS 2 "hire" 15 ["self","name"] WZ
theorem ze2 (_:As Θ a)(_:AB Θ a)(_:iS "MOST" (.int 40) Θ a):AC Θ a:=by exact dm B 48 ["self","name"]
abbrev ug:=mS 2 "need_hand" 1 ["self","name"] Ut
theorem So (_:xS 4 "NoHand" Θ a):ug Θ a:=by exact dm B 49 ["self","name"]
abbrev AD:=mS 2 "with_task" 14 ["self","chore","work","named"] Vp
theorem Sq (_:wT Θ a):AD Θ a:=by exact dm B 50 ["self","chore","work","named","tasks"]
abbrev Ib:=mS 2 "put" 15 ["self","chore","work","names"] Y4
theorem zbC (_:As Θ a)(_:ug Θ a)(_:AD Θ a)(_:iS "MOST" (.int 40) Θ a):Ib Θ a:=by exact dm B 51 ["self","chore","work","names","name"]
abbrev wU:=mS 2 "need_chore" 1 ["self","chore"] UU
theorem zb9 :wU Θ a:=by exact dm B 52 ["self","chore"]
abbrev Ic:=mS 2 "drop" 14 ["self","chore"] Ys
theorem Su (_:wU Θ a)(_:wT Θ a):Ic Θ a:=by exact dm B 53 ["self","chore","tasks"]
abbrev AE:=mS 2 "grow" 15 ["self","chore","work","sign"] W1
theorem Sv (_:wU Θ a)(_:AD Θ a):AE Θ a:=by exact dm B 54 ["self","chore","work","sign","task","after"]
abbrev Ie:=mS 2 "more" 16 ["self","chore","work"] Yq
theorem zcV (_:AE Θ a):Ie Θ a:=by exact dm B 55 ["self","chore","work"]
abbrev Ig:=mS 2 "fewer" 16 ["self","chore","work"] XW
theorem zbf (_:AE Θ a):Ig Θ a:=by exact dm B 56 ["self","chore","work"]
abbrev AF:=mS 2 "move" 15 ["self","name","to_be_there"] WY
theorem Sz (_:ug Θ a)(_:AB Θ a):AF Θ a:=by exact dm B 57 ["self","name","to_be_there"]
abbrev Ih:=mS 2 "away" 16 ["self","name"] Yu
theorem zce (_:AF Θ a):Ih Θ a:=by exact dm B 58 ["self","name"]
abbrev Ii:=mS 2 "back" 16 ["self","name"] Yt
theorem zdH (_:AF Θ a):Ii Θ a:=by exact dm B 59 ["self","name"]
abbrev Ij:=dS "_law_do" 17 ["_law_house","_law_deed_here"] X9
theorem zel (_:AC Θ a)(_:Ib Θ a)(_:Ic Θ a)(_:Ie Θ a)(_:Ig Θ a)(_:Ih Θ a)(_:Ii Θ a):Ij Θ a:=by exact dd B 60 ["_law_house","_law_deed_here"]
abbrev Ik:=dS "_law_noted" 1 ["_law_note","_law_deed_here"] Yo
theorem zet :Ik Θ a:=by exact dd B 61 ["_law_note","_law_deed_here"]
abbrev AG:=mS 2 "load" 2 ["self","name"] Uu
theorem SF (_:ug Θ a):AG Θ a:=by exact dm B 62 ["self","name"]
abbrev Il:=mS 2 "is_there" 2 ["self","name"] VA
theorem SG (_:ug Θ a):Il Θ a:=by exact dm B 63 ["self","name"]
abbrev Im:=mS 2 "hands" 1 ["self"] XV
theorem zeb :Im Θ a:=by exact dm B 64 ["self"]
abbrev Io:=dS "is_below" 1 ["one","other"] ZE
theorem zdv :Io Θ a:=by exact dd B 65 ["one","other"]
abbrev AH:=mS 2 "shares" 2 ["self","chore"] Wg
theorem zes (_:wU Θ a):AH Θ a:=by exact dm B 66 ["self","chore"]
abbrev AI:=mS 2 "chores" 1 ["self"] U9
theorem SN :AI Θ a:=by exact dm B 67 ["self"]
abbrev Ip:=dS "chores_at" 3 ["house","names"] YZ
theorem SO (_:AH Θ a)(_:AI Θ a):Ip Θ a:=by exact dd B 68 ["house","names"]
abbrev AJ:=dS "why_so" 4 ["house","name"] Wc
theorem SP (_:AG Θ a)(_:Il Θ a)(_:Im Θ a)(_:Io Θ a)(_:Ip Θ a):AJ Θ a:=by exact dd B 69 ["house","name","load","there","names"]
abbrev Iq:=dS "_law_below" 1 ["_law_one","_law_other"] WX
theorem SQ :Iq Θ a:=by exact dd B 70 ["_law_one","_law_other"]
abbrev Ir:=dS "_law_divisor" 1 ["_law_one","_law_other"] Xp
theorem zdd :Ir Θ a:=by exact dd B 71 ["_law_one","_law_other","_law_left","_law_right"]
abbrev It:=dS "_law_lowest" 2 ["_law_top","_law_bottom"] XT
theorem SU (_:Ir Θ a):It Θ a:=by exact dd B 72 ["_law_top","_law_bottom","_law_by"]
abbrev Iu:=dS "_law_plus" 3 ["_law_one","_law_other"] Y1
theorem zan (_:It Θ a):Iu Θ a:=by exact dd B 73 ["_law_one","_law_other"]
abbrev Iw:=dS "_law_holds" 3 ["_law_house","_law_note","_law_names_here","_law_chores"] Yp
theorem zca (_:AI Θ a)(_:AH Θ a):Iw Θ a:=by exact dd B 74 ["_law_house","_law_note","_law_names_here","_law_chores","_law_due","_law_chore","_law_hand"]
abbrev Ix:=dS "_law_why" 5 ["_law_house","_law_note","_law_name"] VP
theorem zbj (_:AJ Θ a)(_:Iq Θ a)(_:AG Θ a)(_:Iu Θ a)(_:Iw Θ a):Ix Θ a:=by exact dd B 75 ["_law_house","_law_note","_law_name","_law_told","_law_names_here","_law_total","_law_hand"]
abbrev Iy:=dS "_law_is" 1 ["_law_caught_here","_law_at"] xaa
theorem zeT (_:IsXs (Cc Θ a) Θ.K Θ.mg xnm 10):Iy Θ a:=by exact dd B 76 ["_law_caught_here","_law_at","_law_told"]
abbrev Iz:=dS "_law_caught" 5 ["_law_house","_law_name"] XU
theorem S4 (_:AJ Θ a){D0:Tn}(_:∀c,yk c=tj->ExcY Θ.K Θ.mg "YokeError" D0 ((Cc Θ a).xc c)):Iz Θ a:=by exact dd B 77 ["_law_house","_law_name","_law_caught_here","e"]
theorem S6 {f:Tn}{fd:Uk}(_:Hy Θ a)(_:Hz Θ a)(_:HB Θ a)(_:HE Θ a)(_:Ij Θ a)(_:Ik Θ a)(_:Ix Θ a)(_:ry Θ a)(_:Iy Θ a)(_:Iz Θ a)(_:AC Θ a)(F:Fun Θ.K "law" "law" (top 68) f fd):xaK (Tt Θ a) 18 f fd ["_law_script"] e_law:=wP (N:=["_law_script","_law_words","_law_house","_law_note","_law_cell","_law_deed_here","_law_name"]) (k:=17) B.B F (by walk_at "sf") rfl uc (by walk_at "B")
end
noncomputable def hdOk (K:a9) (CP CR CH:Tn):Bool:=RZ.bltN.all (okB K)&&okC K CP ["many_gives","tie_ends","sent","spare","ties_at"]&&okC K CR ["present","dealt","works","doers"]&&okC K CH ["crew","tasks","rows","burdens","piece_rows"]&&okI K "LONGEST_NAME" 12&&okI K "MOST" 40&&okX K xbk "YokeError"
theorem all_mk {P:TF}{w:Ud}{K:a9}{h:TU}{mg:To->Hc}{fa CP CR CH aN:Tn}{odN:Option Tn}{t0 t1 nN:Nat}{slN:Array Hc}(X:IF)(G:h.Ns TB mg)(hfa:mg "law"=[TS,fa])(neT:TB≠526)(hcd:xX K 528 526=tj)(uPour:jQ K TB "Pour"=se [TS,CP])(uRoll:jQ K TB "Roll"=se [TS,CR])(uHouse:jQ K TB "House"=se [TS,CH])(kN:jQ K TB "NOTHING"=se [TS,aN])(kNl:K.lookup aN=se #[.type "tuple",odN,.seq ([.int 0 t0,.int 1 t1].toArray) nN,slN])(ck:hdOk K CP CR CH=tj)(sl:FMC K CH "settle" "House.settle" (ZQ (top 48) 15) 528)(fc:Fcs K (gC K CP CR CH 526 λi=>adr K (xbk.getD i "")).cl fcs): ∃(C:CT) (fd:Uk),C.K=K/\(∀k,k<C.nl->∃q,[((526:Tn),lamS.qual)].lookup (C.tb k)=Ϡ)/\(∀b q,[((526:Tn),lamS.qual)].lookup b=Ϡ->∃k,k<C.nl/\C.tb k=b)/\(∀(s:Tj) (v:Value),BindsTo s fd #[[v],[]] [("_law_script",v)])/\∀base:TU,OB->base.Ns TB mg->(∀b q,[((526:Tn),lamS.qual)].lookup b=Ϡ->[MZ,b])->xaK (Bg.T #[P,w,K,mg,base] Er C) 18 fa fd ["_law_script"] e_law:=by unfold hdOk at ck;simp only[cC] at ck;obtain⟨⟨⟨⟨⟨⟨c0,qCP⟩,qCR⟩,qCH⟩,iLONGEST_NAME⟩,iMOST⟩,cX⟩:=ck;have cCP:=Ao qCP;have cCR:=Ao qCR;have cCH:=Ao qCH;obtain⟨fL,aL,ocL,odL,kVL,docL,pmL,anL,cdL,ctL,slL,lL,cL,kpL⟩:FT K "law" (top 68):=wQ (n:=78) fc rfl;cases hfa.symm.trans (nQ X G aL);refine#[(gC K CP CR CH 526 λi=>adr K (xbk.getD i "")),iH "law" "law" (Vr (top 68)) (U4 (top 68)) (T8 (top 68)) .none kVL docL pmL anL cdL ctL,rfl,λk hk=>?_,λb q e=>#[0,by show 0<1;decide,(one_tab e).symm],λs v=>.of_eq rfl,λbase XB GB hB=>?_];cases(show k=0 by have:k<1:=hk;lia);exact#[_,rfl];have B0:Bx (Tt #[P,w,K,mg,base] #[CP,CR,CH,526]):=#[λx hx=>zbK X G (iO.mp c0 x hx),λc f hf=>match c,hf with| 0,hf=>cCP.2.2.2 f hf| 1,hf=>cCR.2.2.2 f hf| n+2,hf=>cCH.2.2.2 f hf,zds rfl,Er.no];have Z:LamK mg base 528 526:=Ra XB hcd (hB 526 _ rfl) neT;have B:Bb #[P,w,K,mg,base] #[CP,CR,CH,526] fcs:=#[B0,#[h,X,G],fc,λc=>match c with| 0=>#[cCP.1,cCP.2.1,cCP.2.2.1]| 1=>#[cCR.1,cCR.2.1,cCR.2.2.1]| n+2=>#[cCH.1,cCH.2.1,cCH.2.2.1],Ri B0];have V:Xs (gC K CP CR CH 526 λi=>adr K (xbk.getD i "")) K mg xbk "YokeError":=zcw X G (λ_=>rfl) cX;have yy:∀c,yk c=tj->ExcY K mg "YokeError" (adr K "YokeError") (adr K (xbk.getD c "")):=λc hc=>V.y c (cF.mp hc);have f8:iS "LONGEST_NAME" (.int 12) #[P,w,K,mg,base] #[CP,CR,CH,526]:=Ht X G iLONGEST_NAME;have oF:iS "MOST" (.int 40) #[P,w,K,mg,base] #[CP,CR,CH,526]:=Ht X G iMOST;have fq:iS "NOTHING" (.tup [M4,LJ]) #[P,w,K,mg,base] #[CP,CR,CH,526]:=zaJ X G XB kN kNl;have bJ:=Rj B;have gT:=zb0 B bJ;have fB:=zae B;have gL:=Rp B (nQ X G uHouse);have cK:=Rq B;have iB:=Rr B;have eD:=zeQ B bJ;have iV:=zaV B cK bJ iB eD;have iu:=Ru B bJ cK iV eD;have jM:=zbo B f8;have eA:=Rw B jM;have ii:=zez B (nQ X G uRoll);have cy:=zcU B;have eQ:=Rz B cy fq;have iz:=RB B (nQ X G uPour);have bK:=zeR B;have bT:=RD B;have bZ:=zaq B;have dy:=RH B;have dQ:=RJ B bZ dy;have cR:=RK B bK bT dQ;have eO:=zdx B bZ dy;have cN:=za3 B eO;have eM:=RN B bT cN bZ;have dR:=RQ B;have cU:=RU B bK eM dR;have io:=zfp B cR bT cU;have iC:=zeN B iz io;have i0:=ze5 B iC;have gy:=R2 B;have jz:=R3 B;have gD:=R4 B i0 gy jz;have kC:=zaG B;have iE:=R6 B gD kC;have iX:=zbz B;have dO:=R8 B;have jI:=R9 B iX dO;have iF:=zfn B gD jI;have iq:=Sb B gy;have fV:=zb1 B iE iF iq;have dZ:=Sd B dO;have fj:=zau B dZ;have cx:=zaa B fj;have jE:=zao B;have jG:=zc5 B fV cx jE;have dC:=zdj B fq;have eR:=Sk B cy;have b9:=Sl B ii eQ jG cx dC eR fq Z sl;have cB:=zeF B b9;have dI:=ze2 B eA cB oF;have be:=So B (V.d 4 _ rfl);have cz:=Sq B b9;have im:=zbC B eA be cz oF;have bA:=zb9 B;have gJ:=Su B bA b9;have dN:=Sv B bA cz;have gP:=zcV B dN;have f9:=zbf B dN;have dP:=Sz B be cB;have gK:=zce B dP;have gO:=zdH B dP;have jF:=zel B dI im gJ gP f9 gK gO;have gN:=zet B;have dL:=SF B be;have d6:=SG B be;have fW:=zeb B;have iU:=zdv B;have cQ:=zes B bA;have cV:=SN B;have ir:=SO B cQ cV;have iA:=SP B dL d6 fW iU ir;have gR:=SQ B;have fm:=zdd B;have fS:=SU B fm;have iw:=zan B fS;have gM:=zca B cV cQ;have iW:=zbj B iA gR dL iw gM;have jJ:=zeT B V.i;have fZ:=S4 B iA yy;exact S6 B gT fB gL iu jF gN iW bJ jJ fZ dI (nU lL cL kpL)
end NAM
open PySem PySem.W PyProof.Rows
local macro_rules | `(tactic| walk_at "t")=>`(tactic| (refine' NAL.EX.ft_mk ?a ?l ?c ?k; (case a=>k_is); (case l=>k_is); (case c=>k_is); (case k=>k_is)))
local macro_rules | `(tactic| walk_at "m")=>`(tactic| (refine' NAL.EX.fm_mk ?a ?l ?c ?k ?i; (case a=>k_is); (case l=>k_is); (case c=>k_is); (case k=>k_is); (case i=>k_is)))
local macro_rules | `(tactic| walk_at "s")=>`(tactic| (refine' NAL.RZ.fmc_mk ?a ?l ?d ?k ?i; (case a=>k_is); (case l=>k_is); (case d=>k_is); (case k=>k_is); (case i=>k_is)))
namespace PySem.W.Fast
def tw1939123146087867003:=Nat
def tw8397052622178563405:=Nat
def tw671257006026898218:=Nat
def tw12110462177702483631:=Nat
def tw10951879577796007755:=Nat
def tw14885002662021459764:=Nat
def tw12141627297602608136:=Nat
def tw13255942910408068294:=Nat
def tw2360887429020211916:=Nat
def tw14254934209113103728:=Nat
def tw10371980600589767188:=Nat
def tw17126184880773313573:=Nat
def tw7518655348928809737:=Nat
def tw3964316656487882892:=Nat
def tw14844840811879951678:=Nat
def tw16033023661423763521:=Nat
def tw17388111614490178892:=Nat
def tw727192107218343302:=Nat
def tw9654204274123601400:=Nat
def tw4498864775414853773:=Nat
def tw14269635855506821905:=Nat
def tw1041259592021945513:=Nat
def tw7574133296387912277:=Nat
def tw1902881129879092995:=Nat
def tw15766195668171367817:=Nat
def tw6633536471109730247:=Nat
def tw8500490288807203004:=Nat
def tw15108949309146096527:=Nat
def tw9883097060142982264:=Nat
def tw5812490258774218727:=Nat
def tw7568460196726803412:=Nat
def tw4162347995266498284:=Nat
def tw1306980812044601606:=Nat
def tw1437441970130395427:=Nat
def tw2123018964285355335:=Nat
def tw8833928394888518279:=Nat
def tw15482761718912566479:=Nat
def tw2974706151819231677:=Nat
def tw6910624457622801694:=Nat
def tw10565649228069553805:=Nat
def tw3735581529834617563:=Nat
def tw8678481480595900134:=Nat
def tw8823592353306345465:=Nat
def tw7808064463309491119:=Nat
def tw16478593005308996591:=Nat
def tw5255842200558645546:=Nat
def tw4856574017215550038:=Nat
def tw5037640099741493436:=Nat
def tw4446482212765475412:=Nat
def tw2750197675441755110:=Nat
def tw12635768003253876485:=Nat
def tw9723268613696778421:=Nat
def tw9224281184724383649:=Nat
def tw2335582915173737835:=Nat
def tw3626204743397783632:=Nat
def tw9166096787155138797:=Nat
def tw13356792268347029851:=Nat
def tw12296254689266219834:=Nat
def tw669711887585060350:=Nat
def tw7178230044468647961:=Nat
def tw18220461857432011660:=Nat
def tw6467607214966045056:=Nat
def tw3182239134383114911:=Nat
def tw10749954590952917190:=Nat
def tw8364326129975514291:=Nat
def tw10333776602595200440:=Nat
def tw17199680279901026664:=Nat
def tw5813188303496318448:=Nat
def tw13128978211225896109:=Nat
def tw9845275897482514952:=Nat
def tw3186287987781489421:=Nat
def tw11527024813355224207:=Nat
def tw2808081612460433183:=Nat
def tw9566906699879942536:=Nat
def tw10232924683365248568:=Nat
def tw8808149048530561379:=Nat
def tw9057922208783061869:=Nat
def tw12284699409378123293:=Nat
def tw6299464613083048935:=Nat
def tw5624858052058026267:=Nat
def tw8966954773159865982:=Nat
def tw8460953540713311178:=Nat
def tw3787038591785090707:=Nat
def tw11659417585226577839:=Nat
def tw14083488774812256590:=Nat
def tw7622257591472379842:=Nat
def tw981772449228572085:=Nat
def tw3836882175865276497:=Nat
def tw10880925667148927673:=Nat
def tw995960570384910378:=Nat
def tw12154859858690962125:=Nat
def tw791135903380443421:=Nat
def tw9333282406757577054:=Nat
def tw15789448749172830729:=Nat
def tw18363650345030574135:=Nat
def tw18080154133090643101:=Nat
def tw7085013228476265408:=Nat
def tw5811693501592596145:=Nat
def tw4447025140230241018:=Nat
def tw13887851257617839489:=Nat
def tw9967142404132401803:=Nat
def tw15498045696582592609:=Nat
def tw15205709828124356811:=Nat
def tw9384802058618408598:=Nat
def tw587903932543288750:=Nat
def tw3281897977135666812:=Nat
def tw5737687951846600421:=Nat
def tw4320693711091111782:=Nat
def tw2615475176723764172:=Nat
def tw967336728766054648:=Nat
def tw12198122431598834156:=Nat
def tw11566185908663687301:=Nat
def tw5617757345208836104:=Nat
def tw10018572349299892534:=Nat
def tw3144759175691268179:=Nat
def tw5081574535225499310:=Nat
def tw2337699940878075506:=Nat
def tw8801603901762764582:=Nat
def tw17542452208830699577:=Nat
def tw7693103090285046732:=Nat
def tw1527400152157718164:=Nat
def tw3481865935538600343:=Nat
def tw11680361416774301342:=Nat
def tw6027468216920289609:=Nat
def tw7461299750664004094:=Nat
def tw16075121938148933445:=Nat
def tw13093648704049642562:=Nat
def tw2098342562135828550:=Nat
def tw7945890847160676720:=Nat
def tw16670450156471255926:=Nat
def tw9051852307867497105:=Nat
def tw15781286891529425214:=Nat
def tw9040063643797764679:=Nat
def tw14231523193678150803:=Nat
def tw7240948807116762402:=Nat
def tw13260979599828022643:=Nat
def tw2426664671342116172:=Nat
def tw7792868357824361114:=Nat
def tw10767285290313308905:=Nat
def tw16774568467216503179:=Nat
def tw18254256334381051007:=Nat
def tw8163068633894624047:=Nat
def tw18368846551725999501:=Nat
def tw1270864510634153417:=Nat
def tw2119091758850133015:=Nat
def tw16062983108278641508:=Nat
def tw17999987760221848159:=Nat
def tw14440861999091217496:=Nat
def tw15625923287324347082:=Nat
def tw10095926761594599345:=Nat
def tw5827529944737765881:=Nat
def tw7878528619923104394:=Nat
def tw3500273549684868634:=Nat
def tw7273458673813704147:=Nat
def tw38654032863651402:=Nat
def tw2399226831509059817:=Nat
def tw6856062697007841606:=Nat
def tw3640538030826554075:=Nat
def tw13197978691006529816:=Nat
def tw8883872498102563779:=Nat
def tw1717413588436237952:=Nat
def tw11224102928628023294:=Nat
def tw8516257703338623715:=Nat
def tw11105719244852578281:=Nat
def tw4638688502146803216:=Nat
def tw5519185879736139990:=Nat
def tw7453446429152239167:=Nat
def tw5611170540212261131:=Nat
def tw9675213687138067090:=Nat
def tw8920300014422901440:=Nat
def tw268810524392712598:=Nat
def tw10841661627832583649:=Nat
def tw5264504226655019815:=Nat
def tw15635831748346334010:=Nat
def tw13848910660092426228:=Nat
def tw8548751454415460856:=Nat
def tw5469790876718515640:=Nat
def tw14344858080812088172:=Nat
def tw17945420796406937748:=Nat
def tw18190393615900718514:=Nat
def tw5206015524488228206:=Nat
def tw10487743290273709962:=Nat
def tw4978381462226525129:=Nat
def tw17088602233860487906:=Nat
def tw1116519590810373304:=Nat
def tw3120576939955511923:=Nat
def tw2771973783849348848:=Nat
def tw14717490591735376415:=Nat
def tw8448981313265872002:=Nat
def tw7306094100183312003:=Nat
def tw6405461801163046689:=Nat
def tw8433893247653831468:=Nat
def tw4198012947549747779:=Nat
def tw17096415309811723823:=Nat
def tw12931075582755317969:=Nat
def tw6410738123356767063:=Nat
def tw15944743157370983483:=Nat
def tw13232785623160678335:=Nat
def tw17790388036450521787:=Nat
def tw4815043194780376624:=Nat
def tw7752047920880272267:=Nat
def tw12177564724112170528:=Nat
def tw1810919401376313231:=Nat
def tw14748988790177115522:=Nat
def tw4756015339290204666:=Nat
def tw1095050444941219649:=Nat
def tw18424186323256788085:=Nat
def tw11814361591212003682:=Nat
def tw1996141144752509395:=Nat
def tw8463691930115631620:=Nat
def tw6858672192039901905:=Nat
def tw2364093854255954020:=Nat
def tw14275695287149219805:=Nat
def tw16823824492467632490:=Nat
def tw3241387783559815806:=Nat
def tw9056597368430819590:=Nat
def tw4590177652138443291:=Nat
def tw5223487451922800798:=Nat
def tw9344805275004693005:=Nat
def tw8219398631911602146:=Nat
def tw10702336978464391125:=Nat
def tw16208155679736637907:=Nat
def tw11851454497415828819:=Nat
def tw14428787973562018529:=Nat
def tw164146842487130361:=Nat
def tw10281892940524346699:=Nat
def tw9877143873083173268:=Nat
def tw1219907859117229710:=Nat
def tw15192933648182483607:=Nat
def tw6016026838733466599:=Nat
def tw15494934251522366382:=Nat
def tw16014093664865792775:=Nat
def tw15548012660736004161:=Nat
def tw9756564107895155906:=Nat
def tw9932220547844562749:=Nat
def tw14687414694156531963:=Nat
def tw4639141067737761403:=Nat
def tw18394168825749219538:=Nat
def tw10738907647717165423:=Nat
def tw14155115801371622170:=Nat
def tw8512867242951278929:=Nat
def tw7941073683956510242:=Nat
def tw13693638598021260132:=Nat
def tw8477559548027713082:=Nat
def tw1394715128131295664:=Nat
def tw1240225868186744861:=Nat
def tw12125794038355514737:=Nat
def tw15198707774009124527:=Nat
def tw13484478522713197269:=Nat
def tw4469863162621893506:=Nat
def tw3932314309304062105:=Nat
def tw751566977365651382:=Nat
def tw4264902810060913215:=Nat
def tw17584427535621467148:=Nat
def tw2582211280419962604:=Nat
def tw10706864619535373982:=Nat
def tw10886061528427703871:=Nat
def tw7057540857819264307:=Nat
def tw6543072564770744831:=Nat
def tw1701427909853128630:=Nat
def tw16272828873344829705:=Nat
def tw6399783967778054655:=Nat
def tw13360966824095455925:=Nat
def tw1901347537830224423:=Nat
def tw11342537429979266062:=Nat
def tw12948513806235020706:=Nat
def tw4342591933315829767:=Nat
def tw11773697461514241657:=Nat
def tw15293667514222301729:=Nat
def tw8885659386613150904:=Nat
def tw1279217113136012499:=Nat
def tw1596183625971424665:=Nat
def tw1935079903440041111:=Nat
def tw16625958183668299144:=Nat
def tw6911311483362432876:=Nat
def tw13216587919458784819:=Nat
def tw1781620744788179098:=Nat
def tw2031664022963154976:=Nat
def tw13979608504375167404:=Nat
def tw6016805821558169573:=Nat
def tw14870487319666667974:=Nat
def tw2868455524066369607:=Nat
def tw14005676401251362587:=Nat
def tw5716240065588570781:=Nat
def tw6085236476819202578:=Nat
def tw9538814906517503484:=Nat
def tw7926343480960875831:=Nat
def tw16707968874181955937:=Nat
def tw15546674482213939252:=Nat
def tw6323454569449278220:=Nat
def tw16996019360659792488:=Nat
def tw9856924966305855222:=Nat
def tw16834991837571276104:=Nat
def tw13177040286451602520:=Nat
def tw16712155431486939606:=Nat
def tw16606990801433103384:=Nat
def tw9937046090057007036:=Nat
def tw9823698749974938605:=Nat
def tw1030927462441099272:=Nat
def tw2468098709130076059:=Nat
def tw2665619655582887785:=Nat
def tw9585095660756546173:=Nat
def tw14033683842609125859:=Nat
def tw5270434156353490233:=Nat
def tw16676719204642415871:=Nat
def tw17522483444683659565:=Nat
def tw1409837988777506705:=Nat
def tw14057650212784171057:=Nat
def tw14273882084687546704:=Nat
def tw5208816353661322989:=Nat
def tw5903533088945587119:=Nat
def tw17831257951868343066:=Nat
def tw7841681050680974041:=Nat
def tw14237244765337077484:=Nat
def tw10460280685993103308:=Nat
def tw4650046529345309398:=Nat
def tw16503165898969252560:=Nat
def tw15315135820029929070:=Nat
def tw3883642597600547749:=Nat
def tw5575411628504198094:=Nat
def tw8355586861595063950:=Nat
def tw8155164466099709568:=Nat
def tw14895184122926760548:=Nat
def tw14496081520111311651:=Nat
def tw18312781272181945678:=Nat
def tw17701614070505341278:=Nat
def tw6942072242073361069:=Nat
def tw3105114033943463078:=Nat
def tw971591517501335739:=Nat
def tw3044709757665389481:=Nat
def tw10972285421047202083:=Nat
def tw10506321079492492901:=Nat
def tw1435439932880725310:=Nat
def tw637749310144102776:=Nat
def tw1301583349758862223:=Nat
def tw7620922353271286319:=Nat
def tw17980367779578176318:=Nat
def tw8147535867259418612:=Nat
def tw12861342594674422619:=Nat
def tw6730181455348014664:=Nat
def tw18079960712089466363:=Nat
def tw1290911695115023682:=Nat
def tw5898058183784595570:=Nat
def tw1563725164587888641:=Nat
def tw2030409613866730369:=Nat
def tw12842598263589287329:=Nat
def tw658595562531281703:=Nat
def tw10809500183732648857:=Nat
def tw867528113310774469:=Nat
def tw3767979123013918769:=Nat
def tw13224589348248310250:=Nat
def tw2894614969769609880:=Nat
def tw16436605246312076715:=Nat
def tw17260386706166059546:=Nat
def tw3416705304518098432:=Nat
def tw3287120362666156723:=Nat
def tw4110041095986216762:=Nat
def tw3141916186674765765:=Nat
def tw7067375667075170577:=Nat
def tw12060104665901936429:=Nat
def tw6354633703891596783:=Nat
def tw9591702926308152533:=Nat
def tw5325227094347028484:=Nat
def tw9269401544845392891:=Nat
def tw1766169682384260641:=Nat
def tw14130189244297928504:=Nat
def tw4911068774588159490:=Nat
def tw1144885463338618413:=Nat
def tw6128031441887054967:=Nat
def tw15198011855853271286:=Nat
def tw5446337240856986408:=Nat
def tw15301744258625444971:=Nat
def tw6916649178962676928:=Nat
def tw17106690610584174194:=Nat
def tw8698375795659408956:=Nat
def tw14816829559326179190:=Nat
def tw3667316729819899314:=Nat
def tw15075352949831793591:=Nat
def tw5655721310388954478:=Nat
def tw16797277616368553956:=Nat
def tw335723256035511290:=Nat
def tw14688094458979367170:=Nat
def tw11162467618084024701:=Nat
def tw2314793996407284293:=Nat
def tw6542758967289033918:=Nat
def tw9616379487876332542:=Nat
def tw12827558482823537567:=Nat
def tw10725599646948428627:=Nat
def tw1826294177626640535:=Nat
def tw4793064131015610007:=Nat
def tw13484572015270868216:=Nat
def tw12399214466184491800:=Nat
def tw5396627279389218509:=Nat
def tw13833101661931669542:=Nat
def tw7768403186298845158:=Nat
def tw14208297270074321896:=Nat
def tw4397765189765154714:=Nat
def tw17958493312815849898:=Nat
def tw7801108896640284816:=Nat
def tw8338414804124896446:=Nat
def tw5818523716763579546:=Nat
def tw9331248684251277717:=Nat
def tw17203622088803654600:=Nat
def tw4765714064316251608:=Nat
def tw6231054044737526133:=Nat
def tw5509376129108348373:=Nat
def tw5752311245344231350:=Nat
def tw17537422278074325394:=Nat
def tw5536244704850057563:=Nat
def tw14205250268830241133:=Nat
def tw3792988823206287286:=Nat
def tw14086768256087538657:=Nat
def tw16683125340788588508:=Nat
def tw3512856662659105827:=Nat
def tw11128455939436717421:=Nat
def tw607287063941147352:=Nat
def tw7026947959285348428:=Nat
def tw15964173347949744585:=Nat
def tw5182073750262091790:=Nat
def tw14793236107114984379:=Nat
def tw16207840745326050205:=Nat
def tw16852835928216518482:=Nat
def tw13084107627954314925:=Nat
def tw7855114238814215956:=Nat
def tw670509822130511171:=Nat
def tw16029017481879377844:=Nat
def tw7379993450872300774:=Nat
def tw4697499122614282663:=Nat
def tw5561204768300513010:=Nat
def tw12216648903449668637:=Nat
def tw4323096517968040716:=Nat
def tw4607369498348050917:=Nat
def tw6317982349876601792:=Nat
def tw1714793057010756852:=Nat
def tw5859140025535351504:=Nat
def tw14177140373007236733:=Nat
def tw16885065427632351544:=Nat
def tw17601979251100807995:=Nat
def tw12884010261849635742:=Nat
def tw4631603342092614237:=Nat
def tw2820155061974435777:=Nat
def tw4817888926662083115:=Nat
def tw14311079870652511105:=Nat
def tw14559436748486075975:=Nat
def tw4079883784586872915:=Nat
def tw2118532705693837678:=Nat
def tw2556670906272687501:=Nat
def tw1765589621886408194:=Nat
def tw6398216064308609349:=Nat
def tw6669390299468727349:=Nat
def tw10405815267143245522:=Nat
def tw15247540383845364738:=Nat
def tw7314447939002129815:=Nat
def tw5625374585201751169:=Nat
def tw11746807626998886248:=Nat
def tw11404331678643624908:=Nat
def tw8835283522033210831:=Nat
def tw961355974678162783:=Nat
def tw9951573882481515174:=Nat
def tw11376635245333194604:=Nat
def tw16308705658421442177:=Nat
def tw17023974050869149095:=Nat
def tw11492806230947816061:=Nat
def tw16899327902863592719:=Nat
def tw3270350664636559022:=Nat
def tw7306867608713256470:=Nat
def tw15790974296562956439:=Nat
def tw6728366564964969458:=Nat
def tw15846774180838397117:=Nat
def tw17695648738330575959:=Nat
def tw1464698820580765534:=Nat
def tw4556147665334439320:=Nat
def tw16405697105020318239:=Nat
def tw14725286450596706983:=Nat
def tw6788537562862043959:=Nat
def tw1201317524806236720:=Nat
def tw5331917883477910584:=Nat
def tw14801894978074312321:=Nat
def tw9244257207318101380:=Nat
def tw17123847799171435675:=Nat
def tw8373725143944917465:=Nat
def tw6954299419368017301:=Nat
def tw13604874622123104398:=Nat
def tw11868161487512519878:=Nat
def tw9396357909705017543:=Nat
def tw2721832408276547397:=Nat
def tw9536941359014709684:=Nat
def tw17633883277191902503:=Nat
def tw10468080973806386206:=Nat
def tw18348854438848454922:=Nat
def tw16703832016247123988:=Nat
def tw1625825378402764875:=Nat
def tw9962810678936467345:=Nat
def tw13259160878057107815:=Nat
def tw309049727656706995:=Nat
def tw8858744857655523899:=Nat
def tw16100940503812984938:=Nat
def tw12779092040213193994:=Nat
def tw1866397801990997142:=Nat
def tw17563529342208771333:=Nat
def tw6832487063951965583:=Nat
def tw15706439380390414639:=Nat
def tw4886035817348412582:=Nat
def tw3872151225831475665:=Nat
def tw1999438695705052352:=Nat
def tw10987260628756740913:=Nat
def tw6999018448167234010:=Nat
def tw11193324208053591202:=Nat
def tw10970764240471444880:=Nat
def tw8265847969225324628:=Nat
def tw3789596329573920564:=Nat
def tw12372021965939623308:=Nat
def tw15101925912688865258:=Nat
def tw7438119141855293772:=Nat
def tw6989141157023940167:=Nat
def tw4422399200234401878:=Nat
def tw6692878773985139722:=Nat
def tw1071414795350988061:=Nat
def tw9428913216648513704:=Nat
def tw17621705304955391433:=Nat
def tw5705221607513396554:=Nat
def tw10828246016956496431:=Nat
def tw16948852193292245964:=Nat
def tw209871149737644133:=Nat
def tw15699215214341382797:=Nat
def tw16605841664676099418:=Nat
def tw4776286613152049852:=Nat
def tw5704649305004154497:=Nat
def tw16307282251641478911:=Nat
def tw5933113831701650389:=Nat
def tw5202778854624024770:=Nat
def tw14475823630447406987:=Nat
def tw8965399978524758447:=Nat
def tw11140651588131069569:=Nat
def tw1658098170214878519:=Nat
def tw15779128802761278485:=Nat
def tw6274827029208559049:=Nat
def tw5184079407585451742:=Nat
def tw8910905155095361688:=Nat
def tw8780447179084071401:=Nat
def tw4362595110999948344:=Nat
def tw14512893483365059604:=Nat
def tw2528166948816278065:=Nat
def tw2933100040697178943:=Nat
def tw4703029716754633056:=Nat
def tw6860412085618621181:=Nat
def tw6119690618076269534:=Nat
def tw18003674661412364038:=Nat
def tw13396163842989204884:=Nat
def tw16816965555162736384:=Nat
def tw8155693898759063131:=Nat
def tw14928054983234800646:=Nat
def tw11074002115645030059:=Nat
def tw4811100843673535364:=Nat
def tw10488861219131107046:=Nat
def tw4977548496824397097:=Nat
def tw17704672113006742620:=Nat
def tw5358620237041809783:=Nat
def tw10877260867589106666:=Nat
def tw3793925567103905811:=Nat
def tw16830951633116962533:=Nat
def tw18278329403844200840:=Nat
def tw11587231249765817602:=Nat
def tw13845019076512668893:=Nat
def tw13101715819047378108:=Nat
def tw16285208385983047985:=Nat
def tw7791980143630355001:=Nat
def tw13718298779367845872:=Nat
def tw5446661102845605737:=Nat
def tw16762127354405952486:=Nat
def tw18044421604776041215:=Nat
def tw7824323840391498869:=Nat
def tw6575277415052030444:=Nat
def tw6264605688980789542:=Nat
def tw7995582637642948939:=Nat
def tw2216205511800934175:=Nat
def tw3675444888144464803:=Nat
def tw15921540998133659209:=Nat
def tw13701370788974069664:=Nat
def tw641786557227167714:=Nat
def tw10375223149184798850:=Nat
def tw15216298484418528940:=Nat
def tw3612818926244651199:=Nat
def tw9208394339805552472:=Nat
def tw12129103823761095098:=Nat
def tw2113739762955100900:=Nat
def tw15809054170984544959:=Nat
def tw8558112871006138137:=Nat
def tw13729909556057456871:=Nat
def tw10952358945411712029:=Nat
def tw17086396113782372183:=Nat
def tw3168827695625553514:=Nat
def tw1197242884913037742:=Nat
def tw14585669615059549121:=Nat
def tw13881756373632971938:=Nat
def tw811630006852136781:=Nat
def tw15254898305541916503:=Nat
def tw12575491617244348711:=Nat
def tw17359924158530353568:=Nat
def tw13277736026210071660:=Nat
def tw9478779761926046542:=Nat
def tw18427554611417650760:=Nat
def tw13318464637905160281:=Nat
def tw1375213674775996650:=Nat
def tw12463417264948616313:=Nat
def tw15521381510434473507:=Nat
def tw14993406430427660238:=Nat
def tw11148479903875509702:=Nat
def tw4334241267554299819:=Nat
def tw3475070566994284577:=Nat
def tw16707201233273511875:=Nat
def tw18087294457680553593:=Nat
def tw13013934575900107442:=Nat
def tw15198280284440457055:=Nat
def tw856981864921161296:=Nat
def tw11776668936940695664:=Nat
def tw6282378681586164034:=Nat
def tw5176628448444984383:=Nat
def tw14247662402312678201:=Nat
def tw6001844750286045286:=Nat
def tw8562723177204804376:=Nat
def tw16104884189842762695:=Nat
def tw10916151342148922626:=Nat
def tw4251903135315244966:=Nat
def tw17264594691276649373:=Nat
def tw15996206104911692047:=Nat
def tw17411975552435866913:=Nat
end PySem.W.Fast
set_option maxHeartbeats 0 in
theorem PySem.Challenge.cw_evenyoke_k62_why_a_hand_bears_holds : PySem.Challenge.rw_evenyoke_k62_why_a_hand_bears.Holds := by
 w_on; o_law; k_head; (case hw=>w_witness2)
 k_fill
 refine NAL.RZ.walk_ofR (l:=PySem.Challenge.rw_evenyoke_k62_why_a_hand_bears) (n:=63) (k:=18) (x:="_law_script") (ev:=NAM.e_law) (ts:=[(526,NAM.lamS.qual)]) (R:=NAL.RZ.Er) NAL.RZ.Er.no rfl (by decide) rfl ⟨rfl,by decide,by decide⟩ (fun w h Y=>PySem.W.km_in_of Y) (fun w h Y b q e=>?T) (fun w b q e=>?C) (fun w=>?kt) ?F ?S
 case T=>exact PySem.W.km_tabs_of Y b (by have:=NAL.RZ.one_tab e; subst this; decide)
 case C=>have:=NAL.RZ.one_tab e; subst this; exact⟨528,by kernel_rfl⟩
 case kt=>kernel_rfl
 case S=>exact fun ns h=>⟨_,NAY.law_ok h⟩
 case F =>
  intro w mg fa h KX G hmg
  refine' NAM.all_mk KX G hmg (by decide) ?hcd ?uPour ?uRoll ?uHouse ?kN ?kNl ?ck ?sl ?fc
  (case uPour=>k_is)
  (case uRoll=>k_is)
  (case uHouse=>k_is)
  (case hcd=>kernel_rfl)
  (case kN=>k_is)
  (case kNl=>k_is)
  (case sl=>walk_at "s")
  (case fc=>(repeat (refine⟨?hh,?_⟩; (case hh=>first | walk_at "t" | (dsimp only [NAM.gC]; walk_at "m")))); exact True.intro)
  (case ck=>kernel_rfl)
